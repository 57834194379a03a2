import PyProof.Rows.All
import Wide.All
import OpenK.AllK
import Wide.FinOn
import Lean
import PyProof.EqAt
import PyProof.EqKinds
import PyProof.TupleCall
import KE.LcSums
import KE.KIntText
import KE.IntTextLaws
import KE.KRevIter
import PyProof.NeKinds
import PyProof.Rows.Range3
import KE.KMinKey
import PyProof.Draws
import PyProof.EnumMake
import PyProof.Rows.EnumRows
import KE.KCount
import PyProof.IsiH_list
import PySem.Challenge.RW_liftcourt_k34_deeds_done
set_option Elab.async false
set_option linter.all false
set_option maxRecDepth 100000
set_option maxHeartbeats 4000000
namespace PySem.W.Fast
def tw1720406040032406583:=()
def tw4882731294459703897:=()
def tw526746260046186005:=()
def tw1641357143767223809:=()
def tw14962142651784917473:=()
def tw5990977830223547329:=()
def tw13409599381935053349:=()
def tw10130618592906721601:=()
def tw7718667302909986672:=()
def tw2645703769398848346:=()
def tw309193627931333785:=()
def tw11112007105212104242:=()
def tw17582804132945722528:=()
def tw16067664879455292580:=()
def tw8912769543660936393:=()
def tw15481368307171259188:=()
def tw2196936046581221404:=()
def tw16435088329146024146:=()
def tw1042445663488721980:=()
def tw14130979187335803901:=()
def tw1464058088205316222:=()
def tw1995240713915831441:=()
def tw16284665089224628748:=()
def tw5819379641261412926:=()
def tw7881404451746606637:=()
def tw17261231989565115150:=()
def tw17688218404842762489:=()
def tw9131102516101916981:=()
def tw3909841269704528717:=()
def tw2951918604812921503:=()
def tw15979568475637922718:=()
def tw13996136670353398998:=()
def tw2102950663766661152:=()
def tw6939425478693475249:=()
def tw12681920872637542109:=()
def tw4010850693797868865:=()
def tw7001425620564152406:=()
def tw5500512245706702975:=()
def tw15139021186556937036:=()
def tw9730406010218736714:=()
def tw14514876919351594255:=()
def tw1748396545850265920:=()
def tw15135374313229445923:=()
def tw3482973912908106132:=()
def tw14379199519732507778:=()
def tw10668878193804631199:=()
def tw11536324450023679656:=()
def tw16417217383644668593:=()
def tw17598888493809422400:=()
def tw5655295638132833282:=()
def tw6842730685522429962:=()
def tw7641023381706271724:=()
def tw14044487562146869739:=()
def tw14438103049585734064:=()
def tw10308698813481034468:=()
def tw16851331640055185699:=()
def tw17615486107256013701:=()
def tw2891932162383210062:=()
def tw7328490457855749912:=()
def tw6963453464679077928:=()
def tw13762312069805227689:=()
def tw2922654903901409753:=()
def tw3978273250104494902:=()
def tw11347036823694548093:=()
def tw5841258811817967478:=()
def tw10184313144612445702:=()
def tw18070830096397485012:=()
def tw9163589232696841119:=()
def tw12766534425009147880:=()
def tw3783149358110470271:=()
def tw14176338450847829256:=()
def tw4751984519598819918:=()
def tw1259552521348049544:=()
def tw10358041223822310927:=()
def tw8425813853183597318:=()
def tw13162857694115525715:=()
def tw15716939437469625856:=()
def tw9573469239207636524:=()
def tw10783221216467786933:=()
def tw14716299356257514125:=()
def tw9533806271013313111:=()
def tw12252420320025241033:=()
def tw10920388948215961147:=()
def tw9885418902596979685:=()
def tw7308105092951250934:=()
def tw2301890731124271012:=()
def tw4690102330673820625:=()
def tw17369620486875809384:=()
def tw11562868102498941598:=()
def tw7946404616574814056:=()
def tw5603854306985898676:=()
def tw13695184938523152842:=()
def tw1864618211169801175:=()
def tw3934947287478292532:=()
def tw13523955882223814457:=()
def tw1583524100105370439:=()
def tw15279729411916661964:=()
def tw2107550273951749078:=()
def tw292737006509136077:=()
def tw9975184413867806260:=()
def tw9398495063115578015:=()
def tw4145640779128824465:=()
def tw7375484459682848574:=()
def tw12494856828994504716:=()
def tw14048471490079215811:=()
def tw16925335751297425528:=()
def tw12617349469190436229:=()
def tw10676171880664003641:=()
def tw15657153933224802895:=()
def tw10988882819573798848:=()
def tw1364053525972734531:=()
def tw15346910831728804720:=()
def tw15024375578159953079:=()
def tw1234561885735182477:=()
def tw3254960689500505955:=()
def tw18353639663847874478:=()
def tw1161368439043595842:=()
def tw7405149944875237181:=()
def tw5372445241510726358:=()
def tw10439402394708919615:=()
def tw13926559057709397667:=()
def tw7876269756150054661:=()
def tw8831277482690682413:=()
def tw10377703705670886671:=()
def tw15053959574279531469:=()
def tw1631784223394302718:=()
def tw10998632503637498078:=()
def tw5615870460876730340:=()
def tw10869914615704680143:=()
def tw11633836702123926054:=()
def tw8321827316860543200:=()
def tw11280879431656453329:=()
def tw10968892882906114149:=()
def tw13640227379668905240:=()
def tw10900330366992713824:=()
def tw13768764472071048800:=()
def tw16951807988402174580:=()
def tw10597856876528894492:=()
def tw6437651727427116513:=()
def tw4141601769971482345:=()
def tw9466138491376101963:=()
def tw1697083486538267175:=()
def tw1963043810571342976:=()
def tw12328684413929094285:=()
def tw2583292814739600613:=()
def tw10260895405655279742:=()
def tw14007939222764622740:=()
def tw6211180010869326243:=()
def tw839128483769514492:=()
def tw875472579993348402:=()
def tw16858804175792282708:=()
def tw17475284864868520099:=()
def tw8868391086444560597:=()
def tw4739929053349146887:=()
def tw7206424775209455669:=()
def tw4030787946891311307:=()
def tw9136522337867380308:=()
def tw5226141674412883344:=()
def tw5056553674823514569:=()
def tw5923401064164006860:=()
def tw15265855060512841220:=()
def tw15349610246699153758:=()
def tw8121609437019055581:=()
def tw4779708874440806007:=()
def tw491173735392116044:=()
def tw4911525287596230067:=()
def tw16512726437718034101:=()
def tw6744976802040751157:=()
def tw14002697239011837555:=()
def tw12989506430190598599:=()
def tw8772648720563188854:=()
def tw8004857274439800355:=()
def tw14147564433497178790:=()
def tw11272816162060392616:=()
def tw17477549766562313378:=()
def tw12085087600681046626:=()
def tw14440199781903877853:=()
def tw11158061494595412670:=()
def tw3016098701808427936:=()
def tw15558547113766146220:=()
def tw9001822083559479434:=()
def tw18010627569448563756:=()
def tw8822837702513306809:=()
def tw8090536065921241030:=()
def tw11359285743721674816:=()
def tw16040322510634001474:=()
def tw11770826303210083795:=()
def tw11094665879046858839:=()
def tw406246190903050451:=()
def tw4073554067408863466:=()
def tw983554493171418571:=()
def tw11385089840640616107:=()
def tw16180928611035911110:=()
def tw14318093290219988150:=()
def tw16275196651718951033:=()
def tw18261586269420266914:=()
def tw11577654266538345328:=()
def tw9054843176016793984:=()
def tw17632945022269480421:=()
def tw15649612030608236068:=()
def tw17067782818340286473:=()
def tw7013096191311459979:=()
def tw15752281518520799043:=()
def tw13388487907758317585:=()
def tw5369657647848397315:=()
def tw14639088715189906432:=()
def tw3056074244922517270:=()
def tw7427281240910873749:=()
def tw4238452583079464695:=()
def tw3177486784639391493:=()
def tw9164833993946634184:=()
def tw11016677004910717674:=()
def tw14521718114194338273:=()
def tw17250866119470623780:=()
def tw6003352452071788369:=()
def tw2148330729277476869:=()
def tw7755504918640838016:=()
def tw16625628785604971256:=()
def tw13423280566985742878:=()
def tw5213289068917682805:=()
def tw9140102175639777196:=()
def tw15731382131836065779:=()
def tw16028785004301935496:=()
def tw3558971718066963525:=()
def tw12318600454178748298:=()
def tw10803023601540371197:=()
def tw2686048092597897925:=()
def tw6889710675891202036:=()
def tw6652497292462457218:=()
def tw1948330430518620375:=()
def tw8465546437862469798:=()
def tw5855565625346875715:=()
def tw14817959105804127024:=()
def tw1626891990177075472:=()
def tw11131732957471401104:=()
def tw1399964636112525817:=()
def tw964542862856479125:=()
def tw15572628080310363386:=()
def tw3124240908475885869:=()
def tw15362546224370266488:=()
def tw4549089746119566158:=()
def tw8845156553317831005:=()
def tw1434530414902425698:=()
def tw2789351681787873506:=()
def tw441792969530407861:=()
def tw15605780812478756886:=()
def tw5986237938236037532:=()
def tw7534547768442907248:=()
def tw10829599057413237689:=()
def tw14849224957663464065:=()
def tw9903037790571802085:=()
def tw10112725078254988510:=()
def tw2023410947618804350:=()
def tw5994637089210513803:=()
def tw15480468210004564162:=()
def tw5476724987957814219:=()
def tw15191151675438287074:=()
def tw10989772954620033169:=()
def tw5639242393897871734:=()
def tw13527159621482273282:=()
def tw616557428654665144:=()
def tw9456590606164105647:=()
def tw18055506253567817655:=()
def tw10754598785399586674:=()
def tw11099713011440825981:=()
def tw14980941071601036350:=()
def tw15305707771626633417:=()
def tw4331959218469072292:=()
def tw6629964596838382656:=()
def tw7568968421257810914:=()
def tw699461994313748585:=()
def tw1141936402752874097:=()
def tw6754576111985495347:=()
def tw17406815953740794496:=()
def tw4406864414669350610:=()
def tw869424898629715988:=()
def tw14578035818358695928:=()
def tw4257715870037656279:=()
def tw4796915632802459438:=()
def tw2602677185742637860:=()
def tw7655469594728003369:=()
def tw2353275695741731091:=()
def tw14296167137901066218:=()
def tw2268145921122260499:=()
def tw10151024682455236560:=()
def tw14442680579542546064:=()
def tw12948874162152281310:=()
def tw15972600818894652433:=()
def tw15093417829768839963:=()
def tw10159206914063949358:=()
def tw6391463270298931093:=()
def tw1757733779412589262:=()
def tw10968129101175069568:=()
def tw8291970525570659936:=()
def tw2073799377603874799:=()
def tw6062888273500086735:=()
def tw16738901468742890085:=()
def tw15839386695491746213:=()
def tw7910039968091944140:=()
def tw10994096576988817647:=()
def tw16681735640760511790:=()
def tw3178880293493564041:=()
def tw3403632969713054366:=()
def tw10899674604986610893:=()
def tw4947322543482553632:=()
def tw14743307352031603937:=()
def tw4204451900943806167:=()
def tw16237074532092084361:=()
def tw7162787934170868610:=()
def tw8553690274059916235:=()
end PySem.W.Fast
abbrev Fg:=PySem.W.Frag
local macro_rules|`(tactic|ext)=>`(tactic|conv=>whnf)
local macro_rules|`(tactic|rwa[$x:term])=>`(tactic|refine $x)
local macro_rules|`(tactic|erw[$x:term])=>`(tactic|(refine $x;conv=>whnf))
local macro_rules|`(tactic|left)=>`(tactic|walk_at "l3go")
set_option hygiene false in
local macro_rules
|`(↑0)=>`(⟨rfl,rfl,rfl,by decide+kernel,rfl,by decide+kernel,by decide+kernel⟩)
|`(↑1)=>`((by decide))
|`(↑2)=>`((λcdv A outer s H vs Q E hr h=> ?_))
|`(↑3)=>`((λ_ _=>rfl))
|`(↑4)=>`((av (K:=K) rfl))
|`(↑5)=>`((by omega))
|`(↑6)=>`((Or.inl rfl))
|`(↑7)=>`((by rw [hx];decide+kernel))
|`(↑8)=>`((λvs H Q E h=> ?_))
|`(↑9)=>`((model X.prog X.w))
|`(↑10)=>`((aR (K:=K) rfl hr))
|`(↑11)=>`((ak ↑4 (wv 0) aa ↑3))
|`(↑12)=>`((aW (K:=K) rfl (wv 0)))
|`(↑13)=>`((ak ↑4 (wv 2) aa ↑3))
|`(↑14)=>`((ak ↑4 (wv 1) aa ↑3))
|`(↑15)=>`((Nat.le_refl _))
|`(↑16)=>`((show List.Nodup (["tag","start","goal","lift"]:List Str) by decide+kernel))
|`(↑17)=>`((bB (by show 2<=1000000;decide)))
|`(↑18)=>`((ao aE hr ↑1 rfl (ac (wv 0) (ac (wv 1) (ac aa (ac aa ae))))))
|`(↑19)=>`((bR [] [(Sum.inr (Str.ofString "stick"),.int 1),(Sum.inr (Str.ofString "goods"),.int 2)]))
|`(↑20)=>`((Addr×Obj))
|`(↑21)=>`((bR [] [(Sum.inr (Str.ofString "free"),.int 2),(Sum.inr (Str.ofString "back"),.int 1)]))
|`(↑22)=>`((ag (aH (cz (K:=K) rfl PySem.F.plainAttrs_list PySem.F.slot_list_append PySem.F.type_list_append bw (wv 1) (ac (aP (ac aq (ac aa ae))) ae)))))
|`(↑23)=>`((aY (K:=K) rfl))
|`(↑24)=>`((λj us HX h=>by rw [h.2,List.length_map,List.length_map,List.length_take];exact Nat.min_le_left _ _))
|`(↑25)=>`((ao aE hr ↑1 rfl (ac (wv 0) (ac aa (ac aa (ac aa ae))))))
|`(↑26)=>`((by decide+kernel))
|`(↑27)=>`((by simp))
|`(↑28)=>`((ak ↑4 (wv 3) aa ↑3))
|`(↑29)=>`((λj y us HX hy hP=> ?_))
|`(↑30)=>`((bx (bX hr) (wv 1) aq ↑3))
|`(↑31)=>`((λC s H ex=>(aC (i:=0) (show List.Nodup (["_law_cabin_here"]:List Str) by decide+kernel) rfl ↑6)))
|`(↑32)=>`((bP (K:=K) rfl))
|`(↑33)=>`((by kernel_rfl))
|`(↑34)=>`((ac (wv 1) ae))
|`(↑35)=>`((bB (by show 0<=1000000;decide)))
|`(↑36)=>`((x==("__debug__":Str)))
|`(↑37)=>`((λC s H ex=>bE))
|`(↑38)=>`((model prog w))
|`(↑39)=>`((some (.builtin "object.__setattr__")))
|`(↑40)=>`((bN X scope N' C s H ex))
|`(↑41)=>`((Nat.lt_of_lt_of_le (Heap.lt_size e) I.ok.above))
|`(↑42)=>`((bR [] [(kR,.ref lr),(kL,.int last),(kF,.bl fire),(kG,.ref lg)]))
|`(↑43)=>`((bJ hs.lo ⟨cs,ws,last,fire,0,[]⟩ ds))
|`(↑44)=>`((show List.Nodup (["tag","goal"]:List Str) by decide+kernel))
namespace L2
open PySem PySem.Spec PyProof.Rows
abbrev cX:=Sum Int Str
def uy:cX->Value->Bool
 | .inl k,v=>Value.isInt k v
 | .inr x,v=>Value.isStrOf x v
def Op (w:World):cX->Int
 | .inl k=>hashInt k
 | .inr x=>hashStr w x
theorem cP:∀ {k:cX} {v:Value},uy k v=true->(∃i t,k=Sum.inl i/\v=Value.int i t)\/(∃x t,k=Sum.inr x/\v=Value.str x t)
 | .inl i,v,h=>by
   obtain ⟨t,e⟩:=Value.isInt_shape (k:=i) (v:=v) h;exact .inl ⟨i,t,rfl,e⟩
 | .inr x,v,h=>by
   obtain ⟨t,e⟩:=Value.isStrOf_shape (x:=x) (v:=v) h;exact .inr ⟨x,t,rfl,e⟩
theorem Bq (i:Int)(t:Tok):uy (.inl i) (.int i t)=true:=by simp [uy,Value.isInt]
theorem Bp (x:Str)(t:Tok):uy (.inr x) (.str x t)=true:=by simp [uy,Value.isStrOf]
theorem JU (a b:Int):decide ((Sum.inl a:cX)=Sum.inl b)=(a==b):=by
 by_cases e:a=b
 ·subst e;simp
 ·have h: ¬(Sum.inl a:cX)=Sum.inl b:=λq=>e (Sum.inl.inj q);rw [decide_eq_false h];exact (beq_eq_false_iff_ne.mpr e).symm
theorem JR (a b:Str):decide ((Sum.inr a:cX)=Sum.inr b)=decide (a=b):=by
 by_cases e:a=b
 ·subst e;simp
 ·have h: ¬(Sum.inr a:cX)=Sum.inr b:=λq=>e (Sum.inr.inj q);rw [decide_eq_false h,decide_eq_false e]
theorem JT (a:Int)(b:Str):decide ((Sum.inl a:cX)=Sum.inr b)=false:=decide_eq_false (λq=>nomatch q)
theorem JS (a:Str)(b:Int):decide ((Sum.inr a:cX)=Sum.inl b)=false:=decide_eq_false (λq=>nomatch q)
def cN (prog:Program)(w:World):PySem.KeyKind prog w cX where
 is:=uy
 hash:=Op w
 inj:=λv a b ha hb=>by
  rcases cP ha with ⟨i,t,rfl,rfl⟩|⟨x,t,rfl,rfl⟩
  ·rcases cP hb with ⟨j,u,rfl,e⟩|⟨y,u,rfl,e⟩
   ·injection e with e1 _;rw [e1]
   ·exact nomatch e
  ·rcases cP hb with ⟨j,u,rfl,e⟩|⟨y,u,rfl,e⟩
   ·exact nomatch e
   ·injection e with e1 _;rw [e1]
 byValue:=λk v h=>by
  rcases cP h with ⟨i,t,rfl,rfl⟩|⟨x,t,rfl,rfl⟩<;>rfl
 pyHash:=λhv h=>by
  rcases cP hv with ⟨i,t,rfl,rfl⟩|⟨x,t,rfl,rfl⟩
  ·exact wpAny_pyHash_int h
  ·exact wpAny_pyHash_str h
 eqBool:=λhu hv h=>by
  rcases cP hu with ⟨i,t,rfl,rfl⟩|⟨x,t,rfl,rfl⟩
  ·rcases cP hv with ⟨j,u,rfl,rfl⟩|⟨y,u,rfl,rfl⟩
   ·rw [JU] at h;exact wpAny_eqBool_int h
   ·rw [JT] at h;exact SeqAt.EqAt.int_str i t y u _ _ _ _ h
  ·rcases cP hv with ⟨j,u,rfl,rfl⟩|⟨y,u,rfl,rfl⟩
   ·rw [JS] at h;exact SeqAt.EqAt.str_int x t j u _ _ _ _ h
   ·rw [JR] at h;exact wpAny_eqBool_str h
 «strs»:=λk x t v h=>by
  rcases cP h with ⟨i,u,rfl,e⟩|⟨y,u,rfl,e⟩
  ·exact nomatch e
  ·injection e with e1 _
   subst e1
   cases v<;>rfl
theorem xE (prog:Program)(w:World)(i:Int)(t:Tok):(cN prog w).is (.inl i) (.int i t)=true:=Bq i t
theorem xD (prog:Program)(w:World)(x:Str)(t:Tok):(cN prog w).is (.inr x) (.str x t)=true:=Bp x t
inductive V where
 |non|bl (b:Bool)|int (i:Int)|str (x:Str)|byt (b:Array UInt8)|flt (b:UInt64)|ref (a:Addr)|ty (n:String)
 deriving DecidableEq
def bp:V->Value->Prop
 | .non,u=>u=Value.none
 | .bl b,u=>u=Value.bool b
 | .int i,u=>∃t,u=Value.int i t
 | .str x,u=>∃t,u=Value.str x t
 | .byt b,u=>∃t,u=Value.bytes b t
 | .flt b,u=>∃t,u=Value.float b t
 | .ref a,u=>u=Value.ref a
 | .ty n,u=>u=Value.type n
abbrev bo:List V->List Value->Prop:=Paired bp
theorem bo.length {xs:List V}{us:List Value}(r:bo xs us):xs.length=us.length:=Paired.length r
theorem bo.get:∀ {xs:List V} {us:List Value} {i:Nat} {x:V},bo xs us->xs[i]? =some x->∃u,us[i]? =some u/\bp x u
 |_,_,_,_,.nil,e=>by simp at e
 |_,_,0,_,.cons r _,e=>by simp at e;subst e;exact ⟨_,rfl,r⟩
 |_,_,i+1,x,.cons _ t,e=>by
  obtain ⟨u,h1,h2⟩:=bo.get (i:=i) (x:=x) t (by simpa using e);exact ⟨u,by simpa using h1,h2⟩
theorem bo.set {x:V}{u:Value}(r:bp x u):∀ {xs:List V} {us:List Value} (i:Nat),bo xs us->bo (xs.set i x) (us.set i u)
 |_,_,_,.nil=> .nil
 |_,_,0,.cons _ t=> .cons r t
 |_,_,i+1,.cons q t=> .cons q (bo.set r i t)
theorem bo.append:∀ {xs ys:List V} {us ws:List Value},bo xs us->bo ys ws->bo (xs++ys) (us++ws)
 |_,_,_,_,.nil,s=>s
 |_,_,_,_,.cons r t,s=> .cons r (bo.append t s)
theorem bo.take:∀ {xs:List V} {us:List Value} (n:Nat),bo xs us->bo (xs.take n) (us.take n)
 |_,_,0,_=> .nil
 |_,_,_+1,.nil=> .nil
 |_,_,n+1,.cons r t=> .cons r (bo.take n t)
theorem bo.drop:∀ {xs:List V} {us:List Value} (n:Nat),bo xs us->bo (xs.drop n) (us.drop n)
 |_,_,0,r=>r
 |_,_,_+1,.nil=> .nil
 |_,_,n+1,.cons _ t=>bo.drop n t
def jD:Option V->Option Value->Prop
 |some v,some u=>bp v u
 |none,none=>True
 |_,_=>False
def KV {κ:Type}:List (κ×V)->List (κ×Value)->Prop:=Paired λ(p:κ×V) (q:κ×Value)=>p.1=q.1/\bp p.2 q.2
def kV:cX->V
 | .inl i=> .int i
 | .inr x=> .str x
inductive HO where
 |lst (xs:List V)
 |tup (xs:List V)
 |dK (kvs:List (cX×V))|dT (kvs:List (List cX×V))
 |set (S:Int->Bool) (n:Nat)
 |ins (C dx:Addr) (fs:List (Str×V))
 |own (x:Addr)
 |xd (fs:List (Str×V))
 |met (f x:Addr)
 |rng (lo hi:Int)
 |frz (o:Obj) (u:HO)
 |tbl (ps:Array Value)
 |ext (φ:Heap->Prop)
abbrev Hp:=Addr->Option HO
def upd (H:Hp)(a:Addr)(o:HO):Hp:=λb=>if b=a then some o else H b
theorem aj {H:Hp}{a:Addr}{o:HO}:upd H a o a=some o:=by unfold upd;rw [if_pos rfl]
theorem am {H:Hp}{a b:Addr}{o:HO}(h:b≠a):upd H a o b=H b:=by unfold upd;rw [if_neg h]
theorem zS {H:Hp}{a:Addr}{o u:HO}:upd (upd H a o) a u=upd H a u:=by
 funext b;unfold upd;split<;>rfl
theorem L9 {H:Hp}{a b:Addr}{o u:HO}(h:H a=some o)(h':H b=some u)(d:o≠u):a≠b:=by
 intro e;subst e;rw [h] at h';exact d (Option.some.inj h')
theorem bQ {H:Hp}{a b:Addr}{o:HO}(h:H a=some o)(h':H b=none):a≠b:=by
 intro e;subst e;rw [h] at h';cases h'
section
variable (P:Program)(w:World)
def bS (H:Hp)(h:Heap)(a:Addr):HO->Prop
 | .lst xs=>xs.length<=sizeLine/\∃(its:List Value) (n:Nat),bo xs its/\h.get? a=some {cls:= .type "list",data:= .seq its.toArray n}
 | .tup xs=>xs.length<=sizeLine/\∃its:List Value,bo xs its/\IsTup h a its.toArray
 | .dK kvs=>kvs.length<=sizeLine/\(a==sysModules)=false/\∃vs,KV kvs vs/\h.DictOf (cN P w) a vs
 | .dT kvs=>kvs.length<=sizeLine/\(a==sysModules)=false/\∃xs:List (List cX×Addr×Value),
    Paired (λ(p:List cX×V) (q:List cX×Addr×Value)=>p.1=q.1/\H q.2.1=some (.tup (p.1.map kV))/\bp p.2 q.2.2) kvs xs/\
    ∃o es ep,h.get? a=some o/\o.ExactDict/\o.data= .dict es ep/\es.toList=xs.map (entryOfKey (tupleKind (cN P w)))/\(xs.map (·.1)).Nodup
 | .set S n=>h.SetOf (intKind P w) a S n
 | .ins C dx fs=>H dx=some (.own a)/\fs.length<=1000/\dx≠a/\h.get? a=some (W.instObj C dx)/\
    ∃mA,h.Ns1 dx mA/\(∀f,jD (fs.lookup f) (mA f))/\PySem.Within mA (fs.map (·.1))
 | .own _=>∃o,h.get? a=some o
 | .xd fs=>∃mA,h.Ns1 a mA/\∀f,jD (fs.lookup f) (mA f)
 | .rng lo hi=>∃t u v,h.get? a=some {cls:= .type "range",data:= .fields #[.int lo t,.int hi u,.int 1 v]}
 | .frz o u=>h.get? a=some o/\bS H h a u
 | .tbl ps=>h.get? a=some {cls:= .none,data:= .fields ps}
 | .met f x=>h.get? a=some (W.methodObj (.ref f) (.ref x))
 | .ext φ=>φ h/\(∃o,h.get? a=some o)/\∀h1 h2:Heap,φ h1->(∀o,h1.get? a=some o->h2.get? a=some o)->φ h2
def io (H:Hp)(h:Heap):Prop:=∀a o,H a=some o->bS P w H h a o
end
section
variable {P:Program}{w:World}{H H':Hp}{h h':Heap}{a:Addr}{o:HO}
theorem bS.lt (x:bS P w H h a o):a<h.objs.size:=by
 cases o with
 |lst xs=>obtain ⟨_,_,_,_,e⟩:=x;exact Heap.lt_size e
 |tup xs=>obtain ⟨_,_,_,p⟩:=x;exact p.lt
 |dK kvs=>obtain ⟨_,_,_,_,o,_,_,e,_⟩:=x;exact Heap.lt_size e
 |dT kvs=>obtain ⟨_,_,_,_,o,_,_,e,_⟩:=x;exact Heap.lt_size e
 |set S n=>obtain ⟨o,_,_,_,e,_⟩:=x;exact Heap.lt_size e
 |ins C dx fs=>obtain ⟨_,_,_,e,_⟩:=x;exact Heap.lt_size e
 |own y=>obtain ⟨_,e⟩:=x;exact Heap.lt_size e
 |xd fs=>obtain ⟨_,⟨_,_,_,e,_⟩,_⟩:=x;exact Heap.lt_size e
 |rng lo hi=>obtain ⟨_,_,_,e⟩:=x;exact Heap.lt_size e
 |frz ob u=>obtain ⟨e,_⟩:=x;exact Heap.lt_size e
 |tbl ps=>exact Heap.lt_size (show h.get? a=some _ from x)
 |met f y=>exact Heap.lt_size (show h.get? a=some _ from x)
 |ext φ=>obtain ⟨_,⟨_,e⟩,_⟩:=x;exact Heap.lt_size e
theorem Paired.mapP {α β:Type}{F G:α->β->Prop}:∀ {l₁:List α} {l₂:List β},Paired F l₁ l₂->(∀a b,F a b->G a b)->Paired G l₁ l₂
 |_,_,.nil,_=> .nil
 |_,_,.cons r t,f=> .cons (f _ _ r) (Paired.mapP t f)
theorem Paired.imp' {α β:Type}{F G:α->β->Prop}(f:∀a b,F a b->G a b){l₁:List α}{l₂:List β}(r:Paired F l₁ l₂):Paired G l₁ l₂:=Paired.mapP r f
theorem bS.stay (x:bS P w H h a o)(k:∀b u,(b=a\/H b=some (.own a))->h.get? b=some u->h'.get? b=some u)
(ho:∀b,H b=some (.own a)->H' b=some (.own a))(ht:∀b xs,H b=some (.tup xs)->H' b=some (.tup xs)):bS P w H' h' a o:=by
 induction o with
 |lst xs=>obtain ⟨z,its,n,r,e⟩:=x;exact ⟨z,its,n,r,k _ _ (.inl rfl) e⟩
 |tup xs=>obtain ⟨z,its,r,ob,e,c⟩:=x;exact ⟨z,its,r,ob,k _ _ (.inl rfl) e,c⟩
 |dK kvs=>obtain ⟨z,y,vs,r,ob,es,ep,e,c⟩:=x;exact ⟨z,y,vs,r,ob,es,ep,k _ _ (.inl rfl) e,c⟩
 |dT kvs=>
  obtain ⟨z,y,xs,r,ob,es,ep,e,c⟩:=x;exact ⟨z,y,xs,Paired.mapP r λp q z=>⟨z.1,ht _ _ z.2.1,z.2.2⟩,ob,es,ep,k _ _ (.inl rfl) e,c⟩
 |set S n=>obtain ⟨ob,es,ep,t,e,c⟩:=x;exact ⟨ob,es,ep,t,k _ _ (.inl rfl) e,c⟩
 |ins C dx fs=>
  obtain ⟨d,z,ne,e,mA,⟨od,es,ep,e2,c⟩,r⟩:=x;exact ⟨ho _ d,z,ne,k _ _ (.inl rfl) e,mA,⟨od,es,ep,k _ _ (.inr d) e2,c⟩,r⟩
 |own y=>obtain ⟨ob,e⟩:=x;exact ⟨ob,k _ _ (.inl rfl) e⟩
 |xd fs=>obtain ⟨mA,⟨od,es,ep,e,c⟩,r⟩:=x;exact ⟨mA,⟨od,es,ep,k _ _ (.inl rfl) e,c⟩,r⟩
 |rng lo hi=>obtain ⟨t,u,v,e⟩:=x;exact ⟨t,u,v,k _ _ (.inl rfl) e⟩
 |frz ob u ih=>obtain ⟨e,q⟩:=x;exact ⟨k _ _ (.inl rfl) e,ih q⟩
 |tbl ps=>
  have e:h.get? a=some {cls:= .none,data:= .fields ps}:=x;show h'.get? a=some {cls:= .none,data:= .fields ps};exact k a _ (.inl rfl) e
 |met f y=>
  have e:h.get? a=some (W.methodObj (.ref f) (.ref y)):=x;show h'.get? a=some (W.methodObj (.ref f) (.ref y));exact k a _ (.inl rfl) e
 |ext φ=>obtain ⟨p,⟨o,e⟩,st⟩:=x;exact ⟨st _ _ p λo q=>k _ _ (.inl rfl) q,⟨o,k _ _ (.inl rfl) e⟩,st⟩
theorem io.lt (x:io P w H h)(e:H a=some o):a<h.objs.size:=(x a o e).lt
theorem io.fresh (x:io P w H h)(e:h.objs.size<=a):H a=none:=by
 cases q:H a with
 |none=>rfl
 |some u=>exact absurd (Nat.lt_of_lt_of_le (x.lt q) e) (Nat.lt_irrefl _)
theorem io.kept (x:io P w H h)(k:∀b u,h.get? b=some u->h'.get? b=some u):io P w H h':=λa o e=>
 (x a o e).stay (λb u _ q=>k b u q) (λ_ q=>q) λ_ _ q=>q
theorem io.laid (x:io P w H h)(k:∀b u,h.get? b=some u->h'.get? b=some u)(hp:h.objs.size<=a)(new:bS P w (upd H a o) h' a o):io P w (upd H a o) h':=λb u e=>by
 have hn:=x.fresh hp;by_cases hb:b=a
 ·subst hb;rw [aj] at e;cases e;exact new
 ·rw [am hb] at e
  exact (x b u e).stay (λc v _ q=>k c v q) (λc q=>by rw [am (bQ q hn)];exact q) λc xs q=>by rw [am (bQ q hn)];exact q
end
def Rd (H:Hp)(a:Addr)(u:HO):Prop:=H a=some u\/∃o,H a=some (.frz o u)
theorem Rd.ok {P:Program}{w:World}{H:Hp}{h:Heap}{a:Addr}{u:HO}(r:Rd H a u)(x:io P w H h):bS P w H h a u:=by
 rcases r with r|⟨o,r⟩
 ·exact x a u r
 ·obtain ⟨_,q⟩:=x a _ r;exact q
def MR:Option HO->Prop
 |some (.lst _)=>True
 |some (.dK _)=>True
 |some (.dT _)=>True
 |some (.set _ _)=>True
 |some (.ins _ _ _)=>True
 |some (.ext _)=>True
 |_=>False
section
variable {P:Program}{w:World}{H:Hp}{h h':Heap}{x e:Addr}{o':HO}
theorem io.write (ok:io P w H h)(mu:MR (H x))(he:e=x\/H e=some (.own x))(k:∀b u,b≠e->h.get? b=some u->h'.get? b=some u)(heo:∃u,h'.get? e=some u)
(new:bS P w (upd H x o') h' x o'):io P w (upd H x o') h':=λb u q=>by
 have nown:∀c y,H c=some (.own y)->c≠x:=λc y r z=>by subst z;rw [r] at mu;exact mu
 have ntup:∀c xs,H c=some (.tup xs)->c≠x:=λc xs r z=>by subst z;rw [r] at mu;exact mu
 by_cases hb:b=x
 ·subst hb;rw [aj] at q;cases q;exact new
 ·rw [am hb] at q;by_cases hbe:b=e
  ·have q':H b=some (.own x):=by
    rcases he with z|z
    ·exact absurd (hbe.trans z) hb
    ·rw [hbe];exact z
   rw [q] at q';cases q';obtain ⟨v,hv⟩:=heo;exact ⟨v,by rw [hbe];exact hv⟩
  ·refine (ok b u q).stay (λc v hc r=>k c v ?_ r) (λc r=>by rw [am (nown c b r)];exact r) λc xs r=>by rw [am (ntup c xs r)];exact r
   rcases hc with rfl|hc
   ·exact hbe
   ·rintro rfl
    rcases he with z|z
    ·exact nown c b hc z
    ·rw [hc] at z;cases z;exact hb rfl
end
structure Un (fs ex:List Addr)(H H':Hp)(h h':Heap):Prop where
 keep:∀b o,h.get? b=some o->H b=none->b∉fs->b∉ex->h'.get? b=some o
 slot:∀b o,h.get? b=some o->H b=none->b∈fs->b∉ex->∃sl,h'.get? b=some {o with slots:=sl}
 free:∀b o,h.get? b=some o->H b=none->b∉ex->H' b=none
 there:∀b o,h.get? b=some o->b∉ex->∃o',h'.get? b=some o'
 tups:∀b xs,H b=some (.tup xs)->H' b=some (.tup xs)
 frzs:∀b o u,H b=some (.frz o u)->H' b=some (.frz o u)
 tbls:∀b ps,H b=some (.tbl ps)->∃more,H' b=some (.tbl (ps++more))
section
variable {fs fs' ex ex':List Addr}{H H1 H2:Hp}{h h1 h2 h':Heap}{a x e:Addr}{o:HO}
theorem Un.any (u:Un fs ex H H1 h h1){b:Addr}{ob:Obj}(q:h.get? b=some ob)(n:H b=none)(hx:b∉ex):∃sl,h1.get? b=some {ob with slots:=sl}:=by
 by_cases hb:b∈fs
 ·exact u.slot b ob q n hb hx
 ·exact ⟨ob.slots,u.keep b ob q n hb hx⟩
theorem Un.kept (k:∀b u,h.get? b=some u->h'.get? b=some u):Un fs ex H H h h':=
 ⟨λb ob q _ _ _=>k b ob q,λb ob q _ _ _=>⟨ob.slots,k b ob q⟩,λ_ _ _ n _=>n,λb ob q _=>⟨ob,k b ob q⟩,λ_ _ q=>q,λ_ _ _ q=>q,λ_ ps q=>⟨#[],by rw [q];simp⟩⟩
theorem Un.refl:Un fs ex H H h h:=Un.kept λ_ _ q=>q
theorem Un.laid (k:∀b u,h.get? b=some u->h'.get? b=some u)(hp:h.objs.size<=a)(hn:H a=none):Un fs ex H (upd H a o) h h' where
 keep:=λb u q _ _ _=>k b u q
 slot:=λb u q _ _ _=>⟨u.slots,k b u q⟩
 free:=λb u q n _=>by rw [am (Nat.ne_of_lt (Nat.lt_of_lt_of_le (Heap.lt_size q) hp))];exact n
 there:=λb u q _=>⟨u,k b u q⟩
 tups:=λb xs q=>by rw [am (bQ q hn)];exact q
 frzs:=λb u xs q=>by rw [am (bQ q hn)];exact q
 tbls:=λb ps q=>⟨#[],by rw [am (bQ q hn),q];simp⟩
theorem Un.write (mu:MR (H x))(he:e=x\/H e=some (.own x))(k:∀b u,b≠e->h.get? b=some u->h'.get? b=some u)(heo:∃u,h'.get? e=some u):Un fs ex H (upd H x o) h h':=by
 have hx:∀b,H b=none->b≠x:=λb n z=>by subst z;rw [n] at mu;exact mu
 have hb:∀b,H b=none->b≠e:=λb n z=>by
  subst z
  rcases he with r|r
  ·exact hx b n r
  ·rw [n] at r;cases r
 have hm:∀b u,H b=some u-> ¬MR (some u)->b≠x:=λb u q nm z=>by subst z;rw [q] at mu;exact nm mu
 refine ⟨λb u q n _ _=>k b u (hb b n) q,λb u q n _ _=>⟨u.slots,k b u (hb b n) q⟩,λb u q n _=>by rw [am (hx b n)];exact n,λb u q _=> ?_,
  λb xs q=>by rw [am (hm b _ q λz=>z)];exact q,λb u xs q=>by rw [am (hm b _ q λz=>z)];exact q,λb ps q=>⟨#[],by rw [am (hm b _ q λz=>z),q];simp⟩⟩
 by_cases hbe:b=e
 ·subst hbe;exact heo
 ·exact ⟨u,k b u hbe q⟩
end
def M6 (h:Heap)(H:Hp):List Addr:=(List.range h.objs.size).filter λa=>(H a).isSome
def wk (h:Heap)(H:Hp):Heap:=W.hideAll h (M6 h H)
theorem Bu (h:Heap)(H:Hp):(wk h H).objs.size=h.objs.size:=W.hideAll_size _ _
theorem Ed {h:Heap}{H:Hp}{b:Addr}{o:Obj}(e:h.get? b=some o)(n:H b=none):(wk h H).get? b=some o:=
 W.hideAll_get _ e λhm=>by
  have q:(H b).isSome=true:=(List.mem_filter.mp hm).2;rw [n] at q;simp at q
theorem Gq {h:Heap}{H:Hp}{b:Addr}{o:Obj}(e:(wk h H).get? b=some o):h.get? b=some o/\H b=none:=by
 have e':h.get? b=some o:=W.of_hideAll (M6 h H) e;rwa[⟨e',?_⟩]
 cases q:H b with
 |none=>rfl
 |some x=>
  have hm:b∈M6 h H:=List.mem_filter.mpr ⟨List.mem_range.mpr (Heap.lt_size e'),by simp [q]⟩;have z:(wk h H).get? b=none:=W.hideAll_none (M6 h H) hm;rw [z] at e;cases e
def G4 (g h:Heap)(L:Addr):List ↑20:=(List.range h.objs.size).filterMap λa=>if a=L\/(g.get? a).isSome=true then none else (h.get? a).map λo=>(a,o)
def dG (g h:Heap)(L d:Addr):List ↑20:=(G4 g h L).filter λp=>decide (p.1≠d)
structure Mod (K:Fg)(mg:Str->Option Value)(base:Heap):Prop where
 kin:K.In base
 glob:base.Ns mainGlobals mg
 blt:∃mb,base.Ns builtinsNs mb/\∀x:Str,x≠"__name__"->mb x=bootBuiltins x
 nolimit:base.NoLimit
structure Cx where
 prog:Program
 w:World
 K:Fg
 mg:Str->Option Value
 base:Heap
 A:Around
 N:List Str
 s₀:Shared
 H₀:Hp
 env:Env
 outer:List Env
 stack:List Env
 ex:List Addr
 fn:Str->Bool
 calm:Bool
 pn:List ↑20
 xe:Value->Shared->Prop
def wP (l:List Env):List Addr:=l.filterMap (·.frame)
abbrev Cx.fs (X:Cx):List Addr:=wP X.outer
def MM (sc:Scope)(x:Str):Prop:=sc.names.lookup x=some .local\/sc.names.lookup x=some .cell\/sc.names.lookup x=some .free
def KB (sc:Scope)(x:Str):Prop:=sc.names.lookup x=some .local\/sc.names.lookup x=some .cell
def OT (env:Env)(h:Heap)(m:Str->Option Value)(x:Str)(u:Value):Prop:=
 (env.kindOf x=some .local/\m x=some u)\/((env.kindOf x=some .cell\/env.kindOf x=some .free)/\∃c,env.cells.lookup x=some c/\h.IsCell c (some u))
structure Cx.Ok (X:Cx):Prop where
 mod:Mod X.K X.mg X.base
 kind:X.env.scope.kind= .function
 glob:X.env.globals=mainGlobals
 blt:X.env.builtins=builtinsNs
 above:X.s₀.heap.objs.size<=X.env.locals
 inj:∀x y c,X.env.cells.lookup x=some c->X.env.cells.lookup y=some c->x=y
 has:∀x,(X.env.kindOf x=some .cell\/X.env.kindOf x=some .free)->∃c,X.env.cells.lookup x=some c
 cab:∀x c,X.fn x=true->X.env.cells.lookup x=some c->X.s₀.heap.objs.size<=c
 hd:X.calm=true->X.A.handled=none
 frames:X.A.frames=some X.stack
 stk:X.stack=X.outer\/(X.stack=X.env::X.outer/\X.env.frame=some X.env.locals)
 exf:∀b∈X.ex,b≠X.env.locals/\∀x c,X.env.cells.lookup x=some c->c≠b
 bs:∀b o,X.base.get? b=some o->X.s₀.heap.get? b=some o/\X.H₀ b=none
 bsz:X.base.objs.size<=X.s₀.heap.objs.size
 noex:∀b o,X.base.get? b=some o->b∉X.ex
 exfs:∀b∈X.ex,b∉X.fs
 funs:X.s₀.heap.FunFrames X.base X.outer
 frf:∀b∈X.fs,X.H₀ b=none
structure aL (X:Cx)(pins:List ↑20)(σ:List (Option V))(H:Hp)(s:Shared):Prop where
 ok:X.Ok
 os:s.os=X.s₀.os
 bare:AllBare s.gens
 base:Un X.fs X.ex X.H₀ H X.s₀.heap s.heap
 loc:∃m,s.heap.Ns X.env.locals m/\∀(i:Nat) (x:Str) (v:V),X.N[i]? =some x->σ[i]? =some (some v)->MM X.env.scope x->∃u,bp v u/\OT X.env s.heap m x u
 cell:∀x c,X.env.cells.lookup x=some c->∃v,s.heap.IsCell c v
 free:H X.env.locals=none
 freeC:∀x c,X.env.cells.lookup x=some c->H c=none
 pin:∀p∈X.pn++pins,s.heap.get? p.1=some p.2/\H p.1=none/\p.1≠X.env.locals/\p.1∉X.fs/\∀v,p.2.data≠ .cell v
 hok:io X.prog X.w H s.heap
 len:σ.length=X.N.length
section
variable {X:Cx}{pins:List ↑20}{σ:List (Option V)}{H H':Hp}{s:Shared}{h':Heap}
theorem Cx.Ok.nofr (ok:X.Ok){b:Addr}{o:Obj}(e:X.base.get? b=some o):b∉X.fs:=λhb=>by
 have:=(ok.funs.mem hb).1;rw [e] at this;cases this
theorem aL.bs (I:aL X pins σ H s):∀b o,X.base.get? b=some o->s.heap.get? b=some o/\H b=none:=λb o e=>
 ⟨I.base.keep b o (I.ok.bs b o e).1 (I.ok.bs b o e).2 (I.ok.nofr e) (I.ok.noex b o e),I.base.free b o (I.ok.bs b o e).1 (I.ok.bs b o e).2 (I.ok.noex b o e)⟩
theorem aL.bk (I:aL X pins σ H s):∀b o,X.base.get? b=some o->s.heap.get? b=some o:=λb o e=>(I.bs b o e).1
theorem aL.mod (I:aL X pins σ H s):Mod X.K X.mg X.base:=I.ok.mod
theorem aL.kIn (I:aL X pins σ H s):X.K.In s.heap:=I.ok.mod.kin.keeps I.bk
theorem aL.lt (I:aL X pins σ H s):X.env.locals<s.heap.objs.size:=let ⟨_,hn,_⟩:=I.loc;hn.lt
theorem aL.sz (I:aL X pins σ H s):X.s₀.heap.objs.size<=s.heap.objs.size:=Nat.le_trans I.ok.above (Nat.le_of_lt I.lt)
theorem aL.nofs (I:aL X pins σ H s){a:Addr}(h:s.heap.objs.size<=a):a∉X.fs:=λhb=>by
 obtain ⟨_,o,ho,_⟩:=I.ok.funs.mem hb;exact absurd (Nat.lt_of_lt_of_le (Heap.lt_size ho) (Nat.le_trans I.sz h)) (Nat.lt_irrefl _)
theorem aL.cne (I:aL X pins σ H s):∀x c,X.env.cells.lookup x=some c->c≠X.env.locals:=λx c e z=>by
 obtain ⟨v,o,ho,hd⟩:=I.cell x c e;obtain ⟨m,⟨o',es,ep,ho',hd',_⟩,_⟩:=I.loc;rw [z,ho'] at ho;cases ho;rw [hd'] at hd;cases hd
theorem aL.funs (I:aL X pins σ H s):s.heap.FunFrames X.base X.outer:=by
 have all:∀(l:List Env),(∀b∈wP l,b∈X.fs)->X.s₀.heap.FunFrames X.base l->s.heap.FunFrames X.base l:=by
  intro l
  induction l with
  |nil=>intro _ _;trivial
  |cons env r ih=>
   intro hs hl;obtain ⟨hk,⟨L,o,hf,hn,ho,hd⟩,hr⟩:=hl;have hL:L∈X.fs:=hs L (by unfold wP;rw [List.filterMap_cons,hf];exact List.mem_cons_self);obtain ⟨sl,e⟩:=I.base.slot L o ho (I.ok.frf L hL) hL λz=>I.ok.exfs L z hL;exact ⟨hk,⟨L,_,hf,hn,e,hd⟩,ih (λb hb=>hs b (by unfold wP;rw [List.filterMap_cons,hf];exact List.mem_cons_of_mem _ hb)) hr⟩
 exact all X.outer (λ_ hb=>hb) I.ok.funs
theorem aL.stack (I:aL X pins σ H s):s.heap.FunFrames X.base X.stack:=by
 rcases I.ok.stk with e|⟨e,hf⟩
 ·rw [e];exact I.funs
 ·rw [e];obtain ⟨m,hn,_⟩:=I.loc;rwa[.cons (by rw [I.ok.kind];decide) hf hn ?_ I.funs];exact Heap.get?_none_of_le (Nat.le_trans I.ok.bsz I.ok.above)
theorem aL.stkSub (I:aL X pins σ H s):∀b∈wP X.stack,b∈X.env.locals::X.fs:=λb hb=>by
 rcases I.ok.stk with e|⟨e,hf⟩
 ·rw [e] at hb;exact List.mem_cons_of_mem _ hb
 ·rw [e] at hb;unfold wP at hb;rw [List.filterMap_cons,hf] at hb;exact hb
theorem aL.stkFree (I:aL X pins σ H s):∀b∈wP X.stack,H b=none:=λb hb=>by
 rcases List.mem_cons.mp (I.stkSub b hb) with e|hb
 ·rw [e];exact I.free
 ·obtain ⟨_,o,ho,_⟩:=I.ok.funs.mem hb;exact I.base.free b o ho (I.ok.frf b hb) λz=>I.ok.exfs b z hb
theorem aL.step {g':Array GenState}{t':Nat}{d':Drawn}{ch:List Addr}(I:aL X pins σ H s)
(hch:∀b∈ch,(b∈X.ex\/X.s₀.heap.objs.size<=b)/\b≠X.env.locals/\(∀x c,X.env.cells.lookup x=some c->c≠b)/\∀p∈X.pn++pins,p.1≠b)
(keep:∀b o,b≠X.env.locals->b∉X.fs->b∉ch->s.heap.get? b=some o->H b=none->h'.get? b=some o)
(slot:∀b o,b≠X.env.locals->b∈X.fs->b∉ch->s.heap.get? b=some o->H b=none->∃sl,h'.get? b=some {o with slots:=sl})(free:∀b o,b∉ch->s.heap.get? b=some o->H b=none->H' b=none)
(there:∀b o,b∉ch->s.heap.get? b=some o->∃o',h'.get? b=some o')
(tups:∀b xs,H b=some (.tup xs)->H' b=some (.tup xs))(frzs:∀b o u,H b=some (.frz o u)->H' b=some (.frz o u))(tbls:∀b ps,H b=some (.tbl ps)->∃more,H' b=some (.tbl (ps++more)))
(ns:∀m,s.heap.Ns X.env.locals m->h'.Ns X.env.locals m)(hok:io X.prog X.w H' h')(hg:AllBare g'):
 aL X pins σ H' {s with heap:=h',gens:=g',drawn:=d',toks:=t'}:=by
 have neL:∀b o,X.s₀.heap.get? b=some o->b≠X.env.locals:=λb o e=>Nat.ne_of_lt ↑41
 have neC:∀b o,X.s₀.heap.get? b=some o->b∉X.ex->b∉ch:=λb o e hx hb=>by
  rcases (hch b hb).1 with z|z
  ·exact hx z
  ·exact absurd (Nat.lt_of_lt_of_le (Heap.lt_size e) z) (Nat.lt_irrefl _)
 have cellK:∀x c,X.env.cells.lookup x=some c->∀v,s.heap.IsCell c v->h'.IsCell c v:=λx c e v ⟨o,ho,hd⟩=>by
  have nch:c∉ch:=λz=>(hch c z).2.2.1 x c e rfl;by_cases hc:c∈X.fs
  ·obtain ⟨sl,q⟩:=slot c o (I.cne x c e) hc nch ho (I.freeC x c e);exact ⟨_,q,hd⟩
  ·exact ⟨o,keep c o (I.cne x c e) hc nch ho (I.freeC x c e),hd⟩
 rwa[⟨I.ok,I.os,hg,⟨λb o e n hb hx=> ?_,λb o e n hb hx=> ?_,λb o e n hx=> ?_,λb o e hx=> ?_,λb xs e=>tups b xs (I.base.tups b xs e),λb o xs e=>frzs b o xs (I.base.frzs b o xs e),λb ps e=> ?_⟩,?_,λx c e=> ?_,?_,λx c e=> ?_,λp hp=> ?_,hok,I.len⟩]
 ·exact keep b o (neL b o e) hb (neC b o e hx) (I.base.keep b o e n hb hx) (I.base.free b o e n hx)
 ·obtain ⟨sl,e1⟩:=I.base.slot b o e n hb hx;obtain ⟨sl',e2⟩:=slot b _ (neL b o e) hb (neC b o e hx) e1 (I.base.free b o e n hx);exact ⟨sl',e2⟩
 ·obtain ⟨o',e1⟩:=I.base.there b o e hx;exact free b o' (neC b o e hx) e1 (I.base.free b o e n hx)
 ·obtain ⟨o',e1⟩:=I.base.there b o e hx;exact there b o' (neC b o e hx) e1
 ·obtain ⟨m1,e1⟩:=I.base.tbls b ps e;obtain ⟨m2,e2⟩:=tbls b _ e1;exact ⟨m1++m2,by rw [e2,Array.append_assoc]⟩
 ·obtain ⟨m,hn,hl⟩:=I.loc;rwa[⟨m,ns m hn,λi x v e1 e2 e3=> ?_⟩];obtain ⟨u,r,l⟩:=hl i x v e1 e2 e3;rwa[⟨u,r,?_⟩]
  rcases l with l|⟨k,c,e,z⟩
  ·exact .inl l
  ·exact .inr ⟨k,c,e,cellK x c e _ z⟩
 ·obtain ⟨v,z⟩:=I.cell x c e;exact ⟨v,cellK x c e v z⟩
 ·obtain ⟨m,⟨o,_,_,ho,_⟩,_⟩:=I.loc;exact free _ o (λz=>(hch _ z).2.1 rfl) ho I.free
 ·obtain ⟨v,o,ho,hd⟩:=I.cell x c e;exact free c o (λz=>(hch c z).2.2.1 x c e rfl) ho (I.freeC x c e)
 ·obtain ⟨e,n,ne,nf,d⟩:=I.pin p hp;have nch:p.1∉ch:=λz=>(hch p.1 z).2.2.2 p hp rfl;exact ⟨keep p.1 p.2 ne nf nch e n,free p.1 p.2 nch e n,ne,nf,d⟩
theorem aL.un {t':Nat}(I:aL X pins σ H s)(u:Un X.fs [] H H' s.heap h')(hok:io X.prog X.w H' h'):aL X pins σ H' {s with heap:=h',toks:=t'}:=by
 obtain ⟨m,⟨o,es,ep,ho,r⟩,_⟩:=id I.loc;obtain ⟨sl,hL⟩:=u.any ho I.free ↑27
 exact I.step (g':=s.gens) (d':=s.drawn) (ch:=[]) (λ_ z=>nomatch z) (λb o _ hb _ e n=>u.keep b o e n hb ↑27) (λb o _ hb _ e n=>u.slot b o e n hb ↑27) (λb o _ e n=>u.free b o e n ↑27) (λb o _ e=>u.there b o e ↑27) u.tups u.frzs u.tbls (λm' hm=>by
  obtain ⟨o',es',ep',ho',r'⟩:=hm;rw [ho] at ho';cases ho'
  exact ⟨_,es',ep',hL,r'⟩) hok I.bare
theorem aL.call {g':Array GenState}{t':Nat}{d':Drawn}{ch:List Addr}(I:aL X pins σ H s)(u:Un (wP X.stack) ch H H' s.heap h')(hok:io X.prog X.w H' h')(hg:AllBare g')
(hch:∀b∈ch,(b∈X.ex\/X.s₀.heap.objs.size<=b)/\b≠X.env.locals/\(∀x c,X.env.cells.lookup x=some c->c≠b)/\∀p∈X.pn++pins,p.1≠b):
 aL X pins σ H' {s with heap:=h',gens:=g',drawn:=d',toks:=t'}:=by
 obtain ⟨m,⟨o,es,ep,ho,r⟩,_⟩:=id I.loc;obtain ⟨sl,hL⟩:=u.any ho I.free λz=>(hch _ z).2.1 rfl
 exact I.step (ch:=ch) hch (λb o hL hb hc e n=>u.keep b o e n (λz=>(List.mem_cons.mp (I.stkSub b z)).elim hL hb) hc) (λb o _ _ hc e n=>u.any e n hc) (λb o hc e n=>u.free b o e n hc) (λb o hc e=>u.there b o e hc) u.tups u.frzs u.tbls (λm' hm=>by
  obtain ⟨o',es',ep',ho',r'⟩:=hm;rw [ho] at ho';cases ho'
  exact ⟨_,es',ep',hL,r'⟩) hok hg
theorem aL.turned {t':Nat}{it:Addr}(I:aL X pins σ H s)(k:∀b o,b≠it->s.heap.get? b=some o->h'.get? b=some o)(hn:H it=none)(hL:it≠X.env.locals)
(h1:it∈X.ex\/X.s₀.heap.objs.size<=it)(h2:∀x c,X.env.cells.lookup x=some c->c≠it)(h3:∀p∈X.pn++pins,p.1≠it):aL X pins σ H {s with heap:=h',toks:=t'}:=by
 have nit:∀b u,H b=some u->b≠it:=λb u e z=>by rw [z,hn] at e;cases e
 refine I.step (g':=s.gens) (d':=s.drawn) (ch:=[it]) (λb hb=> ?_) (λb o _ _ hc e _=>k b o (λz=>hc (by simp [z])) e) (λb o _ _ hc e _=>⟨o.slots,k b o (λz=>hc (by simp [z])) e⟩) (λ_ _ _ _ n=>n)
  (λb o hc e=>⟨o,k b o (λz=>hc (by simp [z])) e⟩) (λ_ _ e=>e) (λ_ _ _ e=>e) (λb ps e=>⟨#[],by rw [e];simp⟩) (λm hm=> ?_) (λb u e=> ?_) I.bare
 ·have e:b=it:=by simpa using hb
  subst e;exact ⟨h1,hL,h2,h3⟩
 ·obtain ⟨o,es,ep,ho,r⟩:=hm;exact ⟨o,es,ep,k _ o (Ne.symm hL) ho,r⟩
 ·rwa[(I.hok b u e).stay (λc v hc q=>k c v ?_ q) (λ_ q=>q) λ_ _ q=>q]
  rcases hc with z|z
  ·rw [z];exact nit b u e
  ·exact nit c _ z
theorem aL.tok (I:aL X pins σ H s)(t:Nat):aL X pins σ H {s with toks:=t}:=I.un (h':=s.heap) (t':=t) Un.refl I.hok
theorem aL.kept {t':Nat}(I:aL X pins σ H s)(k:∀b u,s.heap.get? b=some u->h'.get? b=some u):aL X pins σ H {s with heap:=h',toks:=t'}:=I.un (Un.kept k) (I.hok.kept k)
theorem aL.laid {a:Addr}{o:HO}{t':Nat}(I:aL X pins σ H s)(k:∀b u,s.heap.get? b=some u->h'.get? b=some u)(hp:s.heap.objs.size<=a)(new:bS X.prog X.w (upd H a o) h' a o):
 aL X pins σ (upd H a o) {s with heap:=h',toks:=t'}:=I.un (Un.laid k hp (I.hok.fresh hp)) (I.hok.laid k hp new)
theorem aL.write {x e:Addr}{o:HO}{t':Nat}(I:aL X pins σ H s)(mu:MR (H x))(he:e=x\/H e=some (.own x))(k:∀b u,b≠e->s.heap.get? b=some u->h'.get? b=some u)(heo:∃u,h'.get? e=some u)
(new:bS X.prog X.w (upd H x o) h' x o):aL X pins σ (upd H x o) {s with heap:=h',toks:=t'}:=I.un (Un.write mu he k heo) (I.hok.write mu he k heo new)
theorem aL.weak {σ':List (Option V)}(I:aL X pins σ H s)(hl:σ'.length=σ.length)(w:∀(i:Nat) v,σ'[i]? =some (some v)->σ[i]? =some (some v)):aL X pins σ' H s:=
 ⟨I.ok,I.os,I.bare,I.base,let ⟨m,hn,hl'⟩:=I.loc;⟨m,hn,λi x v e1 e2 e3=>hl' i x v e1 (w i v e2) e3⟩,I.cell,I.free,I.freeC,I.pin,I.hok,hl.trans I.len⟩
theorem aL.pins_of {pins':List ↑20}(I:aL X pins σ H s)(h:∀p∈pins',s.heap.get? p.1=some p.2/\H p.1=none/\p.1≠X.env.locals/\p.1∉X.fs/\∀v,p.2.data≠ .cell v):aL X pins' σ H s:=
 ⟨I.ok,I.os,I.bare,I.base,I.loc,I.cell,I.free,I.freeC,λp hp=>(List.mem_append.mp hp).elim (λz=>I.pin p (List.mem_append_left _ z)) (h p),I.hok,I.len⟩
theorem rK {N:List Str}(hN:N.Nodup){i j:Nat}{x:Str}(a:N[i]? =some x)(b:N[j]? =some x):i=j:=by
 obtain ⟨h1,e1⟩:=List.getElem?_eq_some_iff.mp a;obtain ⟨h2,e2⟩:=List.getElem?_eq_some_iff.mp b;exact (List.getElem_inj hN).mp (e1.trans e2.symm)
theorem uf {M:Model}{A:Around}{E:Value->Shared->Prop}{i:Nat}{x:Str}{v:V}{u:Value}{Q:Unit->Shared->Prop}(I:aL X pins σ H s)(hN:X.N.Nodup)(hi:X.N[i]? =some x)(hx:KB X.env.scope x)(r:bp v u)
(h:∀s',aL X pins (σ.set i (some v)) H s'->(∃a,Heap.SameBut a s.heap s'.heap/\(a=X.env.locals\/X.env.cells.lookup x=some a))->Q () s')(hf:X.fn x=true\/X.env.scope.names.lookup x=some .local:=by first|exact .inl rfl|exact .inr rfl|assumption):wpAny M A (storeName X.env x u) Q E s:=by
 obtain ⟨m,hn,hl⟩:=id I.loc
 have hcls:(X.env.scope.kind== .class||(X.env.scope.kind== .module&&X.env.locals != X.env.globals))=false:=by rw [I.ok.kind];rfl
 have hiσ:i<σ.length:=by rw [I.len];exact (List.getElem?_eq_some_iff.mp hi).1
 have cne:=I.cne
 have tracked:∀ {a:Addr} {h':Heap},(∃o,s.heap.get? a=some o/\H a=none)->Heap.SameBut a s.heap h'->io X.prog X.w H h':=λ{a h'} ha hs b ob e=>by
  obtain ⟨_,_,hfree⟩:=ha;rwa[(I.hok b ob e).stay (λc w' hc q=>(hs.2 c ?_).trans q) (λ_ q=>q) λ_ _ q=>q];rintro rfl
  rcases hc with rfl|hc
  ·rw [hfree] at e;cases e
  ·rw [hfree] at hc;cases hc
 rcases hx with hk|hk
 ·rwa[wpAny_storeName_local hk hn (λh' hn' hs=> ?_) hcls];obtain ⟨oL,_,_,hoL,_⟩:=id hn;rwa[h _ ⟨I.ok,I.os,I.bare,⟨λb o e n hb hx=> ?_,λb o e n hb hx=> ?_,I.base.free,λb o e hx=> ?_,I.base.tups,I.base.frzs,I.base.tbls⟩,⟨_,hn',λj y v' e1 e2 e3=> ?_⟩,λy c e=> ?_,I.free,I.freeC,λp hp=> ?_,tracked ⟨oL,hoL,I.free⟩ hs,by simpa using I.len⟩ ⟨_,hs,.inl rfl⟩]
  ·exact (hs.2 b (Nat.ne_of_lt ↑41)).trans (I.base.keep b o e n hb hx)
  ·obtain ⟨sl,e1⟩:=I.base.slot b o e n hb hx;exact ⟨sl,(hs.2 b (Nat.ne_of_lt ↑41)).trans e1⟩
  ·obtain ⟨o',e1⟩:=I.base.there b o e hx;exact ⟨o',(hs.2 b (Nat.ne_of_lt ↑41)).trans e1⟩
  ·by_cases hj:j=i
   ·subst hj;rw [hi] at e1;cases e1;rw [List.getElem?_set_self hiσ] at e2;cases e2;exact ⟨u,r,.inl ⟨hk,by simp⟩⟩
   ·rw [List.getElem?_set_ne (Ne.symm hj)] at e2;obtain ⟨u',r',q⟩:=hl j y v' e1 e2 e3;rwa[⟨u',r',?_⟩]
    rcases q with ⟨k,e⟩|⟨k,c,e,z⟩
    ·rwa[.inl ⟨k,?_⟩];have:y≠x:=λe=>hj (rK hN e1 (e▸hi));simp [this,e]
    ·exact .inr ⟨k,c,e,z.sameBut hs (cne y c e)⟩
  ·obtain ⟨w',z⟩:=I.cell y c e;exact ⟨w',z.sameBut hs (cne y c e)⟩
  ·obtain ⟨e,n,ne,nf,d⟩:=I.pin p hp;exact ⟨(hs.2 p.1 ne).trans e,n,ne,nf,d⟩
 ·have hfn:X.fn x=true:=by
   rcases hf with z|z
   ·exact z
   ·rw [z] at hk;cases hk
  obtain ⟨c,hc⟩:=I.ok.has x (.inl hk);obtain ⟨w',z⟩:=I.cell x c hc;rwa[wpAny_storeName_cell I.ok.kind hk hc z (λh' hc' hs=> ?_)];obtain ⟨oc,hoc,hocd⟩:=id z;rwa[h {s with heap:=h'} ⟨I.ok,I.os,I.bare,⟨λb o e n hb hx=> ?_,λb o e n hb hx=> ?_,I.base.free,λb o e hx=> ?_,I.base.tups,I.base.frzs,I.base.tbls⟩,⟨m,hn.sameBut hs (Ne.symm (cne x c hc)),λj y v' e1 e2 e3=> ?_⟩,λy c' e=> ?_,I.free,I.freeC,λp hp=> ?_,tracked ⟨oc,hoc,I.freeC x c hc⟩ hs,by simpa using I.len⟩ ⟨c,hs,.inr hc⟩]
  ·exact (hs.2 b (Nat.ne_of_lt (Nat.lt_of_lt_of_le (Heap.lt_size e) (I.ok.cab x c hfn hc)))).trans (I.base.keep b o e n hb hx)
  ·obtain ⟨sl,e1⟩:=I.base.slot b o e n hb hx;exact ⟨sl,(hs.2 b (Nat.ne_of_lt (Nat.lt_of_lt_of_le (Heap.lt_size e) (I.ok.cab x c hfn hc)))).trans e1⟩
  ·obtain ⟨o',e1⟩:=I.base.there b o e hx;exact ⟨o',(hs.2 b (Nat.ne_of_lt (Nat.lt_of_lt_of_le (Heap.lt_size e) (I.ok.cab x c hfn hc)))).trans e1⟩
  ·by_cases hj:j=i
   ·subst hj;rw [hi] at e1;cases e1;rw [List.getElem?_set_self hiσ] at e2;cases e2;exact ⟨u,r,.inr ⟨.inl hk,c,hc,hc'⟩⟩
   ·rw [List.getElem?_set_ne (Ne.symm hj)] at e2;obtain ⟨u',r',q⟩:=hl j y v' e1 e2 e3;rwa[⟨u',r',?_⟩]
    rcases q with q|⟨k,c',e,z'⟩
    ·exact .inl q
    ·rwa[.inr ⟨k,c',e,z'.sameBut hs ?_⟩];rintro rfl;exact hj (rK hN e1 (I.ok.inj _ _ _ e hc▸hi))
  ·by_cases hcc:c'=c
   ·subst hcc;exact ⟨_,hc'⟩
   ·obtain ⟨w2,z2⟩:=I.cell y c' e;exact ⟨w2,z2.sameBut hs hcc⟩
  ·obtain ⟨e,n,ne,nf,d⟩:=I.pin p hp;rwa[⟨(hs.2 p.1 ?_).trans e,n,ne,nf,d⟩];intro q;rw [q,hoc] at e;have q':oc=p.2:=Option.some.inj e;exact d w' (by rw [<-q'];exact hocd)
theorem qD {M:Model}{A:Around}{E:Value->Shared->Prop}{i:Nat}{x:Str}{v:V}{u:Value}{Q:Unit->Shared->Prop}(I:aL X pins σ H s)(hN:X.N.Nodup)(hi:X.N[i]? =some x)(hx:KB X.env.scope x)(r:bp v u)
(h:∀s',aL X pins (σ.set i (some v)) H s'->Q () s')(hf:X.fn x=true\/X.env.scope.names.lookup x=some .local:=by first|exact .inl rfl|exact .inr rfl|assumption):wpAny M A (storeName X.env x u) Q E s:=
 uf I hN hi hx r (λs' I' _=>h s' I') hf
theorem aL.call' {s':Shared}{ch:List Addr}(I:aL X pins σ H s)(ho:s'.os=s.os)(u:Un (wP X.stack) ch H H' s.heap s'.heap)(hok:io X.prog X.w H' s'.heap)(hg:AllBare s'.gens)
(hch:∀b∈ch,(b∈X.ex\/X.s₀.heap.objs.size<=b)/\b≠X.env.locals/\(∀x c,X.env.cells.lookup x=some c->c≠b)/\∀p∈X.pn++pins,p.1≠b):aL X pins σ H' s':=by
 obtain ⟨h',g',d',t',o'⟩:=s';have e:o'=s.os:=ho;subst e;exact I.call (g':=g') (t':=t') (d':=d') u hok hg hch
end
abbrev XK:=Value->Option Addr->Hp->Prop
abbrev St:=List (Option V)
abbrev VK:=V->Hp->Prop
abbrev TE:=St->Hp->VK->Prop
abbrev TT:=St->Hp->(Bool->Hp->Prop)->Prop
abbrev TA:=St->Hp->(List V->Hp->Prop)->Prop
structure k7 where
 nx:St->Hp->Prop
 rt:VK
 bk:St->Hp->Prop:=λ_ _=>False
 ct:St->Hp->Prop:=λ_ _=>False
abbrev TS:=k7->St->Hp->Prop
def EP (X:Cx)(pins:List ↑20)(σ:St)(Q:VK)(u:Value)(s':Shared):Prop:=∃v H',aL X pins σ H' s'/\bp v u/\Q v H'
def TP (X:Cx)(pins:List ↑20)(σ:St)(Q:Bool->Hp->Prop)(b:Bool)(s':Shared):Prop:=∃H',aL X pins σ H' s'/\Q b H'
def AP (X:Cx)(pins:List ↑20)(σ:St)(Q:List V->Hp->Prop)(us:List Value)(s':Shared):Prop:=∃vs H',aL X pins σ H' s'/\bo vs us/\Q vs H'
def SP (X:Cx)(pins:List ↑20)(D:k7)(f:Flow)(s':Shared):Prop:=
 match f with
 | .next=>∃σ' H',aL X pins σ' H' s'/\D.nx σ' H'
 | .brk=>∃σ' H',aL X pins σ' H' s'/\D.bk σ' H'
 | .cont=>∃σ' H',aL X pins σ' H' s'/\D.ct σ' H'
 | .ret u=>∃v σ' H',aL X pins σ' H' s'/\bp v u/\D.rt v H'
def PE (X:Cx)(e:Expr)(t:TE):Prop:=
 ∀(pins:List ↑20) (s:Shared) (σ:St) (H:Hp) (Q:VK),aL X pins σ H s->t σ H Q->wpAny ↑9 X.A (eval e X.env) (EP X pins σ Q) X.xe s
def PT (X:Cx)(e:Expr)(t:TT):Prop:=
 ∀(pins:List ↑20) (s:Shared) (σ:St) (H:Hp) (Q:Bool->Hp->Prop),aL X pins σ H s->t σ H Q->wpAny ↑9 X.A (isTrue e X.env (eval e X.env)) (TP X pins σ Q) X.xe s
def PW (X:Cx)(e:Expr)(t:TT):Prop:=
 ∀(whole:Sem Value) (pins:List ↑20) (s:Shared) (σ:St) (H:Hp) (Q:Bool->Hp->Prop),aL X pins σ H s->t σ H Q->wpAny ↑9 X.A (isTrue e X.env whole) (TP X pins σ Q) X.xe s
theorem PW.pt {X:Cx}{e:Expr}{t:TT}(h:PW X e t):PT X e t:=h _
def PA (X:Cx)(es:List Expr)(t:TA):Prop:=
 ∀(pos:Pos) (pins:List ↑20) (s:Shared) (σ:St) (H:Hp) (Q:List V->Hp->Prop),aL X pins σ H s->t σ H Q->wpAny ↑9 X.A (spliced (backTo pos (starEach es X.env))) (AP X pins σ Q) X.xe s
def PS (X:Cx)(st:Stmt)(t:TS):Prop:=
 ∀(pins:List ↑20) (s:Shared) (σ:St) (H:Hp) (D:k7),aL X pins σ H s->t D σ H->wpAny ↑9 X.A (exec st X.env) (SP X pins D) X.xe s
def tK (X:Cx)(st:List Stmt)(t:TS):Prop:=
 ∀(pins:List ↑20) (s:Shared) (σ:St) (H:Hp) (D:k7),aL X pins σ H s->t D σ H->wpAny ↑9 X.A (execs st X.env) (SP X pins D) X.xe s
theorem b4 {α:Type}{t:Sem α}{Q Q':α->Shared->Prop}{M:Model}{A:Around}{E:Value->Shared->Prop}{s:Shared}(h:wpAny M A t Q E s)(hQ:∀a s,Q a s->Q' a s):wpAny M A t Q' E s:=wpAny_mono h hQ λ_ _ x=>x
section
variable {X:Cx}
def NV (i:Nat):TE:=λσ H Q=>∃v,σ[i]? =some (some v)/\Q v H
def tC (v:V):TE:=λ_ H Q=>Q v H
theorem Dm {i:Nat}{x:Str}{pos:Pos}(hN:X.N[i]? =some x)(hv:MM X.env.scope x)(hd:↑36=false:=by decide)(hcd:(x==("__classdict__":Str))=false:=by decide):PE X (.Name x pos) (NV i):=by
 intro pins s σ H Q I h;obtain ⟨v,e,h⟩:=h;obtain ⟨m,hn,hl⟩:=I.loc;obtain ⟨u,r,l⟩:=hl i x v hN e hv;have fin:EP X pins σ Q u s:=⟨v,H,I,r,h⟩
 rcases l with ⟨hk,hm⟩|⟨hk,c,hc,hcell⟩
 ·exact wpAny_Name (wpAny_loadName_local I.ok.kind hk hn hm fin) hd
 ·rcases hk with hk|hk
  ·exact wpAny_Name (wpAny_loadName_cell I.ok.kind hk hc hcell fin) hd
  ·exact wpAny_Name (wpAny_loadName_free I.ok.kind hk hc hcell fin hcd) hd
theorem aa {i j pos}:PE X (.Constant (.int i) j pos) (tC (.int i)):=λ_ _ _ H _ I h=>wpAny_Constant_int ⟨.int i,H,I.tok _,⟨_,rfl⟩,h⟩
theorem gy {b j pos}:PE X (.Constant (.bool b) j pos) (tC (.bl b)):=λ_ _ _ H _ I h=>Constant_bool ⟨.bl b,H,I,rfl,h⟩
theorem jR {j pos}:PE X (.Constant .none j pos) (tC .non):=λ_ _ _ H _ I h=>Constant_none ⟨.non,H,I,rfl,h⟩
theorem aq {x j pos}:PE X (.Constant (.str x) j pos) (tC (.str x)):=λ_ _ _ H _ I h=>Calls.Constant_str ⟨.str x,H,I.tok _,⟨_,rfl⟩,h⟩
def Gl (X:Cx)(x:Str):Prop:=X.env.kindOf x=some .globalImplicit
theorem jg {E:Value->Shared->Prop}{pins:List ↑20}{s:Shared}{σ:St}{H:Hp}{x:Str}{u:Value}{pos:Pos}{Q:Value->Shared->Prop}(I:aL X pins σ H s)(hg:Gl X x)(hm:X.mg x=some u)(h:Q u s)
(hd:↑36=false:=by decide):wpAny ↑9 X.A (eval (.Name x pos) X.env) Q E s:=
 Calls.Name_function_global I.ok.kind hg (Calls.loadGlobal_global (by rw [I.ok.glob];exact I.mod.glob.keeps I.bk) hm h) hd
theorem mh {E:Value->Shared->Prop}{pins:List ↑20}{s:Shared}{σ:St}{H:Hp}{x:Str}{u:Value}{pos:Pos}{Q:Value->Shared->Prop}(I:aL X pins σ H s)(hg:Gl X x)(hm:X.mg x=none)(hv:bootBuiltins x=some u)(h:Q u s)
(hn:x≠"__name__":=by decide)(hd:↑36=false:=by decide):wpAny ↑9 X.A (eval (.Name x pos) X.env) Q E s:=by
 obtain ⟨mb,h1,h2⟩:=I.mod.blt;exact Calls.Name_function_global I.ok.kind hg (Calls.loadGlobal_builtin (by rw [I.ok.glob];exact I.mod.glob.keeps I.bk) hm (by rw [I.ok.blt];exact h1.keeps I.bk) ((h2 x hn).trans hv) h) hd
theorem eQ {x:Str}{v:V}{u:Value}{pos:Pos}(hg:Gl X x)(hm:X.mg x=some u)(r:bp v u)(hd:↑36=false:=by decide):PE X (.Name x pos) (tC v):=
 λ_ _ _ H _ I h=>jg I hg hm ⟨v,H,I,r,h⟩ hd
theorem gz {x:Str}{v:V}{u:Value}{pos:Pos}(hg:Gl X x)(hm:X.mg x=none)(hv:bootBuiltins x=some u)(r:bp v u)(hn:x≠"__name__":=by decide)(hd:↑36=false:=by decide):PE X (.Name x pos) (tC v):=
 λ_ _ _ H _ I h=>mh I hg hm hv ⟨v,H,I,r,h⟩ hn hd
variable {a b:Expr}{ta tb:TE}{pos:Pos}
def PC (X:Cx)(op:CmpOp)(a b:Expr)(t:TE):Prop:=
 ∀(pins:List ↑20) (s:Shared) (σ:St) (H:Hp) (Q:VK),aL X pins σ H s->t σ H Q->
  wpAny ↑9 X.A (eval a X.env) (λv s₁=>wpAny ↑9 X.A (eval b X.env) (λu s₂=>wpAny ↑9 X.A (compareOp op v u) (EP X pins σ Q) X.xe s₂) X.xe s₁) X.xe s
def tB (t:TE):TT:=λσ H Q=>t σ H λx H1=>∃c,x= .bl c/\Q c H1
theorem IY {op:CmpOp}{t:TE}(h:PC X op a b t)(h1:behindInMarks op b=false:=by first|exact nobehind _ ↑1 ↑1|rfl):PT X (.Compare a [op] [b] pos) (tB t):=by
 intro pins s σ H Q I hw;rwa[wpAny_isTrue_Compare1 (b4 (h pins s σ H _ I hw) λv s1 h1=>b4 h1 λu s2 h2=>b4 h2 λc s3 ⟨x,H1,I1,r1,q1⟩=> ?_) h1];obtain ⟨d,rfl,q⟩:=q1;cases r1;exact wpAny_truthy_bool ⟨H1,I1,q⟩
variable {tA tB':TT}{dG:List Expr}
def N5 (t u:TT):TT:=λσ H Q=>t σ H λc H1=>if c=true then u σ H1 Q else Q false H1
def Pd (t u:TT):TT:=λσ H Q=>t σ H λc H1=>if c=true then Q true H1 else u σ H1 Q
def NZ (t:TT):TT:=λσ H Q=>t σ H λc H1=>Q (!c) H1
theorem dS (ha:PT X a tA):PW X (.BoolOp .And [a] pos) tA:=by
 intro wh pins s σ H Q I h;rwa[isTrue_and (b4 (ha pins s σ H Q I h) λc s1 e=> ?_)]
 cases c with
 |true=>exact isTrue_and_nil e
 |false=>exact e
theorem cu (ha:PT X a tA):PW X (.BoolOp .Or [a] pos) tA:=by
 intro wh pins s σ H Q I h;rwa[isTrue_or (b4 (ha pins s σ H Q I h) λc s1 e=> ?_)]
 cases c with
 |false=>exact isTrue_or_nil e
 |true=>exact e
theorem IX (ha:PT X a tA)(hb:PW X (.BoolOp .And (b::dG) pos) tB'):PW X (.BoolOp .And (a::b::dG) pos) (N5 tA tB'):=by
 intro wh pins s σ H Q I h;rwa[isTrue_and (b4 (ha pins s σ H _ I h) λc s1 ⟨H1,I1,q1⟩=> ?_)]
 cases c with
 |true=>exact hb wh pins s1 σ H1 Q I1 q1
 |false=>exact ⟨H1,I1,q1⟩
theorem LK (ha:PT X a tA)(hb:PW X (.BoolOp .Or (b::dG) pos) tB'):PW X (.BoolOp .Or (a::b::dG) pos) (Pd tA tB'):=by
 intro wh pins s σ H Q I h;rwa[isTrue_or (b4 (ha pins s σ H _ I h) λc s1 ⟨H1,I1,q1⟩=> ?_)]
 cases c with
 |true=>exact ⟨H1,I1,q1⟩
 |false=>exact hb wh pins s1 σ H1 Q I1 q1
theorem de (ha:PT X a tA):PT X (.UnaryOp .Not a pos) (NZ tA):=by
 intro pins s σ H Q I h;exact isTrue_not (ha pins s σ H (λc H1=>Q (!c) H1) I h)
theorem jQ {op}{t:TE}(h:PE X a t):PE X (.BoolOp op [a] pos) t:=λpins s σ H Q I hw=>BoolOp_one (h pins s σ H Q I hw)
def Pe (t:TT)(ta tb:TE):TE:=λσ H Q=>t σ H λc H1=>if c=true then ta σ H1 Q else tb σ H1 Q
theorem Dn {c:Expr}(hc:PT X c tA)(ha:PE X a ta)(hb:PE X b tb):PE X (.IfExp c a b pos) (Pe tA ta tb):=by
 intro pins s σ H Q I h;rwa[wpAny_IfExp (b4 (hc pins s σ H _ I h) λd s1 ⟨H1,I1,q1⟩=> ?_)]
 cases d with
 |true=>exact ha pins s1 σ H1 Q I1 q1
 |false=>exact hb pins s1 σ H1 Q I1 q1
end
def aN (K:Fg)(H:Hp)(a:Addr)(xs:List V):Prop:=
 Rd H a (.lst xs)\/
  ∃(o:Obj) (its:Array Value) (n:Nat),K.lookup a=some o/\o.cls= .type "list"/\o.dict=none/\o.data= .seq its n/\its.size<=sizeLine/\bo xs its.toList
def aK (K:Fg)(H:Hp)(a:Addr)(xs:List V):Prop:=
 Rd H a (.tup xs)\/
  ∃(o:Obj) (its:Array Value) (n:Nat),K.lookup a=some o/\o.cls= .type "tuple"/\o.data= .seq its n/\its.size<=sizeLine/\bo xs its.toList
def ON:Value->Option V
 | .none=>some .non
 | .bool b=>some (.bl b)
 | .int i _=>some (.int i)
 | .str x _=>some (.str x)
 | .bytes b _=>some (.byt b)
 | .float b _=>some (.flt b)
 | .ref a=>some (.ref a)
 | .type n=>some (.ty n)
 |_=>none
theorem bp.abs {x:V}{u:Value}(r:bp x u):ON u=some x:=by
 cases x with
 |non=>cases r;rfl
 |bl _=>cases r;rfl
 |int _=>obtain ⟨t,rfl⟩:=r;rfl
 |str _=>obtain ⟨t,rfl⟩:=r;rfl
 |byt _=>obtain ⟨t,rfl⟩:=r;rfl
 |flt _=>obtain ⟨t,rfl⟩:=r;rfl
 |ref _=>cases r;rfl
 |ty _=>cases r;rfl
theorem bp.inj {x y:V}{u:Value}(r:bp x u)(q:bp y u):x=y:=Option.some.inj (r.abs.symm.trans q.abs)
theorem bo.inj:∀ {xs ys:List V} {us:List Value},bo xs us->bo ys us->xs=ys
 |_,_,_,.nil,.nil=>rfl
 |_,_,_,.cons r t,.cons r' t'=>by rw [r.inj r',bo.inj t t']
section
variable {X:Cx}{pins:List ↑20}{σ:St}{H:Hp}{s:Shared}{a:Addr}{xs ys:List V}
theorem aN.of {K:Fg}(h:H a=some (.lst xs)):aN K H a xs:= .inl (.inl h)
theorem aK.of {K:Fg}(h:H a=some (.tup xs)):aK K H a xs:= .inl (.inl h)
theorem aL.list (I:aL X pins σ H s)(h:aN X.K H a xs):∃its:List Value,bo xs its/\PlainL s.heap a its.toArray/\xs.length<=sizeLine:=by
 rcases h with h|⟨o,its,n,hk,hc,hd,hs,hz,r⟩
 ·obtain ⟨z,its,n,r,e⟩:=h.ok I.hok;exact ⟨its,r,⟨_,n,e,rfl,rfl,rfl⟩,z⟩
 ·rwa[⟨its.toList,r,⟨o,n,I.kIn a o hk,hc,hd,by simpa using hs⟩,?_⟩];have e:=r.length;simp only [Array.length_toList] at e;omega
theorem aL.tuple (I:aL X pins σ H s)(h:aK X.K H a xs):∃its:List Value,bo xs its/\IsTup s.heap a its.toArray/\xs.length<=sizeLine:=by
 rcases h with h|⟨o,its,n,hk,hc,hs,hz,r⟩
 ·obtain ⟨z,its,r,p⟩:=h.ok I.hok;exact ⟨its,r,p,z⟩
 ·rwa[⟨its.toList,r,⟨o,I.kIn a o hk,hc,n,by simpa using hs⟩,?_⟩];have e:=r.length;simp only [Array.length_toList] at e;omega
theorem aL.list_inj (I:aL X pins σ H s)(h:aN X.K H a xs)(h':aN X.K H a ys):xs=ys:=by
 obtain ⟨its,r,⟨o,n,e,_,_,d⟩,_⟩:=I.list h;obtain ⟨its',r',⟨o',n',e',_,_,d'⟩,_⟩:=I.list h';rw [e] at e';cases e';rw [d] at d';injection d' with d1 _
 have:its=its':=by simpa using congrArg Array.toList d1
 subst this;exact r.inj r'
theorem aL.tuple_inj (I:aL X pins σ H s)(h:aK X.K H a xs)(h':aK X.K H a ys):xs=ys:=by
 obtain ⟨its,r,⟨o,e,_,n,d⟩,_⟩:=I.tuple h;obtain ⟨its',r',⟨o',e',_,n',d'⟩,_⟩:=I.tuple h';rw [e] at e';cases e';rw [d] at d';injection d' with d1 _
 have:its=its':=by simpa using congrArg Array.toList d1
 subst this;exact r.inj r'
end
abbrev Cx.wish (X:Cx)(E:Value->Shared->Prop):Cx:= {X with xe:=E}
abbrev Cx.nox (X:Cx):Cx:=X.wish λ_ _=>False
theorem Cx.Ok.wish {X:Cx}(ok:X.Ok)(E:Value->Shared->Prop):(X.wish E).Ok:=
 ⟨ok.mod,ok.kind,ok.glob,ok.blt,ok.above,ok.inj,ok.has,ok.cab,ok.hd,ok.frames,ok.stk,ok.exf,ok.bs,ok.bsz,ok.noex,ok.exfs,ok.funs,ok.frf⟩
theorem Cx.Ok.unwish {X:Cx}{E:Value->Shared->Prop}(ok:(X.wish E).Ok):X.Ok:=
 ⟨ok.mod,ok.kind,ok.glob,ok.blt,ok.above,ok.inj,ok.has,ok.cab,ok.hd,ok.frames,ok.stk,ok.exf,ok.bs,ok.bsz,ok.noex,ok.exfs,ok.funs,ok.frf⟩
section
variable {X:Cx}{pins:List ↑20}{σ:St}{H:Hp}{s:Shared}{E:Value->Shared->Prop}
theorem aL.wish (I:aL X pins σ H s)(E:Value->Shared->Prop):aL (X.wish E) pins σ H s:=⟨I.ok.wish E,I.os,I.bare,I.base,I.loc,I.cell,I.free,I.freeC,I.pin,I.hok,I.len⟩
theorem aL.unwish (I:aL (X.wish E) pins σ H s):aL X pins σ H s:=⟨I.ok.unwish,I.os,I.bare,I.base,I.loc,I.cell,I.free,I.freeC,I.pin,I.hok,I.len⟩
theorem SP.unwish {D:k7}{f:Flow}{s':Shared}(h:SP (X.wish E) pins D f s'):SP X pins D f s':=by
 cases f with
 |next=>obtain ⟨σ',H',I,q⟩:=h;exact ⟨σ',H',I.unwish,q⟩
 |brk=>obtain ⟨σ',H',I,q⟩:=h;exact ⟨σ',H',I.unwish,q⟩
 |cont=>obtain ⟨σ',H',I,q⟩:=h;exact ⟨σ',H',I.unwish,q⟩
 |ret u=>obtain ⟨v,σ',H',I,r,q⟩:=h;exact ⟨v,σ',H',I.unwish,r,q⟩
theorem tK.nox {st:List Stmt}{t:TS}(h:tK X.nox st t):tK X st t:=λpins s σ H D I hw=>
 wpAny_mono (h pins s σ H D (I.wish _) hw) (λ_ _ q=>q.unwish) λ_ _ z=>False.elim z
end
section
variable {X:Cx}{st:Stmt}{dG:List Stmt}{t u:TS}{e:Expr}{te:TE}{pos:Pos}
def Lp:TS:=λD σ H=>D.nx σ H
def NX (t u:TS):TS:=λD σ H=>t {D with nx:=u D} σ H
theorem aF:tK X [] Lp:=λ_ _ σ H _ I h=>wpAny_execs_nil ⟨σ,H,I,h⟩
theorem af (h1:PS X st t)(h2:tK X dG u):tK X (st::dG) (NX t u):=by
 intro pins s σ H D I h;rwa[wpAny_execs_cons (b4 (h1 pins s σ H {D with nx:=u D} I h) λf s1 q=> ?_)]
 cases f with
 |next=>
  obtain ⟨σ',H',I',q⟩:=q;exact h2 pins s1 σ' H' D I' q
 |ret v=>exact q
 |brk=>exact q
 |cont=>exact q
theorem ag (h1:PS X st t):tK X [st] t:=by
 intro pins s σ H D I h;rwa[wpAny_execs_cons (b4 (h1 pins s σ H D I h) λf s1 q=> ?_)]
 cases f with
 |next=>exact wpAny_execs_nil q
 |ret v=>exact q
 |brk=>exact q
 |cont=>exact q
theorem aL.quiet {pins:List ↑20}{σ:St}{H:Hp}{s:Shared}(I:aL X pins σ H s):interactive X.env=false:=by simp [interactive,I.ok.kind]
def Ls (te:TE):TS:=λD σ H=>te σ H λ_ H1=>D.nx σ H1
theorem aH (he:PE X e te)(hs:swapsWith e none pos.line X.env=pure false:=by rfl):PS X (.Expr e pos) (Ls te):=by
 intro pins s σ H D I h;exact wpAny_Expr_any (b4 (he pins s σ H _ I h) λv s1 ⟨x,H1,I1,r1,q1⟩=>⟨σ,H1,I1,q1⟩) I.quiet hs
def NY (te:TE):TS:=λD σ H=>te σ H D.rt
theorem aD (he:PE X e te):PS X (.Return (some e) pos) (NY te):=by
 intro pins s σ H D I h;exact wpAny_Return_some (b4 (he pins s σ H _ I h) λv s1 ⟨x,H1,I1,r1,q1⟩=>⟨x,σ,H1,I1,r1,q1⟩)
def Lo:TS:=λD _ H=>D.rt .non H
theorem FQ:PS X (.Return none pos) Lo:=λ_ _ σ H _ I h=>wpAny_Return_none ⟨.non,σ,H,I,rfl,h⟩
def N2 (c:TT)(t u:TS):TS:=λD σ H=>c σ H λb H1=>if b=true then t D σ H1 else u D σ H1
theorem LL {c:Expr}{a b:List Stmt}{tc:TT}(hc:PT X c tc)(ha:tK X a t)(hb:tK X b u):PS X (.If c a b pos) (N2 tc t u):=by
 intro pins s σ H D I h;rwa[wpAny_If (b4 (hc pins s σ H _ I h) λd s1 ⟨H1,I1,q1⟩=> ?_)]
 cases d with
 |true=>exact ha pins s1 σ H1 D I1 q1
 |false=>exact hb pins s1 σ H1 D I1 q1
end
abbrev TG:=V->St->Hp->(St->Hp->Prop)->Prop
abbrev At:=List V->St->Hp->(St->Hp->Prop)->Prop
def PG (X:Cx)(target:Expr)(t:TG):Prop:=
 ∀(pins:List ↑20) (s:Shared) (σ:St) (H:Hp) (v:V) (u:Value) (Q:St->Hp->Prop),aL X pins σ H s->bp v u->t v σ H Q->
  wpAny ↑9 X.A (assign target X.env u) (λ_ s'=>∃σ' H',aL X pins σ' H' s'/\Q σ' H') X.xe s
def EQ (X:Cx)(ts:List Expr)(t:At):Prop:=
 ∀(pins:List ↑20) (s:Shared) (σ:St) (H:Hp) (vs:List V) (us:List Value) (Q:St->Hp->Prop),aL X pins σ H s->bo vs us->t vs σ H Q->
  wpAny ↑9 X.A (assignInOrder ((assignEach ts X.env).map (·.2)) us) (λ_ s'=>∃σ' H',aL X pins σ' H' s'/\Q σ' H') X.xe s
abbrev Kr:=V->V->V->Hp->(Hp->Prop)->Prop
def EO (X:Cx)(t:Kr):Prop:=
 ∀(pins:List ↑20) (s:Shared) (σ:St) (H:Hp) (o i v:V) (ov iv u:Value) (Q:Hp->Prop),aL X pins σ H s->bp o ov->bp i iv->bp v u->t o i v H Q->
  wpAny ↑9 X.A (setItem ov iv u) (λ_ s'=>∃H',aL X pins σ H' s'/\Q H') X.xe s
section
variable {X:Cx}{pos:Pos}
def xL (i:Nat):TG:=λv σ H Q=>Q (σ.set i (some v)) H
theorem aC {i:Nat}{x:Str}(hN:X.N.Nodup)(hi:X.N[i]? =some x)(hx:KB X.env.scope x)(hf:X.fn x=true\/X.env.scope.names.lookup x=some .local:=by first|exact .inl rfl|exact .inr rfl|assumption):PG X (.Name x pos) (xL i):=by
 intro pins s σ H v u Q I r h;exact wpAny_assign_Name (qD I hN hi hx r (λs' I'=>⟨_,H,I',h⟩) hf)
def OH:At:=λvs σ H Q=>vs=[]/\Q σ H
def Mr (t:TG)(u:At):At:=λvs σ H Q=>∃v r,vs=v::r/\t v σ H λσ' H'=>u r σ' H' Q
theorem FS:EQ X [] OH:=by
 intro pins s σ H vs us Q I r h;obtain ⟨e,h⟩:=h;subst e;cases r;exact assignInOrder_nil ⟨σ,H,I,h⟩
theorem Dl {e:Expr}{es:List Expr}{t:TG}{u:At}(h1:PG X e t)(h2:EQ X es u)
(hs:(assignEach (e::es) X.env).map (·.2)=assign e X.env::(assignEach es X.env).map (·.2):=by rfl):EQ X (e::es) (Mr t u):=by
 intro pins s σ H vs us Q I r h;obtain ⟨v,vr,e1,h⟩:=h;subst e1
 cases r with
 |cons r rr=>
  rw [hs];rwa[assignInOrder_cons (b4 (h1 pins s σ H _ _ _ I r h) λ_ s1 ⟨σ1,H1,I1,q1⟩=> ?_)];exact h2 pins s1 σ1 H1 _ _ Q I1 rr q1
def Mq (K:Fg)(n:Nat)(t:At):TG:=λv σ H Q=>∃a xs,v= .ref a/\aK K H a xs/\xs.length=n/\t xs σ H Q
theorem Jd {es:List Expr}{k:Nat}{t:At}{n:Nat}(hc:X.calm=true)(h:EQ X es t)
(hn:(assignEach es X.env).length=n:=by rfl)(hst:(assignEach es X.env).findIdx? (·.1)=none:=by rfl):PG X (.Tuple es k pos) (Mq X.K n t):=by
 intro pins s σ H v u Q I r hw;obtain ⟨a,xs,e1,hq,hl,hw⟩:=hw;subst e1;cases r;obtain ⟨its,rv,ht,hz⟩:=I.tuple hq;rwa[assign_Tuple_tuple (I.ok.hd hc) ht (by simp [hn,<-hl,rv.length]) hst λh' hx=> ?_];have I1:aL X pins σ H {s with heap:=h'}:=I.kept (t':=s.toks) λb o e=>hx b o (Nat.ne_of_lt (Heap.lt_size e)) e;exact h pins _ σ H xs _ Q I1 (by simpa using rv) hw
def OG (to ti:TE)(t:Kr):TG:=λv σ H Q=>to σ H λo H1=>ti σ H1 λi H2=>t o i v H2 λH3=>Q σ H3
theorem fB {o i:Expr}{to ti:TE}{t:Kr}(ho:PE X o to)(hi:PE X i ti)(hs:EO X t)
(ha:∀v,assign (.Subscript o i pos) X.env v=(do
   let ov<-holding [v] (eval o X.env)
   let iv<-holding [v,ov] (eval i X.env)
   standAt pos
   holding [v,ov,iv] (setItem ov iv v)
   release [v,ov,iv] []):=by intro _;rfl):PG X (.Subscript o i pos) (OG to ti t):=by
 intro pins s σ H v u Q I r h;rw [ha];rwa[wpAny_bind (wpAny_holding (b4 (ho pins s σ H _ I h) λov s1 ⟨x,H1,I1,r1,q1⟩=> ?_))];rwa[wpAny_bind (wpAny_holding (b4 (hi pins s1 σ H1 _ I1 q1) λiv s2 ⟨y,H2,I2,r2,q2⟩=> ?_))];rwa[wpAny_bind (wpAny_standAt (wpAny_bind (wpAny_holding (b4 (hs pins s2 σ H2 x y v ov iv u _ I2 r1 r2 r q2) λ_ s3 ⟨H3,I3,q3⟩=> ?_))))];exact wpAny_release ⟨σ,H3,I3,q3⟩
def Fq (te:TE)(g:TG):TS:=λD σ H=>te σ H λx H1=>g x σ H1 D.nx
theorem fA {tg e:Expr}{te:TE}{g:TG}(he:PE X e te)(hg:PG X tg g)(hs:swapsWithSole [tg] e pos.line X.env=pure false:=by rfl)(hw:swappedStores [tg] e X.env=pure none:=by rfl)
(h1:(assignEach [tg] X.env).map (·.2)=[assign tg X.env]:=by rfl):PS X (.Assign [tg] e pos) (Fq te g):=by
 intro pins s σ H D I h;rwa[wpAny_Assign_stores (b4 (he pins s σ H _ I h) λv s1 ⟨x,H1,I1,r1,q1⟩=> ?_) hs hw];rw [h1];exact b4 (hg pins s1 σ H1 x v _ I1 r1 q1) λ_ s2 q=>q
theorem aA {i:Nat}{x:Str}{e:Expr}{te:TE}{pos':Pos}(hN:X.N.Nodup)(hi:X.N[i]? =some x)(hx:KB X.env.scope x)(he:PE X e te)(hs:swapsWith e (some (.Name x pos')) pos.line X.env=pure false:=by rfl)(hf:X.fn x=true\/X.env.scope.names.lookup x=some .local:=by first|exact .inl rfl|exact .inr rfl|assumption):
 PS X (.Assign [.Name x pos'] e pos) (Fq te (xL i)):=by
 intro pins s σ H D I h;rwa[wpAny_Assign_Name (b4 (he pins s σ H _ I h) λv s1 ⟨y,H1,I1,r1,q1⟩=> ?_) hs];exact qD I1 hN hi hx r1 (λs2 I2=>⟨_,H1,I2,q1⟩) hf
end
section
variable {X:Cx}{pos:Pos}
def IB (c:TT)(tb:TS):TS:=λD σ H=>∃W:Nat->St->Hp->Prop,(∃m,W m σ H)/\∀m σ H,W m σ H->
 c σ H λb H1=>if b=true then ∃N:St->Hp->Prop,(∀σ' H',N σ' H'->∃m',m'<m/\W m' σ' H')/\tb {D with nx:=N,ct:=N,bk:=D.nx} σ H1 else D.nx σ H1
theorem Di {c:Expr}{body:List Stmt}{tc:TT}{tb:TS}(hp:PassesOwn ↑9 X.A X.env X.xe)(hc:PT X c tc)(hb:tK X body tb):PS X (.While c body [] pos) (IB tc tb):=by
 intro pins s σ H D I h;obtain ⟨W,⟨m0,w0⟩,turn⟩:=h;rwa[wpAny_While (codeAny_whileLoop (λn s'=>∃σ' H',aL X pins σ' H' s'/\W n σ' H') ?_ m0 ⟨σ,H,I,w0⟩)];rintro n s1 ⟨σ1,H1,I1,w1⟩;rwa[wpAny_passesOwn hp (b4 (hc pins s1 σ1 H1 _ I1 (turn n σ1 H1 w1)) λb s2 ⟨H2,I2,q2⟩=> ?_)]
 cases b with
 |true=>
  obtain ⟨N,hN,q2⟩:=q2;rw [if_pos rfl];rwa[wpAny_passesOwn hp (b4 (hb pins s2 σ1 H2 _ I2 q2) λf s3 q3=> ?_)]
  cases f with
  |next=>
   obtain ⟨σ3,H3,I3,n3⟩:=q3;obtain ⟨m',hm,w3⟩:=hN σ3 H3 n3;exact ⟨m',hm,σ3,H3,I3,w3⟩
  |cont=>
   obtain ⟨σ3,H3,I3,n3⟩:=q3;obtain ⟨m',hm,w3⟩:=hN σ3 H3 n3;exact ⟨m',hm,σ3,H3,I3,w3⟩
  |brk=>exact q3
  |ret v=>exact q3
 |false=>
  rw [if_neg Bool.false_ne_true];exact wpAny_execs_nil ⟨σ1,H2,I2,q2⟩
end
structure It where
 go:Nat->Hp->Prop
 yld:Nat->Hp->V->Hp->Prop
 stop:Nat->Hp->Prop
def kz (X:Cx)(pins:List ↑20)(H:Hp)(b:Addr):Prop:=
 H b=none/\b≠X.env.locals/\b∉X.fs/\(b∈X.ex\/X.s₀.heap.objs.size<=b)/\(∀x c,X.env.cells.lookup x=some c->c≠b)/\∀p∈X.pn++pins,p.1≠b
theorem aL.fpOk {X:Cx}{pins:List ↑20}{σ:St}{H H':Hp}{s:Shared}{b:Addr}(I:aL X pins σ H s)(hb:s.heap.objs.size<=b)(hn:H' b=none):kz X pins H' b:=by
 rwa[⟨hn,Nat.ne_of_gt (Nat.lt_of_lt_of_le I.lt hb),I.nofs hb,.inr (Nat.le_trans I.sz hb),λx c e z=> ?_,λp hp z=> ?_⟩]
 ·obtain ⟨v,q⟩:=I.cell x c e;exact absurd (Nat.lt_of_lt_of_le q.lt (by rw [z];exact hb)) (Nat.lt_irrefl _)
 ·exact absurd (Nat.lt_of_lt_of_le (Heap.lt_size (I.pin p hp).1) (by rw [z];exact hb)) (Nat.lt_irrefl _)
structure wK (P:Program)(w:World)(K:Fg)(tg:Expr)(J:It)(fp:List Addr)(it:Addr)(tn:Nat->Heap->Prop):Prop where
 mem:it∈fp
 obj:∀i h,tn i h->∀b∈fp,∃o,h.get? b=some o/\∀v,o.data≠ .cell v
 keep:∀i h h',tn i h->(∀b∈fp,∀o,h.get? b=some o->h'.get? b=some o)->tn i h'
 item:∀(X:Cx),X.prog=P->X.w=w->X.K=K->X.calm=true->∀(i:Nat) (pins:List ↑20) (s:Shared) (σ:St) (H:Hp) (E:Value->Shared->Prop),aL X pins σ H s->(∀b∈fp,kz X pins H b)->tn i s.heap->J.go i H->
  wpAny (model P w) X.A (pyNext (.ref it)) (λr s1=>∃u,r=some u/\
   wpAny (model P w) X.A (letOwnedTupleGo tg (.ref it) u) (λ_ s2=>∃x H',aL X pins σ H' s2/\bp x u/\J.yld i H x H'/\tn (i+1) s2.heap/\∀b∈fp,H' b=none) E s1) E s
 done:∀(X:Cx),X.prog=P->X.w=w->X.K=K->X.calm=true->∀(i:Nat) (pins:List ↑20) (s:Shared) (σ:St) (H:Hp) (E:Value->Shared->Prop),aL X pins σ H s->(∀b∈fp,kz X pins H b)->tn i s.heap->J.stop i H->
  wpAny (model P w) X.A (pyNext (.ref it)) (λr s1=>r=none/\aL X pins σ H s1) E s
 self:∀(A:Around) (i:Nat) (s:Shared) (Q:Value->Shared->Prop) (E:Value->Shared->Prop),tn i s.heap->Q (.ref it) s->wpAny (model P w) A (pyIter (.ref it)) Q E s
abbrev TI:=St->Hp->(It->Hp->Prop)->Prop
def OR (X:Cx)(pins:List ↑20)(σ:St)(tg:Expr)(R:It->Hp->Prop)(itv:Value)(s2:Shared):Prop:=
 ∃(it:Addr) (fp:List Addr) (tn:Nat->Heap->Prop) (J:It) (H':Hp),itv= .ref it/\aL X pins σ H' s2/\wK X.prog X.w X.K tg J fp it tn/\tn 0 s2.heap/\(∀b∈fp,kz X pins H' b)/\R J H'
def PI (X:Cx)(tg iter:Expr)(wi:TI):Prop:=
 ∀(pins:List ↑20) (s:Shared) (σ:St) (H:Hp) (R:It->Hp->Prop),aL X pins σ H s->wi σ H R->
  wpAny ↑9 X.A (eval iter X.env) (λv s1=>wpAny ↑9 X.A (pyIter v) (OR X pins σ tg R) X.xe s1) X.xe s
theorem Af {M:Model}{A:Around}{E:Value->Shared->Prop}{s:Shared}{tg:Expr}{it:Addr}{u:Value}{o:Obj}{n:String}{vs:Array Value}{Q:Unit->Shared->Prop}(ho:s.heap.get? it=some o)(hc:o.cls= .type n)(hd:o.data= .fields vs)
(hn:["enumerate","zip","dict_itemiterator","dict_reverseitemiterator","odict_iterator","itertools.zip_longest","itertools.pairwise"].contains n=false)(hQ:Q () s):wpAny M A (letOwnedTupleGo tg (.ref it) u) Q E s:=by
 unfold letOwnedTupleGo
 cases tg<;>first
  |exact wpAny_pure hQ
  |(cases u<;>first
     |exact wpAny_pure hQ
     |(refine wpAny_bind (wpAny_load ho ?_)
       rw [hc,hd];show wpAny M A (if (["enumerate","zip","dict_itemiterator","dict_reverseitemiterator","odict_iterator","itertools.zip_longest","itertools.pairwise"].contains n&&vs[0]? ==some (rawInt _))=true then _ else _) Q E s;rw [if_neg (by intro h;rw [hn,Bool.false_and] at h;cases h)]
       exact wpAny_pure hQ))
def B0 (K:Fg)(a:Addr):It:=
 ⟨λi H=>∃xs x,aN K H a xs/\xs[i]? =some x,λi H x H'=>H'=H/\∀xs,aN K H a xs->xs[i]? =some x,λi H=>∃xs,aN K H a xs/\xs.length<=i⟩
def BZ (K:Fg)(a:Addr):It:=
 ⟨λi H=>∃xs x,aK K H a xs/\xs[i]? =some x,λi H x H'=>H'=H/\∀xs,aK K H a xs->xs[i]? =some x,λi H=>∃xs,aK K H a xs/\xs.length<=i⟩
def G9 (lo:Int)(n:Nat):It:=⟨λi _=>i<n,λi H x H'=>H'=H/\x= .int (lo+i),λi _=>n<=i⟩
theorem Ay {P:Program}{w:World}{K:Fg}{tg:Expr}(a it:Addr):wK P w K tg (B0 K a) [it] it (λi h=>h.IsListIter it a i) where
 mem:=by simp
 obj:=λi h st b hb=>by
  have e:b=it:=by simpa using hb
  subst e;obtain ⟨o,e,c,d⟩:=st;exact ⟨o,e,λv z=>by rw [d] at z;cases z⟩
 keep:=λi h h' st k=>st.at λo e=>k it ↑27 o e
 item:=by
  intro X hP hw hK hc i pins s σ H E I hf st hg;subst hP hw hK;obtain ⟨xs,x,hq,hx⟩:=hg;obtain ⟨its,rv,p,hz⟩:=I.list hq;obtain ⟨u,hu,ru⟩:=rv.get hx;obtain ⟨f0,f1,f2,f3,f4,f5⟩:=hf it ↑27;rwa[wpAny_pyNext_list_item st p.isList (x:=u) (by simpa using hu) λh' st' sb=> ?_];have I1:aL X pins σ H {s with heap:=h'}:=I.turned (t':=s.toks) (λb o hb e=>(sb.2 b hb).trans e) f0 f1 f3 f4 f5;obtain ⟨o,e,c,d⟩:=id st';exact ⟨u,rfl,Af (s:= {s with heap:=h'}) e c d ↑1 ⟨x,H,I1,ru,⟨rfl,λys hy=>by rw [I.list_inj hy hq];exact hx⟩,st',λb hb=>(hf b hb).1⟩⟩
 done:=by
  intro X hP hw hK hc i pins s σ H E I hf st hg;subst hP hw hK;obtain ⟨xs,hq,hx⟩:=hg;obtain ⟨its,rv,p,hz⟩:=I.list hq;obtain ⟨f0,f1,f2,f3,f4,f5⟩:=hf it ↑27;have hl:=rv.length;exact wpAny_pyNext_list_end (I.ok.hd hc) st p.isList (by simp;omega) λh' eb=>⟨rfl,I.turned (t':=s.toks) (λb o hb e=>eb b o hb e) f0 f1 f3 f4 f5⟩
 self:=λ_ _ _ _ _ st h=>wpAny_pyIter_listiter st h
theorem ym {P:Program}{w:World}{K:Fg}{tg:Expr}(a it:Addr):wK P w K tg (BZ K a) [it] it (λi h=>h.IsTupleIter it a i) where
 mem:=by simp
 obj:=λi h st b hb=>by
  have e:b=it:=by simpa using hb
  subst e;obtain ⟨o,e,c,d⟩:=st;exact ⟨o,e,λv z=>by rw [d] at z;cases z⟩
 keep:=λi h h' st k=>st.at λo e=>k it ↑27 o e
 item:=by
  intro X hP hw hK hc i pins s σ H E I hf st hg;subst hP hw hK;obtain ⟨xs,x,hq,hx⟩:=hg;obtain ⟨its,rv,p,hz⟩:=I.tuple hq;obtain ⟨u,hu,ru⟩:=rv.get hx;obtain ⟨f0,f1,f2,f3,f4,f5⟩:=hf it ↑27;rwa[wpAny_pyNext_tuple_item st (show s.heap.IsTuple a its.toArray from p) (x:=u) (by simpa using hu) λh' st' sb=> ?_];have I1:aL X pins σ H {s with heap:=h'}:=I.turned (t':=s.toks) (λb o hb e=>(sb.2 b hb).trans e) f0 f1 f3 f4 f5;obtain ⟨o,e,c,d⟩:=id st';exact ⟨u,rfl,Af (s:= {s with heap:=h'}) e c d ↑1 ⟨x,H,I1,ru,⟨rfl,λys hy=>by rw [I.tuple_inj hy hq];exact hx⟩,st',λb hb=>(hf b hb).1⟩⟩
 done:=by
  intro X hP hw hK hc i pins s σ H E I hf st hg;subst hP hw hK;obtain ⟨xs,hq,hx⟩:=hg;obtain ⟨its,rv,p,hz⟩:=I.tuple hq;obtain ⟨f0,f1,f2,f3,f4,f5⟩:=hf it ↑27;have hl:=rv.length;exact wpAny_pyNext_tuple_end (I.ok.hd hc) st (show s.heap.IsTuple a its.toArray from p) (by simp;omega) λh' eb=>⟨rfl,I.turned (t':=s.toks) (λb o hb e=>eb b o hb e) f0 f1 f3 f4 f5⟩
 self:=λ_ _ _ _ _ st h=>wpAny_pyIter_tupleiter st h
theorem yn {P:Program}{w:World}{K:Fg}{tg:Expr}(it:Addr)(lo:Int)(n:Nat):wK P w K tg (G9 lo n) [it] it (λi h=>IsRangeIter h it (lo+(i:Nat)*1) ((n:Int) - (i:Nat)) 1) where
 mem:=by simp
 obj:=λi h st b hb=>by
  have e:b=it:=by simpa using hb
  subst e
  exact ⟨_,st,λv z=>by
   have z':Data.fields _=Data.cell v:=z
   cases z'⟩
 keep:=λi h h' st k=>k it ↑27 _ st
 item:=by
  intro X hP hw hK hc i pins s σ H E I hf st hg;subst hP hw hK;obtain ⟨f0,f1,f2,f3,f4,f5⟩:=hf it ↑27;have W:=Walks.range (prog:=X.prog) (w:=X.w) (I.ok.hd hc) it lo 1 n;rwa[W.item i s _ _ hg st λv h' tk hv st' kk=> ?_];obtain ⟨t,rfl⟩:=hv;have I1:aL X pins σ H {s with heap:=h',toks:=tk}:=I.turned (λb o hb e=>kk b o (by simpa using hb) e) f0 f1 f3 f4 f5;rwa[⟨_,rfl,Af (s:= {s with heap:=h',toks:=tk}) (n:="range_iterator") st' rfl rfl ↑1 ⟨.int (lo+i),H,I1,⟨t,?_⟩,⟨rfl,rfl⟩,st',λb hb=>(hf b hb).1⟩⟩];rw [Int.mul_one]
 done:=by
  intro X hP hw hK hc i pins s σ H E I hf st hg;subst hP hw hK;obtain ⟨f0,f1,f2,f3,f4,f5⟩:=hf it ↑27;exact wpAny_pyNext_range_end (I.ok.hd hc) st (by have:n<=i:=hg;omega) λh' eb=>⟨rfl,I.turned (t':=s.toks) (λb o hb e=>eb b o hb e) f0 f1 f3 f4 f5⟩
 self:=λ_ _ _ _ _ st h=>wpAny_pyIter_rangeiter st h
section
variable {X:Cx}{tg:Expr}
theorem Dc {pins:List ↑20}{σ:St}{H:Hp}{s:Shared}{R:It->Hp->Prop}{E:Value->Shared->Prop}{lo hi:Int}{t u v:Tok}{tk:Nat}(I:aL X pins σ H s)(h1: -(2^62)<=lo)(h2:lo<2^62)(h3: -(2^62)<=hi)(h4:hi<2^62)
(q:R (G9 lo (hi - lo).toNat) H):wpAny ↑9 X.A (pyIter (.ref s.heap.objs.size)) (OR X pins σ tg R) E {s with heap:=s.heap.push {cls:= .type "range",data:= .fields #[.int lo t,.int hi u,.int 1 v]},toks:=tk}:=by
 rwa[wpAny_pyIter_range (IsRange.new ..) (small_one h1 h2 h3 h4) ?_];have I1:aL X pins σ H {s with heap:=s.heap.push {cls:= .type "range",data:= .fields #[.int lo t,.int hi u,.int 1 v]},toks:=tk}:=I.kept λb o e=>Heap.get?_push_of_some _ e
 refine ⟨(s.heap.push {cls:= .type "range",data:= .fields #[.int lo t,.int hi u,.int 1 v]}).objs.size,[(s.heap.push {cls:= .type "range",data:= .fields #[.int lo t,.int hi u,.int 1 v]}).objs.size],_,_,H,rfl,
  I1.kept (t':=tk) λb o e=>Heap.get?_push_of_some _ e,yn _ lo (hi - lo).toNat,?_,λb hb=> ?_,q⟩
 ·have e1:lo+((0:Nat):Int)*1=lo:=by simp
  have e2:(((hi - lo).toNat:Nat):Int) - ((0:Nat):Int)=Builtin.Range.rangeSize lo hi 1:=by rw [rangeSize_one];split<;>omega
  show IsRangeIter _ _ (lo+((0:Nat):Int)*1) ((((hi - lo).toNat:Nat):Int) - ((0:Nat):Int)) 1;rw [e1,e2];exact Heap.get?_push_size _ rfl
 ·have e:b=(s.heap.push {cls:= .type "range",data:= .fields #[.int lo t,.int hi u,.int 1 v]}).objs.size:=by simpa using hb
  subst e;exact I1.fpOk ↑15 (I1.hok.fresh ↑15)
def N3 (wi:TI)(g:TG)(tb:TS):TS:=λD σ H=>wi σ H λJ H1=>∃W:Nat->Nat->St->Hp->Prop,(∃m,W 0 m σ H1)/\∀i m σ H,W i m σ H->
 (J.stop i H/\D.nx σ H)\/(J.go i H/\∃N:St->Hp->Prop,(∀σ' H',N σ' H'->∃m',m'<m/\W (i+1) m' σ' H')/\∀x H',J.yld i H x H'->g x σ H' λσ2 H2=>tb {D with nx:=N,ct:=N,bk:=D.nx} σ2 H2)
def rC (fp:List Addr)(h:Heap):List ↑20:=fp.filterMap λb=>(h.get? b).map λo=>(b,o)
theorem je {fp:List Addr}{h:Heap}{b:Addr}{o:Obj}(hb:b∈fp)(e:h.get? b=some o):(b,o)∈rC fp h:=List.mem_filterMap.mpr ⟨b,hb,by rw [e];rfl⟩
theorem Bh {fp:List Addr}{h:Heap}{p:Addr×Obj}(hp:p∈rC fp h):p.1∈fp/\h.get? p.1=some p.2:=by
 obtain ⟨b,hb,e⟩:=List.mem_filterMap.mp hp
 cases q:h.get? b with
 |none=>rw [q] at e;cases e
 |some o=>
  rw [q] at e;have e':(b,o)=p:=Option.some.inj e;subst e';exact ⟨hb,q⟩
theorem aL.pinned {pins:List ↑20}{σ:St}{H:Hp}{s:Shared}{fp:List Addr}(I:aL X pins σ H s)(hf:∀b∈fp,kz X pins H b)(ho:∀b∈fp,∃o,s.heap.get? b=some o/\∀v,o.data≠ .cell v):aL X (pins++rC fp s.heap) σ H s:=
 I.pins_of λp hp=>(List.mem_append.mp hp).elim (λz=>I.pin p (List.mem_append_right _ z)) λz=>by
  obtain ⟨hb,e⟩:=Bh z;obtain ⟨f0,f1,f2,_⟩:=hf p.1 hb;obtain ⟨o,e',d⟩:=ho p.1 hb;rw [e] at e';cases e';exact ⟨e,f0,f1,f2,d⟩
theorem aL.unpinned {pins pl:List ↑20}{σ:St}{H:Hp}{s:Shared}(I:aL X (pins++pl) σ H s):aL X pins σ H s:=I.pins_of λp hp=>I.pin p (List.mem_append_right _ (List.mem_append_left _ hp))
theorem IZ {iter:Expr}{body:List Stmt}{wi:TI}{g:TG}{tb:TS}{pos:Pos}(hp:PassesOwn ↑9 X.A X.env X.xe)(hc:X.calm=true)(hi:PI X tg iter wi)(hg:PG X tg g)(hb:tK X body tb)
(hs:∀x,foldedSetIterable iter X.env x=pure x:=by intro _;rfl):PS X (.For tg iter body [] pos) (N3 wi g tb):=by
 intro pins s σ H D I h;rwa[wpAny_For (b4 (hi pins s σ H _ I h) λv s1 h1=>b4 h1 λitv s2 h2=> ?_) hs];obtain ⟨it,fp,tn,J,H2,e,I2,T,st2,f2,W,⟨m0,w0⟩,turn⟩:=h2;subst e;have stat:∀ {H':Hp},(∀b∈fp,H' b=none)->∀b∈fp,kz X pins H' b:=λhn b hb=>⟨hn b hb,(f2 b hb).2⟩;rwa[codeAny_forLoop_any (λn s'=>∃i σ' H',aL X pins σ' H' s'/\tn i s'.heap/\(∀b∈fp,H' b=none)/\W i n σ' H') ?_ m0 ⟨0,σ,H2,I2,st2,λb hb=>(f2 b hb).1,w0⟩];rintro n s3 ⟨i,σ3,H3,I3,st3,fr3,w3⟩
 rcases turn i n σ3 H3 w3 with ⟨stop,qn⟩|⟨go,N,hN,step⟩
 ·rwa[wpAny_passesOwn hp (b4 (T.done X rfl rfl rfl hc i pins s3 σ3 H3 X.xe I3 (stat fr3) st3 stop) λr s4 ⟨hr,I4⟩=> ?_)];subst hr;exact wpAny_execs_nil ⟨σ3,H3,I4,qn⟩
 ·rwa[wpAny_passesOwn hp (b4 (T.item X rfl rfl rfl hc i pins s3 σ3 H3 X.xe I3 (stat fr3) st3 go) λr s4 ⟨u,hr,h4⟩=> ?_)];subst hr;rwa[wpAny_passesOwn hp (b4 h4 λ_ s5 ⟨x,H5,I5,r5,y5,st5,fr5⟩=> ?_)];have I5':=I5.pinned (stat fr5) (T.obj _ _ st5);rwa[wpAny_passesOwn hp (b4 (hg _ s5 σ3 H5 x u _ I5' r5 (step x H5 y5)) λ_ s6 ⟨σ6,H6,I6,q6⟩=> ?_)];rwa[wpAny_passesOwn hp (b4 (hb _ s6 σ6 H6 _ I6 q6) λf s7 q7=> ?_)]
  have again:∀ {σ7:St} {H7:Hp},aL X (pins++rC fp s5.heap) σ7 H7 s7->N σ7 H7->∃m,m<n/\∃i σ' H',aL X pins σ' H' s7/\tn i s7.heap/\(∀b∈fp,H' b=none)/\W i m σ' H':=λ{σ7 H7} I7 n7=>by
   obtain ⟨m',hm,w7⟩:=hN σ7 H7 n7;rwa[⟨m',hm,i+1,σ7,H7,I7.unpinned,T.keep _ _ _ st5 λb hb o e=>(I7.pin (b,o) (List.mem_append_right _ (List.mem_append_right _ (je hb e)))).1,λb hb=> ?_,w7⟩];obtain ⟨o,e,d⟩:=T.obj _ _ st5 b hb;exact (I7.pin (b,o) (List.mem_append_right _ (List.mem_append_right _ (je hb e)))).2.1
  cases f with
  |next=>obtain ⟨σ7,H7,I7,n7⟩:=q7;exact again I7 n7
  |cont=>obtain ⟨σ7,H7,I7,n7⟩:=q7;exact again I7 n7
  |brk=>obtain ⟨σ7,H7,I7,q7⟩:=q7;exact ⟨σ7,H7,I7.unpinned,q7⟩
  |ret v=>obtain ⟨x7,σ7,H7,I7,r7,q7⟩:=q7;exact ⟨x7,σ7,H7,I7.unpinned,r7,q7⟩
end
theorem Ei {K:Fg}{a:Addr}{xs:List V}{g:TG}{tb:TS}{D:k7}{σ:St}{H:Hp}(Pv:Nat->St->Hp->Prop)(h0:Pv 0 σ H)(hl:∀i σ H,i<=xs.length->Pv i σ H->aN K H a xs)
(hs:∀i x σ H,xs[i]? =some x->Pv i σ H->g x σ H λσ2 H2=>tb {D with nx:=Pv (i+1),ct:=Pv (i+1),bk:=D.nx} σ2 H2)(hd:∀σ H,Pv xs.length σ H->D.nx σ H):
 ∃W:Nat->Nat->St->Hp->Prop,(∃m,W 0 m σ H)/\∀i m σ H,W i m σ H->
  ((B0 K a).stop i H/\D.nx σ H)\/((B0 K a).go i H/\∃N:St->Hp->Prop,(∀σ' H',N σ' H'->∃m',m'<m/\W (i+1) m' σ' H')/\∀x H',(B0 K a).yld i H x H'->g x σ H' λσ2 H2=>tb {D with nx:=N,ct:=N,bk:=D.nx} σ2 H2):=by
 rwa[⟨λi m σ H=>m=xs.length - i/\i<=xs.length/\Pv i σ H,⟨xs.length,by simp,Nat.zero_le _,h0⟩,?_⟩];rintro i m σ H ⟨rfl,hi,p⟩;have q:=hl i σ H hi p;by_cases hlt:i<xs.length
 ·rwa[.inr ⟨⟨xs,xs[i],q,by simp [hlt]⟩,Pv (i+1),λσ' H' p'=>⟨xs.length - (i+1),by omega,rfl,hlt,p'⟩,λx H' y=> ?_⟩];obtain ⟨e,y⟩:=y;subst e;exact hs i x σ _ (y xs q) p
 ·have e:i=xs.length:=by omega
  subst e;exact .inl ⟨⟨xs,q,Nat.le_refl _⟩,hd σ H p⟩
theorem GN {K:Fg}{a:Addr}{xs:List V}{g:TG}{tb:TS}{D:k7}{σ:St}{H:Hp}(Pv:Nat->St->Hp->Prop)(h0:Pv 0 σ H)(hl:∀i σ H,i<=xs.length->Pv i σ H->aK K H a xs)
(hs:∀i x σ H,xs[i]? =some x->Pv i σ H->g x σ H λσ2 H2=>tb {D with nx:=Pv (i+1),ct:=Pv (i+1),bk:=D.nx} σ2 H2)(hd:∀σ H,Pv xs.length σ H->D.nx σ H):
 ∃W:Nat->Nat->St->Hp->Prop,(∃m,W 0 m σ H)/\∀i m σ H,W i m σ H->
  ((BZ K a).stop i H/\D.nx σ H)\/((BZ K a).go i H/\∃N:St->Hp->Prop,(∀σ' H',N σ' H'->∃m',m'<m/\W (i+1) m' σ' H')/\∀x H',(BZ K a).yld i H x H'->g x σ H' λσ2 H2=>tb {D with nx:=N,ct:=N,bk:=D.nx} σ2 H2):=by
 rwa[⟨λi m σ H=>m=xs.length - i/\i<=xs.length/\Pv i σ H,⟨xs.length,by simp,Nat.zero_le _,h0⟩,?_⟩];rintro i m σ H ⟨rfl,hi,p⟩;have q:=hl i σ H hi p;by_cases hlt:i<xs.length
 ·rwa[.inr ⟨⟨xs,xs[i],q,by simp [hlt]⟩,Pv (i+1),λσ' H' p'=>⟨xs.length - (i+1),by omega,rfl,hlt,p'⟩,λx H' y=> ?_⟩];obtain ⟨e,y⟩:=y;subst e;exact hs i x σ _ (y xs q) p
 ·have e:i=xs.length:=by omega
  subst e;exact .inl ⟨⟨xs,q,Nat.le_refl _⟩,hd σ H p⟩
theorem Bv {lo:Int}{n:Nat}{g:TG}{tb:TS}{D:k7}{σ:St}{H:Hp}(Pv:Nat->St->Hp->Prop)(h0:Pv 0 σ H)
(hs:∀i σ H,i<n->Pv i σ H->g (.int (lo+i)) σ H λσ2 H2=>tb {D with nx:=Pv (i+1),ct:=Pv (i+1),bk:=D.nx} σ2 H2)(hd:∀σ H,Pv n σ H->D.nx σ H):
 ∃W:Nat->Nat->St->Hp->Prop,(∃m,W 0 m σ H)/\∀i m σ H,W i m σ H->
  ((G9 lo n).stop i H/\D.nx σ H)\/((G9 lo n).go i H/\∃N:St->Hp->Prop,(∀σ' H',N σ' H'->∃m',m'<m/\W (i+1) m' σ' H')/\∀x H',(G9 lo n).yld i H x H'->g x σ H' λσ2 H2=>tb {D with nx:=N,ct:=N,bk:=D.nx} σ2 H2):=by
 rwa[⟨λi m σ H=>m=n - i/\i<=n/\Pv i σ H,⟨n,by simp,Nat.zero_le _,h0⟩,?_⟩];rintro i m σ H ⟨rfl,hi,p⟩;by_cases hlt:i<n
 ·rwa[.inr ⟨hlt,Pv (i+1),λσ' H' p'=>⟨n - (i+1),by omega,rfl,hlt,p'⟩,λx H' y=> ?_⟩];obtain ⟨e,y⟩:=y;subst e y;exact hs i σ _ hlt p
 ·have e:i=n:=by omega
  subst e;exact .inl ⟨Nat.le_refl _,hd σ H p⟩
abbrev R2:=V->V->Hp->VK->Prop
def d8 (X:Cx)(f:Value->Value->Sem Value)(r:R2):Prop:=
 ∀(pins:List ↑20) (s:Shared) (σ:St) (H:Hp) (x y:V) (v u:Value) (Q:VK),aL X pins σ H s->bp x v->bp y u->r x y H Q->
  wpAny ↑9 X.A (f v u) (EP X pins σ Q) X.xe s
def KA (X:Cx)(f:Value->Sem Value)(r:V->Hp->VK->Prop):Prop:=
 ∀(pins:List ↑20) (s:Shared) (σ:St) (H:Hp) (x:V) (v:Value) (Q:VK),aL X pins σ H s->bp x v->r x H Q->
  wpAny ↑9 X.A (f v) (EP X pins σ Q) X.xe s
def b3 (X:Cx)(f:Value)(r:List V->Hp->VK->Prop):Prop:=
 ∀(pins:List ↑20) (s:Shared) (σ:St) (H:Hp) (xs:List V) (us:List Value) (Q:VK),aL X pins σ H s->bo xs us->r xs H Q->
  wpAny ↑9 X.A (call f us) (EP X pins σ Q) X.xe s
def OO (X:Cx)(r:V->Hp->(Bool->Hp->Prop)->Prop):Prop:=
 ∀(pins:List ↑20) (s:Shared) (σ:St) (H:Hp) (x:V) (v:Value) (Q:Bool->Hp->Prop),aL X pins σ H s->bp x v->r x H Q->
  wpAny ↑9 X.A (truthy v) (TP X pins σ Q) X.xe s
def M7 (r:R2)(ta tb:TE):TE:=λσ H Q=>ta σ H λx H1=>tb σ H1 λy H2=>r x y H2 Q
def Pb (r:V->Hp->VK->Prop)(ta:TE):TE:=λσ H Q=>ta σ H λx H1=>r x H1 Q
def rI (C:Int->Int->Prop)(g:Int->Int->V):R2:=λx y H Q=>∃i j,x= .int i/\y= .int j/\C i j/\Q (g i j) H
def Dg (g:Int->Int->V):R2:=λx y H Q=>∃i j,x= .int i/\y= .int j/\Q (g i j) H
def rU (g:Int->V):V->Hp->VK->Prop:=λx H Q=>∃i,x= .int i/\Q (g i) H
section
variable {X:Cx}{a b c:Expr}{ta tb tc:TE}{pos:Pos}
theorem Kl (ha:PE X a ta)(hb:PE X b tb){pins:List ↑20}{s:Shared}{σ:St}{H:Hp}{R:V->V->Hp->Prop}(I:aL X pins σ H s)
(h:ta σ H λx H1=>tb σ H1 λy H2=>R x y H2){Q:Value->Shared->Prop}{f:Value->Value->Sem Value}
(hf:∀v u s2 x y H2,aL X pins σ H2 s2->bp x v->bp y u->R x y H2->wpAny ↑9 X.A (f v u) Q X.xe s2):
 wpAny ↑9 X.A (eval a X.env) (λv s₁=>wpAny ↑9 X.A (eval b X.env) (λu s₂=>wpAny ↑9 X.A (f v u) Q X.xe s₂) X.xe s₁) X.xe s:=by
 rwa[b4 (ha pins s σ H _ I h) λv s1 ⟨x,H1,I1,r1,q1⟩=> ?_];rwa[b4 (hb pins s1 σ H1 _ I1 q1) λu s2 ⟨y,H2,I2,r2,q2⟩=> ?_];exact hf v u s2 x y H2 I2 r1 r2 q2
theorem aG {op:Operator}{r:R2}(ho:d8 X (binaryOp op) r)(ha:PE X a ta)(hb:PE X b tb):PE X (.BinOp a op b pos) (M7 r ta tb):=by
 intro pins s σ H Q I h;exact wpAny_BinOp (Kl ha hb I h λv u s2 x y H2 I2 rx ry q=>ho pins s2 σ H2 x y v u Q I2 rx ry q)
theorem iG {op:UnaryOp}{r:V->Hp->VK->Prop}(ho:KA X (unaryOp op) r)(ha:PE X a ta):PE X (.UnaryOp op a pos) (Pb r ta):=by
 intro pins s σ H Q I h;exact UnaryOp_ (b4 (ha pins s σ H _ I h) λv s1 ⟨x,H1,I1,r1,q1⟩=>ho pins s1 σ H1 x v Q I1 r1 q1)
theorem Jr {f:Value->Value->Sem Value}{C:Int->Int->Prop}{g:Int->Int->Int}
(rule:∀(i j:Int) (t u:Tok) (s:Shared) (Q:Value->Shared->Prop) (E:Value->Shared->Prop),C i j->Q (.int (g i j) s.toks) {s with toks:=s.toks+1}->wpAny ↑9 X.A (f (.int i t) (.int j u)) Q E s):
 d8 X f (rI C λi j=> .int (g i j)):=by
 intro pins s σ H x y v u Q I rx ry h;obtain ⟨i,j,rfl,rfl,hc,q⟩:=h;obtain ⟨t,rfl⟩:=rx;obtain ⟨t',rfl⟩:=ry;exact rule i j t t' s _ _ hc ⟨.int (g i j),H,I.tok _,⟨_,rfl⟩,q⟩
theorem F1 {f:Value->Value->Sem Value}{g:Int->Int->Int}
(rule:∀(i j:Int) (t u:Tok) (s:Shared) (Q:Value->Shared->Prop) (E:Value->Shared->Prop),Q (.int (g i j) s.toks) {s with toks:=s.toks+1}->wpAny ↑9 X.A (f (.int i t) (.int j u)) Q E s):
 d8 X f (Dg λi j=> .int (g i j)):=by
 intro pins s σ H x y v u Q I rx ry h;obtain ⟨i,j,rfl,rfl,q⟩:=h;obtain ⟨t,rfl⟩:=rx;obtain ⟨t',rfl⟩:=ry;exact rule i j t t' s _ _ ⟨.int (g i j),H,I.tok _,⟨_,rfl⟩,q⟩
theorem F2 {f:Value->Value->Sem Value}{g:Int->Int->Bool}
(rule:∀(i j:Int) (t u:Tok) (s:Shared) (Q:Value->Shared->Prop) (E:Value->Shared->Prop),Q (.bool (g i j)) s->wpAny ↑9 X.A (f (.int i t) (.int j u)) Q E s):
 d8 X f (Dg λi j=> .bl (g i j)):=by
 intro pins s σ H x y v u Q I rx ry h;obtain ⟨i,j,rfl,rfl,q⟩:=h;obtain ⟨t,rfl⟩:=rx;obtain ⟨t',rfl⟩:=ry;exact rule i j t t' s _ _ ⟨.bl (g i j),H,I,rfl,q⟩
def BV (i j:Int):Prop:=0<j/\j<1073741824
def zR (i j:Int):Prop:=0<=j/\j<=1000000/\i.natAbs<2^64
def wN (i j:Int):Prop:=(-(2^64)<i/\i<2^64)\/(-(2^64)<j/\j<2^64)
theorem wN.ok {i j:Int}(h:wN i j):IntMulOk i j:=by
 rcases h with ⟨h1,h2⟩|⟨h1,h2⟩
 ·exact .of_left (intBits_le_64 h1 h2)
 ·exact .of_right (intBits_le_64 h1 h2)
theorem yk (k:Nat):(0:Int)<=2^k:=by
 rw [two_pow_cast];exact Int.natCast_nonneg _
theorem Jq:d8 X (binaryOp .Add) (Dg λi j=> .int (i+j)):=F1 λ_ _ _ _ _ _ _ q=>add_int q
theorem Jh:d8 X (binaryOp .Sub) (Dg λi j=> .int (i - j)):=F1 λ_ _ _ _ _ _ _ q=>sub_int q
theorem Jl:d8 X (binaryOp .Mult) (rI wN λi j=> .int (i*j)):=Jr λ_ _ _ _ _ _ _ hc q=>mul_int q hc.ok
theorem FY:d8 X (binaryOp .FloorDiv) (rI BV λi j=> .int (i / j)):=Jr λi j _ _ _ _ _ hc q=>by
 have h1:(0:Int)<j:=hc.1;have h2:j<1073741824:=hc.2;exact floordiv_int ↑5 (by rw [Int.fdiv_eq_ediv_of_nonneg i ↑5];exact q) (.inl (PyProof.noPylong_small ↑5))
theorem Jm:d8 X (binaryOp .Mod) (rI (λ_ j=>0<j) λi j=> .int (i% j)):=Jr λi j _ _ _ _ _ hc q=>by
 have h1:(0:Int)<j:=hc;exact mod_int' ↑5 (by rw [Int.fmod_eq_emod_of_nonneg i ↑5];exact q)
theorem Jk:d8 X (binaryOp .Pow) (rI zR λi j=> .int (i^j.toNat)):=Jr λ_ _ _ _ _ _ _ hc q=>pow_int_small hc.1 hc.2.1 hc.2.2 q
theorem Jj:d8 X (binaryOp .LShift) (rI zR λi j=> .int (i*2^j.toNat)):=Jr λ_ _ _ _ _ _ _ hc q=>lshift_int_small hc.1 hc.2.1 hc.2.2 q
theorem Ji:d8 X (binaryOp .RShift) (rI (λ_ j=>0<=j) λi j=> .int (i / 2^j.toNat)):=Jr λi j _ _ _ _ _ hc q=>
 rshift_int hc (by rw [Int.fdiv_eq_ediv_of_nonneg i (yk _)];exact q)
theorem Jp:d8 X (binaryOp .BitAnd) (Dg λi j=> .int (Builtin.bitAnd i j)):=F1 λ_ _ _ _ _ _ _ q=>and_int q
theorem LO:d8 X (binaryOp .BitOr) (Dg λi j=> .int (Builtin.bitOr i j)):=F1 λ_ _ _ _ _ _ _ q=>or_int q
theorem Pa {f:Value->Sem Value}{g:Int->Int}
(rule:∀(i:Int) (t:Tok) (s:Shared) (Q:Value->Shared->Prop) (E:Value->Shared->Prop),Q (.int (g i) s.toks) {s with toks:=s.toks+1}->wpAny ↑9 X.A (f (.int i t)) Q E s):
 KA X f (rU λi=> .int (g i)):=by
 intro pins s σ H x v Q I rx h;obtain ⟨i,rfl,q⟩:=h;obtain ⟨t,rfl⟩:=rx;exact rule i t s _ _ ⟨.int (g i),H,I.tok _,⟨_,rfl⟩,q⟩
theorem Iv:KA X (unaryOp .USub) (rU λi=> .int (-i)):=Pa λ_ _ _ _ _ q=>neg_int q
end
def IP:V->V->Bool
 | .non,.non=>true| .non,.int _=>true| .int _,.non=>true| .non,.bl _=>true| .bl _,.non=>true| .non,.str _=>true| .str _,.non=>true
 | .int _,.int _=>true| .bl _,.bl _=>true| .str _,.str _=>true| .byt _,.byt _=>true
 | .int _,.str _=>true| .str _,.int _=>true| .bl _,.str _=>true| .str _,.bl _=>true
 |_,_=>false
def Pg:R2:=λx y H Q=>IP x y=true/\Q (.bl (decide (x=y))) H
def Pf:R2:=λx y H Q=>IP x y=true/\Q (.bl (!decide (x=y))) H
theorem Ak {i j:Int}:decide (V.int i=V.int j)=(i==j):=by
 rw [Bool.eq_iff_iff];simp
theorem Eu {i j:Bool}:decide (V.bl i=V.bl j)=(i==j):=by
 rw [Bool.eq_iff_iff];simp
theorem Aj {i j:Str}:decide (V.str i=V.str j)=(i==j):=by
 rw [Bool.eq_iff_iff];simp
theorem Al {i j:Array UInt8}:decide (V.byt i=V.byt j)=(i.toList==j.toList):=by
 rw [Bool.eq_iff_iff];cases i;cases j;simp
section
variable {X:Cx}{a b c:Expr}{ta tb tc:TE}{pos:Pos}
theorem bF {pins:List ↑20}{σ:St}{H:Hp}{s:Shared}{Q:VK}{k k':Bool}(I:aL X pins σ H s)(q:Q (.bl k) H)(e:k=k'):EP X pins σ Q (.bool k') s:=by
 subst e;exact ⟨.bl k,H,I,rfl,q⟩
theorem LU:d8 X (compareOp .Eq) Pg:=by
 intro pins s σ H x y v u Q I rx ry h;obtain ⟨hs,q⟩:=h
 cases x with
 |non=>
  cases rx
  cases y with
  |non=>cases ry;exact PySem.EqNone.eq_none_none (bF I q ↑27)
  |bl j=>cases ry;exact PySem.EqNone.eq_none_bool (bF I q ↑27)
  |int j=>obtain ⟨t',rfl⟩:=ry;exact PySem.EqNone.eq_none_int (bF I q ↑27)
  |str j=>obtain ⟨t',rfl⟩:=ry;exact PySem.EqNone.eq_none_str (bF I q ↑27)
  |_=>exact absurd (show false=true from hs) Bool.false_ne_true
 |bl i=>
  cases rx
  cases y with
  |non=>cases ry;exact PySem.EqNone.eq_bool_none (bF I q ↑27)
  |bl j=>cases ry;exact eq_bool (bF I q Eu)
  |str j=>obtain ⟨t',rfl⟩:=ry;exact PySem.EqMixed.eq_bool_str (bF I q ↑27)
  |_=>exact absurd (show false=true from hs) Bool.false_ne_true
 |int i=>
  obtain ⟨t,rfl⟩:=rx
  cases y with
  |non=>cases ry;exact PySem.EqNone.eq_int_none (bF I q ↑27)
  |int j=>obtain ⟨t',rfl⟩:=ry;exact eq_int (bF I q Ak)
  |str j=>obtain ⟨t',rfl⟩:=ry;exact PySem.EqMixed.eq_int_str (bF I q ↑27)
  |_=>exact absurd (show false=true from hs) Bool.false_ne_true
 |str i=>
  obtain ⟨t,rfl⟩:=rx
  cases y with
  |non=>cases ry;exact PySem.EqNone.eq_str_none (bF I q ↑27)
  |bl j=>cases ry;exact PySem.EqMixed.eq_str_bool (bF I q ↑27)
  |int j=>obtain ⟨t',rfl⟩:=ry;exact PySem.EqMixed.eq_str_int (bF I q ↑27)
  |str j=>obtain ⟨t',rfl⟩:=ry;exact eq_str (bF I q Aj)
  |_=>exact absurd (show false=true from hs) Bool.false_ne_true
 |byt i=>
  obtain ⟨t,rfl⟩:=rx
  cases y with
  |byt j=>obtain ⟨t',rfl⟩:=ry;exact W.eq_bytes (bF I q Al)
  |_=>exact absurd (show false=true from hs) Bool.false_ne_true
 |_=>cases y<;>exact absurd (show false=true from hs) Bool.false_ne_true
theorem LP:d8 X (compareOp .NotEq) Pf:=by
 intro pins s σ H x y v u Q I rx ry h;obtain ⟨hs,q⟩:=h
 cases x with
 |non=>
  cases rx
  cases y with
  |non=>cases ry;exact PySem.EqNone.ne_none_none (bF I q ↑27)
  |bl j=>cases ry;exact PySem.EqNone.ne_none_bool (bF I q ↑27)
  |int j=>obtain ⟨t',rfl⟩:=ry;exact PySem.EqNone.ne_none_int (bF I q ↑27)
  |str j=>obtain ⟨t',rfl⟩:=ry;exact PySem.EqNone.ne_none_str (bF I q ↑27)
  |_=>exact absurd (show false=true from hs) Bool.false_ne_true
 |bl i=>
  cases rx
  cases y with
  |non=>cases ry;exact PySem.EqNone.ne_bool_none (bF I q ↑27)
  |bl j=>cases ry;exact ne_bool (bF I q (congrArg not Eu))
  |str j=>obtain ⟨t',rfl⟩:=ry;exact PySem.EqMixed.ne_bool_str (bF I q ↑27)
  |_=>exact absurd (show false=true from hs) Bool.false_ne_true
 |int i=>
  obtain ⟨t,rfl⟩:=rx
  cases y with
  |non=>cases ry;exact PySem.EqNone.ne_int_none (bF I q ↑27)
  |int j=>obtain ⟨t',rfl⟩:=ry;exact ne_int (bF I q (congrArg not Ak))
  |str j=>obtain ⟨t',rfl⟩:=ry;exact PySem.EqMixed.ne_int_str (bF I q ↑27)
  |_=>exact absurd (show false=true from hs) Bool.false_ne_true
 |str i=>
  obtain ⟨t,rfl⟩:=rx
  cases y with
  |non=>cases ry;exact PySem.EqNone.ne_str_none (bF I q ↑27)
  |bl j=>cases ry;exact PySem.EqMixed.ne_str_bool (bF I q ↑27)
  |int j=>obtain ⟨t',rfl⟩:=ry;exact PySem.EqMixed.ne_str_int (bF I q ↑27)
  |str j=>obtain ⟨t',rfl⟩:=ry;exact ne_str (bF I q (congrArg not Aj))
  |_=>exact absurd (show false=true from hs) Bool.false_ne_true
 |byt i=>
  obtain ⟨t,rfl⟩:=rx
  cases y with
  |byt j=>obtain ⟨t',rfl⟩:=ry;exact W.ne_bytes (bF I q (congrArg not Al))
  |_=>exact absurd (show false=true from hs) Bool.false_ne_true
 |_=>cases y<;>exact absurd (show false=true from hs) Bool.false_ne_true
theorem LQ:d8 X (compareOp .Lt) (Dg λi j=> .bl (decide (i<j))):=F2 λ_ _ _ _ _ _ _ q=>lt_int q
theorem LR:d8 X (compareOp .LtE) (Dg λi j=> .bl (decide (i<=j))):=F2 λ_ _ _ _ _ _ _ q=>le_int q
theorem LS:d8 X (compareOp .Gt) (Dg λi j=> .bl (decide (j<i))):=F2 λ_ _ _ _ _ _ _ q=>gt_int q
theorem LT:d8 X (compareOp .GtE) (Dg λi j=> .bl (decide (j<=i))):=F2 λ_ _ _ _ _ _ _ q=>ge_int q
theorem AR:d8 X (compareOp .In) (λx y H Q=>∃i j,x= .str i/\y= .str j/\Q (.bl (!(Builtin.Str.occurrences j i 0 j.length 1).isEmpty)) H):=by
 intro pins s σ H x y v u Q I rx ry h;obtain ⟨i,j,rfl,rfl,q⟩:=h;obtain ⟨t,rfl⟩:=rx;obtain ⟨t',rfl⟩:=ry;exact in_str (bF I q rfl)
theorem Jn:d8 X (compareOp .Is) (λx y H Q=>y= .non/\Q (.bl (decide (x= .non))) H):=by
 intro pins s σ H x y v u Q I rx ry h;obtain ⟨rfl,q⟩:=h;cases ry;rwa[is_none_gen (bF I q ?_)]
 cases x<;>first
  |(cases rx;rfl)
  |(obtain ⟨t,rfl⟩:=rx;rfl)
theorem FX:d8 X (compareOp .IsNot) (λx y H Q=>y= .non/\Q (.bl (!decide (x= .non))) H):=by
 intro pins s σ H x y v u Q I rx ry h;obtain ⟨rfl,q⟩:=h;cases ry;rwa[isnot_none_gen (bF I q ?_)]
 cases x<;>first
  |(cases rx;rfl)
  |(obtain ⟨t,rfl⟩:=rx;rfl)
theorem vV:d8 X (compareOp .NotIn) (λx y H Q=>∃i j,x= .str i/\y= .str j/\Q (.bl (!(!(Builtin.Str.occurrences j i 0 j.length 1).isEmpty))) H):=by
 intro pins s σ H x y v u Q I rx ry h;obtain ⟨i,j,rfl,rfl,q⟩:=h;obtain ⟨t,rfl⟩:=rx;obtain ⟨t',rfl⟩:=ry;exact notIn_str (bF I q rfl)
theorem d8.or {f:Value->Value->Sem Value}{r r':R2}(h:d8 X f r)(h':d8 X f r'):d8 X f (λx y H Q=>r x y H Q\/r' x y H Q):=by
 intro pins s σ H x y v u Q I rx ry q
 rcases q with q|q
 ·exact h pins s σ H x y v u Q I rx ry q
 ·exact h' pins s σ H x y v u Q I rx ry q
theorem au (b:Expr){op:CmpOp}(h:op≠ .In:=by decide)(h2:op≠ .NotIn:=by decide):behindInMarks op b=false:=by
 have e1:(op==CmpOp.In)=false:=by cases op<;>first|rfl|exact absurd rfl h
 have e2:(op==CmpOp.NotIn)=false:=by cases op<;>first|rfl|exact absurd rfl h2
 cases b<;>simp [behindInMarks,e1,e2]
theorem ce {op:CmpOp}{r:R2}(ho:d8 X (compareOp op) r)(ha:PE X a ta)(hb:PE X b tb)(hm:behindInMarks op b=false):PE X (.Compare a [op] [b] pos) (M7 r ta tb):=by
 intro pins s σ H Q I h;exact wpAny_Compare1 (Kl ha hb I h λv u s2 x y H2 I2 rx ry q=>ho pins s2 σ H2 x y v u Q I2 rx ry q) hm
def MN (K:Fg)(x:V)(H:Hp)(k:Bool):Prop:=
 match x with
 | .non=>k=false
 | .bl b=>k=b
 | .int i=>k=(i != 0)
 | .str y=>y.length<=sizeLine/\k=((y.length:Int) != 0)
 | .byt y=>y.size<=sizeLine/\k=((y.size:Int) != 0)
 | .ref p=>(∃xs,aN K H p xs/\k= !xs.isEmpty)\/(∃xs,aK K H p xs/\k= !xs.isEmpty)\/∃kvs,H p=some (.dK kvs)/\k= !kvs.isEmpty
 |_=>False
theorem zy {κ:Type}{kvs:List (κ×V)}{vs:List (κ×Value)}(r:KV kvs vs):(!vs.isEmpty)= !kvs.isEmpty:=by
 cases r<;>rfl
theorem rV {xs:List V}{its:List Value}(r:bo xs its):(!its.toArray.isEmpty)= !xs.isEmpty:=by
 cases r<;>simp
theorem mf:(sizeLine:Nat)<2^63:=by rw [sizeLine_eq];decide
theorem jJ:OO X (λx H Q=>∃k,MN X.K x H k/\Q k H):=by
 intro pins s σ H x v Q I rx h;obtain ⟨k,e,q⟩:=h;have hl:=mf;have hs:sizeLine=16777216:=sizeLine_eq
 cases x with
 |non=>
  cases rx;have e':k=false:=e;subst e';exact truthy_none ⟨H,I,q⟩
 |bl b=>
  cases rx;have e':k=b:=e;subst e';exact wpAny_truthy_bool ⟨H,I,q⟩
 |int i=>
  obtain ⟨t,rfl⟩:=rx;have e':k=(i != 0):=e;subst e';exact PySem.P.truthy_int ⟨H,I,q⟩
 |str y=>
  obtain ⟨t,rfl⟩:=rx;obtain ⟨hy,e'⟩:y.length<=sizeLine/\k=((y.length:Int) != 0):=e;subst e';exact PySem.P.truthy_str ↑5 ⟨H,I.tok _,q⟩
 |byt y=>
  obtain ⟨t,rfl⟩:=rx;obtain ⟨hy,e'⟩:y.size<=sizeLine/\k=((y.size:Int) != 0):=e;subst e';exact W.truthy_bytes ↑5 ⟨H,I.tok _,q⟩
 |ref p=>
  cases rx;have e':(∃xs,aN X.K H p xs/\k= !xs.isEmpty)\/(∃xs,aK X.K H p xs/\k= !xs.isEmpty)\/∃kvs,H p=some (.dK kvs)/\k= !kvs.isEmpty:=e
  rcases e' with ⟨xs,hx,e'⟩|⟨xs,hx,e'⟩|⟨kvs,hx,e'⟩
  ·subst e';obtain ⟨its,r,pl,hz⟩:=I.list hx;have hlen:=r.length;exact wpAny_truthy_list pl.isList (by simp only [List.size_toArray];omega) ⟨H,I.tok _,by rw [rV r];exact q⟩
  ·subst e';obtain ⟨its,r,pl,hz⟩:=I.tuple hx;have hlen:=r.length;exact truthy_tuple pl (by simp only [List.size_toArray];omega) ⟨H,I.tok _,by rw [rV r];exact q⟩
  ·subst e';obtain ⟨hz,hS,vs,r,m⟩:kvs.length<=sizeLine/\(p==sysModules)=false/\∃vs,KV kvs vs/\s.heap.DictOf (cN X.prog X.w) p vs:=I.hok p _ hx;have hlen:kvs.length=vs.length:=Paired.length r;exact wpAny_truthy_dict hS m ↑5 ⟨H,I.tok _,by rw [zy r];exact q⟩
 |_=>exact (show False from e).elim
theorem zc:d8 X (binaryOp .Add) (λx y H Q=>∃i j,x= .str i/\y= .str j/\i.length+j.length<=sizeLine/\Q (.str (i++j)) H):=by
 intro pins s σ H x y v u Q I rx ry h;obtain ⟨i,j,rfl,rfl,hz,q⟩:=h;obtain ⟨t,rfl⟩:=rx;obtain ⟨t',rfl⟩:=ry;exact add_str (λt' tk=>⟨.str (i++j),H,I.tok _,⟨_,rfl⟩,q⟩) hz
theorem pG {x:V}{us:List Value}(r:bo [x] us):∃u,us=[u]/\bp x u:=by
 cases r with
 |cons r1 r2=>cases r2;exact ⟨_,rfl,r1⟩
theorem wW {x y:V}{us:List Value}(r:bo [x,y] us):∃u w',us=[u,w']/\bp x u/\bp y w':=by
 cases r with
 |cons r1 r2=>
  cases r2 with
  |cons r3 r4=>cases r4;exact ⟨_,_,rfl,r1,r3⟩
theorem BK (hc:X.calm=true):b3 X (.builtin "max") (λxs H Q=>∃i j,xs=[.int i,.int j]/\Q (.int (if j>i then j else i)) H):=by
 intro pins s σ H xs us Q I r h;obtain ⟨i,j,rfl,q⟩:=h;obtain ⟨u,w',rfl,⟨t,rfl⟩,⟨t',rfl⟩⟩:=wW r;rwa[max_two_ints (I.ok.hd hc) λh' tk k=>⟨_,H,I.kept k,?_,q⟩];by_cases hj:j>i
 ·rw [if_pos hj,if_pos hj];exact ⟨_,rfl⟩
 ·rw [if_neg hj,if_neg hj];exact ⟨_,rfl⟩
theorem BJ (hc:X.calm=true):b3 X (.builtin "min") (λxs H Q=>∃i j,xs=[.int i,.int j]/\Q (.int (if j<i then j else i)) H):=by
 intro pins s σ H xs us Q I r h;obtain ⟨i,j,rfl,q⟩:=h;obtain ⟨u,w',rfl,⟨t,rfl⟩,⟨t',rfl⟩⟩:=wW r;rwa[min_two_ints (I.ok.hd hc) λh' tk k=>⟨_,H,I.kept k,?_,q⟩];by_cases hj:j<i
 ·rw [if_pos hj,if_pos hj];exact ⟨_,rfl⟩
 ·rw [if_neg hj,if_neg hj];exact ⟨_,rfl⟩
end
structure zN (h:Heap)(x dx C:Addr)(mA:Str->Option Value):Prop where
 obj:h.get? x=some (W.instObj C dx)
 ns:h.Ns1 dx mA
 ne:dx≠x
theorem ux {h:Heap}{dx:Addr}{mA:Str->Option Value}(n:h.Ns1 dx mA):∃od,h.get? dx=some od/\∀name,W.lookIn name od=some (mA name):=by
 obtain ⟨o,es,ep,ho,hd,hk,_,hm⟩:=n;rwa[⟨o,ho,λname=> ?_⟩];have e:=hm name;unfold nsFind findBy at e;rw [<-Array.find?_toList] at e;unfold W.lookIn;rw [hd];dsimp only;split
 ·rename_i y q;rw [q] at e;exact congrArg some e
 ·rename_i q;rw [q] at e
  have a:es.toList.any (·.refKey)=false:=by
   rw [List.any_eq_false];intro y hy;obtain ⟨z,t,hkey⟩:=hk y (Array.mem_toList_iff.mp hy);simp [DictEntry.refKey,hkey]
  have a': ¬es.toList.any (·.refKey)=true:=by rw [a];exact Bool.false_ne_true
  rw [if_neg a'];exact congrArg some e
theorem zN.look {h:Heap}{x dx C:Addr}{mA:Str->Option Value}(I:zN h x dx C mA):∃od,PySem.W.InstAt h x (W.instObj C dx) C (some od)/\∀name,W.lookIn name od=some (mA name):=
 let ⟨od,ho,hl⟩:=ux I.ns
 ⟨od,⟨I.obj,rfl,rfl,ho⟩,hl⟩
section
variable {prog:Program}{w:World}{A:Around}{E:Value->Shared->Prop}{s:Shared}{K:Fg}{x dx C f:Addr}{mA:Str->Option Value}{name:Str}{v:Value}
theorem GL {expr:Bool}{Q:Value->Shared->Prop}(X:K.In s.heap)(I:zN s.heap x dx C mA)(hg:W.plainGet K C name=true)(hh:W.hasDictIn K C=true)
(ha:W.findIn K (.ref C) name=some none)(hv:mA name=some v)(hv':W.handedIn v=true)(h:Q v {s with toks:=s.toks+1}):
 wpAny ↑38 A (getAttr (.ref x) name expr) Q E s:=by
 obtain ⟨od,J,hl⟩:=I.look;exact W.get_value X J (W.plainGet_of hg).1 (W.findObj_own hh ha rfl (by rw [hl,hv])) hv' h
theorem Eg {pl:Sem Bool}{Q:Value×List Value->Shared->Prop}(X:K.In s.heap)(I:zN s.heap x dx C mA)(hg:W.plainGet K C name=true)
(hf:W.findIn K (.ref C) name=some (some (.ref f)))(ht:W.isFn K (.ref f)=true)(hv:mA name=none)(h:Q (.ref f,[.ref x]) s):
 wpAny ↑38 A (getMethod (.ref x) name pl) Q E s:=by
 obtain ⟨od,J,hl⟩:=I.look;exact W.method_fn X J (W.plainGet_of hg).1 (W.plainGet_of hg).2 hf (beq_iff_eq.mp ht) (by show (W.lookIn name od).map (·.isSome)=some false;rw [hl,hv];rfl) h
theorem Fy {ns:List Str}{Q:Unit->Shared->Prop}(X:K.In s.heap)(I:zN s.heap x dx C mA)
(hs:W.findIn K (.ref C) "__setattr__"=some ↑39)(hp:W.plainOver K C=true)(ht:W.takerIn K C name=some none)(hh:W.hasDictIn K C=true)
(hw:PySem.Within mA ns)(hsz:ns.length<=sizeLine)
(h:∀h',zN h' x dx C (λy=>if y=name then some v else mA y)->Heap.SameBut dx s.heap h'->Q () {s with heap:=h',toks:=s.toks+2}):
 wpAny ↑38 A (setAttr (.ref x) name v) Q E s:=by
 obtain ⟨od,J,hl⟩:=I.look;rwa[W.set_plain X J hs (W.osa_open (s:= {s with toks:=s.toks+1}) (r:=none) X J hp ht λb=> ?_)];obtain ⟨cd,hc,hd'⟩:=W.any_some hh;have hx:s.heap.get? x=some ⟨.ref C,some dx,.plain,#[]⟩:=I.obj;rwa[wpAny_bind (wpAny_pure (wpAny_bind (wpAny_bind (wpAny_loadPart hx (wpAny_bind (PySem.W.Looks.here (s:= {s with toks:=s.toks+1}) (W.looks_clsIn X hc) ?_))))))];rw [hd'];rwa[wpAny_pure (a:=some dx) (wpAny_bind (wpAny_pure (wpAny_bind ?_)))];rwa[wpAny_nsSet1 (s:= {s with toks:=s.toks+1}) I.ns λh' hn2 hs2=> ?_];obtain ⟨oD,esD,epD,hoD,hdD,hcD⟩:=hn2.count (PySem.Within.cons name v hw);rwa[wpAny_bind (wpAny_lookBehind hoD (by rw [hdD];exact pastItsLine_dict (Nat.le_trans hcD (by rw [List.length_cons];omega))) ?_)];exact wpAny_pure (h _ ⟨(hs2.2 _ (Ne.symm I.ne)).trans I.obj,hn2,I.ne⟩ hs2)
theorem D2 {R:Result->Shared->Prop}{vs:List Value}{kw:List (Str×Value)}(X:K.In s.heap)(hm:W.makesIn K C=true)
(hi:W.findIn K (.ref C) "__init__"=some (some (.ref f)))(hf:W.typeIn K (.ref f)=some (.type "function"))
(h:codeAny ↑38 (A.under (.builtin "type.__call__" ⟨.ref C::vs,kw⟩)) (.call (.ref f) ⟨.ref (s.heap.objs.size+1)::vs,kw⟩) (PySem.W.InitBack (s.heap.objs.size+1) R)
   {s with heap:=(s.heap.push W.emptyDict).push (W.instObj C s.heap.objs.size)}):
 codeAny ↑38 A (.call (.ref C) ⟨vs,kw⟩) R s:=by
 obtain ⟨hh,g,d,t,os⟩:=s;exact W.make_core (W.makes_of X hm) (W.looks_findIn X hi) (λself=>W.bind_fn X self hf) (.inl rfl) h
end
def putF (f:Str)(v:V):List (Str×V)->List (Str×V)
 |[]=>[(f,v)]
 |(g,x)::r=>if g=f then (g,v)::r else (g,x)::putF f v r
theorem pP (f g:Str)(v:V):∀fs:List (Str×V),(putF f v fs).lookup g=if g=f then some v else fs.lookup g
 |[]=>by
  show List.lookup g [(f,v)]=_;by_cases h:g=f
  ·have hb:(g==f)=true:=beq_iff_eq.mpr h;simp only [List.lookup,hb,if_pos h]
  ·have hb:(g==f)=false:=beq_eq_false_iff_ne.mpr h;simp only [List.lookup,hb,if_neg h]
 |(k,x)::r=>by
  have ih:=pP f g v r;rw [show putF f v ((k,x)::r)=(if k=f then (k,v)::r else (k,x)::putF f v r) from rfl];by_cases hk:k=f
  ·rw [if_pos hk];by_cases h:g=k
   ·have hb:(g==k)=true:=beq_iff_eq.mpr h;simp only [List.lookup,hb,if_pos (h.trans hk)]
   ·have hb:(g==k)=false:=beq_eq_false_iff_ne.mpr h;simp only [List.lookup,hb,if_neg (λe:g=f=>h (e.trans hk.symm))]
  ·rw [if_neg hk];by_cases h:g=k
   ·have hb:(g==k)=true:=beq_iff_eq.mpr h;simp only [List.lookup,hb,if_neg (λe:g=f=>hk (h.symm.trans e))]
   ·have hb:(g==k)=false:=beq_eq_false_iff_ne.mpr h;simp only [List.lookup,hb];exact ih
theorem oK (f:Str)(v:V):∀fs:List (Str×V),f∈(putF f v fs).map (·.1)/\∀g,g∈fs.map (·.1)->g∈(putF f v fs).map (·.1)
 |[]=>⟨by simp [putF],λg h=>by simp at h⟩
 |(k,x)::r=>by
  obtain ⟨i1,i2⟩:=oK f v r;rw [show putF f v ((k,x)::r)=(if k=f then (k,v)::r else (k,x)::putF f v r) from rfl];by_cases hk:k=f
  ·rw [if_pos hk];subst hk;exact ⟨by simp,λg h=>by simpa using h⟩
  ·rw [if_neg hk];rwa[⟨?_,λg h=> ?_⟩]
   ·rw [List.map_cons];exact List.mem_cons_of_mem _ i1
   ·rw [List.map_cons] at h ⊢
    rcases List.mem_cons.mp h with e|e
    ·exact List.mem_cons.mpr (.inl e)
    ·exact List.mem_cons_of_mem _ (i2 g e)
theorem pS (f:Str)(v:V):∀fs:List (Str×V),(putF f v fs).length<=fs.length+1
 |[]=>by simp [putF]
 |(k,x)::r=>by
  have ih:=pS f v r;rw [show putF f v ((k,x)::r)=(if k=f then (k,v)::r else (k,x)::putF f v r) from rfl];by_cases hk:k=f
  ·rw [if_pos hk,List.length_cons,List.length_cons];omega
  ·rw [if_neg hk,List.length_cons,List.length_cons];omega
theorem jD.some_of {v:V}{o:Option Value}(r:jD (some v) o):∃u,o=some u/\bp v u:=by
 cases o with
 |none=>exact (show False from r).elim
 |some u=>exact ⟨u,rfl,r⟩
theorem jD.none_of {o:Option Value}(r:jD none o):o=none:=by
 cases o with
 |none=>rfl
 |some u=>exact (show False from r).elim
theorem uB {v:V}{u:Value}(r:bp v u):W.handedIn u=true:=by
 cases v with
 |non=>cases (show u=Value.none from r);rfl
 |bl b=>cases (show u=Value.bool b from r);rfl
 |int i=>obtain ⟨t,e⟩:=(show ∃t,u=Value.int i t from r);cases e;rfl
 |str x=>obtain ⟨t,e⟩:=(show ∃t,u=Value.str x t from r);cases e;rfl
 |byt b=>obtain ⟨t,e⟩:=(show ∃t,u=Value.bytes b t from r);cases e;rfl
 |flt b=>obtain ⟨t,e⟩:=(show ∃t,u=Value.float b t from r);cases e;rfl
 |ref a=>cases (show u=Value.ref a from r);rfl
 |ty n=>cases (show u=Value.type n from r);rfl
section
variable {P:Program}{w:World}{H H':Hp}{h h':Heap}{a C dx:Addr}{fs fs':List (Str×V)}
theorem ql (hok:io P w H h)(e:H a=some (.ins C dx fs)):∃mA,zN h a dx C mA/\(∀f,jD (fs.lookup f) (mA f))/\PySem.Within mA (fs.map (·.1))/\fs.length<=1000/\H dx=some (.own a):=by
 obtain ⟨d,z,ne,ob,mA,n,r,q⟩:=(show bS P w H h a (.ins C dx fs) from hok a _ e);exact ⟨mA,⟨ob,n,ne⟩,r,q,z,d⟩
end
structure ua (K:Fg)(C:Addr):Prop where
 pg:W.plainGet K C Str.empty=true
 hd:W.hasDictIn K C=true
 po:W.plainOver K C=true
 sa:W.findIn K (.ref C) "__setattr__"=some ↑39
theorem ua.get {K:Fg}{C:Addr}(c:ua K C)(f:Str):W.plainGet K C f=true:=c.pg
def bV (K:Fg)(C:Addr)(f:Str):Prop:=W.findIn K (.ref C) f=some none
theorem bV.taker {K:Fg}{C:Addr}{f:Str}(n:bV K C f):W.takerIn K C f=some none:=by
 unfold W.takerIn;rw [show W.findIn K (.ref C) f=some none from n];rfl
structure Con (K:Fg)(C:Addr)(f:Str)(v:V)(u:Value):Prop where
 at_:W.findIn K (.ref C) f=some (some u)
 rel:bp v u
 get:W.specialIn K u "__get__"=some none
 cp:W.copiedNames.contains f=false
structure ER (K:Fg)(C:Addr)(m:Str)(f:Addr):Prop where
 at_:W.findIn K (.ref C) m=some (some (.ref f))
 fn:W.isFn K (.ref f)=true
 kp:W.keepIn K (.ref f)=true
section
variable {X:Cx}{pins:List ↑20}{σ:St}{H:Hp}{s:Shared}{a C dx:Addr}{fs:List (Str×V)}{f:Str}{v:V}{A:Around}{E:Value->Shared->Prop}
theorem zz {b:Bool}{Q:Value->Shared->Prop}(I:aL X pins σ H s)(e:H a=some (.ins C dx fs))(c:ua X.K C)(n:bV X.K C f)(l:fs.lookup f=some v)
(h:∀u s',aL X pins σ H s'->bp v u->Q u s'):wpAny ↑9 A (getAttr (.ref a) f b) Q E s:=by
 obtain ⟨mA,O,r,_,_,_⟩:=ql I.hok e;obtain ⟨u,hu,ru⟩:=jD.some_of (v:=v) (o:=mA f) (by rw [<-l];exact r f);exact GL I.kIn O (c.get f) c.hd n hu (uB ru) (h u _ (I.tok _) ru)
theorem r9 {m:Str}{g:Addr}{pl:Sem Bool}{Q:Value×List Value->Shared->Prop}(I:aL X pins σ H s)(e:H a=some (.ins C dx fs))(c:ua X.K C)(k:ER X.K C m g)(l:fs.lookup m=none)
(h:Q (.ref g,[.ref a]) s):wpAny ↑9 A (getMethod (.ref a) m pl) Q E s:=by
 obtain ⟨mA,O,r,_,_,_⟩:=ql I.hok e;have hn:mA m=none:=jD.none_of (by rw [<-l];exact r m);exact Eg I.kIn O (c.get m) k.at_ k.fn hn h
theorem yH {y:V}{u:Value}{Q:Unit->Shared->Prop}(I:aL X pins σ H s)(e:H a=some (.ins C dx fs))(c:ua X.K C)(n:bV X.K C f)(hl:fs.length<1000)(ry:bp y u)
(h:∀s',aL X pins σ (upd H a (.ins C dx (putF f y fs))) s'->Q () s'):wpAny ↑9 A (setAttr (.ref a) f u) Q E s:=by
 obtain ⟨mA,O,r,wi,_,ho⟩:=ql I.hok e
 have hz:(fs.map (·.1)).length<=sizeLine:=by rw [List.length_map,sizeLine_eq];omega
 rwa[Fy I.kIn O c.sa c.po n.taker c.hd wi hz λh' O' sb=>h _ ?_];have hd:∃o,h'.get? dx=some o:=let ⟨o,_,_,e',_⟩:=O'.ns;⟨o,e'⟩;rwa[I.write (x:=a) (e:=dx) (by rw [e];exact True.intro) (.inr ho) (λb q hb z=>(sb.2 b hb).trans z) hd ?_];rwa[⟨by rw [am O.ne];exact ho,?_,O.ne,O'.obj,_,O'.ns,λg=> ?_,λg hg=> ?_⟩]
 ·have:=pS f y fs;omega
 ·show jD ((putF f y fs).lookup g) (if g=f then some u else mA g);rw [pP];by_cases q:g=f
  ·rw [if_pos q,if_pos q];exact ry
  ·rw [if_neg q,if_neg q];exact r g
 ·by_cases q:g=f
  ·rw [q];exact (oK f y fs).1
  ·rwa[(oK f y fs).2 g (wi g λz=>hg ?_)];show (if g=f then some u else mA g)=none;rw [if_neg q];exact z
theorem aL.made (I:aL X pins σ H s):aL X pins σ (upd (upd H s.heap.objs.size (.own (s.heap.objs.size+1))) (s.heap.objs.size+1) (.ins C s.heap.objs.size []))
 {s with heap:=(s.heap.push W.emptyDict).push (W.instObj C s.heap.objs.size)}:=by
 have e1:(s.heap.push W.emptyDict).get? s.heap.objs.size=some W.emptyDict:=Heap.get?_push_size s.heap rfl
 have e2:((s.heap.push W.emptyDict).push (W.instObj C s.heap.objs.size)).get? (s.heap.objs.size+1)=some (W.instObj C s.heap.objs.size):=by
  have:=Heap.get?_push_size (s.heap.push W.emptyDict) (o:=W.instObj C s.heap.objs.size) rfl;rwa [Heap.size_push] at this
 have e3:(s.heap.push W.emptyDict).Ns s.heap.objs.size (λ_=>none):=⟨W.emptyDict,#[],_,e1,rfl,(λe he=>absurd he ↑27),λ_=>rfl⟩;have I1:=I.laid (a:=s.heap.objs.size) (o:= .own (s.heap.objs.size+1)) (h':=s.heap.push W.emptyDict) (t':=s.toks) (λb u q=>Heap.get?_push_of_some _ q) ↑15 ⟨_,e1⟩;rwa[I1.laid (a:=s.heap.objs.size+1) (o:= .ins C s.heap.objs.size []) (t':=s.toks) (λb u q=>Heap.get?_push_of_some _ q) (Nat.le_of_eq (Heap.size_push _ _)) ?_];have ne:s.heap.objs.size≠s.heap.objs.size+1:=Nat.ne_of_lt (Nat.lt_succ_self _);rwa[⟨by rw [am ne,aj],Nat.zero_le _,ne,e2,λ_=>none,(Heap.Ns1.of_empty e3).at λo q=>Heap.get?_push_of_some _ q,λ_=>True.intro,λy hy=>absurd rfl hy⟩]
theorem Aq {prog:Program}{w:World}{env:Env}{e:Expr}{f:Str}{pos:Pos}{s:Shared}{Q:Value->Shared->Prop}(hb:attributeBase e f env (eval e env)=eval e env)
(h:wpAny ↑38 A (eval e env) (λo s₁=>wpAny ↑38 A (getAttr o f true) Q E s₁) E s):wpAny ↑38 A (eval (.Attribute e f pos) env) Q E s:=
 Attribute_any_ h (by rw [arm_eval_Attribute,hb])
end
section
variable {X:Cx}{pins:List ↑20}{σ:St}{H:Hp}{s:Shared}{A:Around}{E:Value->Shared->Prop}{Q:Value->Shared->Prop}{c:Value}{b:Bool}
inductive jC (K:Fg)(H:Hp):V->Value->Prop where
 |non:jC K H .non (.type "NoneType")
 |bl (x:Bool):jC K H (.bl x) (.type "bool")
 |int (i:Int):jC K H (.int i) (.type "int")
 |str (x:Str):jC K H (.str x) (.type "str")
 |flt (x:UInt64):jC K H (.flt x) (.type "float")
 |lst {a:Addr} {xs:List V} (e:H a=some (.lst xs)):jC K H (.ref a) (.type "list")
 |frz {a:Addr} {o:Obj} {xs:List V} (e:H a=some (.frz o (.lst xs))):jC K H (.ref a) (.type "list")
 |tup {a:Addr} {xs:List V} (e:H a=some (.tup xs)):jC K H (.ref a) (.type "tuple")
 |dK {a:Addr} {kvs:List (cX×V)} (e:H a=some (.dK kvs)):jC K H (.ref a) (.type "dict")
 |dT {a:Addr} {kvs:List (List cX×V)} (e:H a=some (.dT kvs)):jC K H (.ref a) (.type "dict")
 |ins {a C dx:Addr} {fs:List (Str×V)} (e:H a=some (.ins C dx fs)) (cl:ua K C) (ha:W.findIn K (.ref C) "__class__"=some (some (.builtin "object.__class__")))
   (hn:W.specialIn K (.builtin "object.__class__") "__get__"=some (some (.builtin "getset_descriptor.__get__"))) (htk:W.takesIn K (.builtin "object.__class__")=some true)
   (hm:W.mroIn K C (.type "object")=some true):jC K H (.ref a) (.ref C)
theorem Br {x:V}{u t:Value}(I:aL X pins σ H s)(rx:bp x u)(ty:jC X.K H x t)(e:W.kitOne X.K t c=some b)(h:∀tk,Q (.bool b) {s with toks:=tk}):
 wpAny ↑9 A (call (.builtin "isinstance") [u,c]) Q E s:=by
 cases ty with
 |non=>cases (show u=Value.none from rx);exact W.kia_one W.kitx_none I.kIn True.intro e (λz=>nomatch z) h
 |bl y=>cases (show u=Value.bool y from rx);exact W.kia_one W.kitx_bool I.kIn True.intro e (λz=>nomatch z) h
 |int i=>obtain ⟨t,q⟩:=(show ∃t,u=Value.int i t from rx);cases q;exact W.kia_one W.kitx_int I.kIn True.intro e (λz=>nomatch z) h
 |str y=>obtain ⟨t,q⟩:=(show ∃t,u=Value.str y t from rx);cases q;exact W.kia_one W.kitx_str I.kIn True.intro e (λz=>nomatch z) h
 |flt y=>obtain ⟨t,q⟩:=(show ∃t,u=Value.float y t from rx);cases q;exact W.kia_one W.kitx_float I.kIn True.intro e (λz=>nomatch z) h
 | @lst a xs ea=>
   cases (show u=Value.ref a from rx);obtain ⟨_,_,n,_,h1⟩:=(show bS X.prog X.w H s.heap a (.lst xs) from I.hok a _ ea);exact W.kia_one W.kitx_list I.kIn ⟨_,h1,rfl⟩ e (λz=>nomatch z) h
 | @frz a ob xs ea=>
   cases (show u=Value.ref a from rx);obtain ⟨_,_,_,n,_,h1⟩:=(show bS X.prog X.w H s.heap a (.frz ob (.lst xs)) from I.hok a _ ea);exact W.kia_one W.kitx_list I.kIn ⟨_,h1,rfl⟩ e (λz=>nomatch z) h
 | @tup a xs ea=>
   cases (show u=Value.ref a from rx);obtain ⟨_,_,_,p⟩:=(show bS X.prog X.w H s.heap a (.tup xs) from I.hok a _ ea);obtain ⟨o,h1,h2,_⟩:=p;exact W.kia_one W.kitx_tuple I.kIn ⟨o,h1,h2⟩ e (λz=>nomatch z) h
 | @dK a kvs ea=>
   cases (show u=Value.ref a from rx);obtain ⟨_,_,vs,_,p⟩:=(show bS X.prog X.w H s.heap a (.dK kvs) from I.hok a _ ea);obtain ⟨o,es,ep,h1,h2,_⟩:=p;exact W.kia_one W.kitx_dict I.kIn ⟨o,h1,h2.1⟩ e (λz=>nomatch z) h
 | @dT a kvs ea=>
   cases (show u=Value.ref a from rx);obtain ⟨_,_,xs,_,o,es,ep,h1,h2,_⟩:=(show bS X.prog X.w H s.heap a (.dT kvs) from I.hok a _ ea);exact W.kia_one W.kitx_dict I.kIn ⟨o,h1,h2.1⟩ e (λz=>nomatch z) h
 | @ins a C dx fs ea cl ha hn htk hm=>
   cases (show u=Value.ref a from rx);obtain ⟨mA,O,_⟩:=ql I.hok ea;obtain ⟨od,J,_⟩:=O.look;exact W.kia_one (W.kitx_own (cl.get _) cl.hd ha hn htk hm) I.kIn J e (λz=>nomatch z) h
end
structure dH (k:Nat)(A:Around):Prop where
 hd:A.handled=none
 dp:A.depth+3*k+5<recursionLimit
 un:A.units+16*k+200<cLine
theorem dH.mono {j k:Nat}{A:Around}(r:dH k A)(h:j<=k):dH j A:=⟨r.hd,by have:=r.dp;omega,by have:=r.un;omega⟩
theorem dH.deeper {k:Nat}{A:Around}(r:dH (k+1) A)(env:Env):dH k (A.deeper env):=
 ⟨r.hd,by have:=r.dp;show A.depth+1+3*k+5<_;omega,by have:=r.un;show A.units+3+16*k+200<_;omega⟩
theorem zr {A:Around}{C:Addr}{us:List Value}{kw:List (Str×Value)}:(A.under (.builtin "type.__call__" ⟨.ref C::us,kw⟩)).depth=A.depth+1:=by
 first|rfl|simp [Around.under,Code.weight,Code.isCreation,Code.isGuard,Code.isCaller,Code.frames,Code.isFrame,guardIds]
theorem zq {A:Around}{C:Addr}{us:List Value}{kw:List (Str×Value)}:(A.under (.builtin "type.__call__" ⟨.ref C::us,kw⟩)).units=A.units+1:=by
 first|rfl|simp [Around.under,Code.cUnits,Code.frames,Code.isFrame]
theorem dH.make {k:Nat}{A:Around}(r:dH (k+1) A)(C:Addr)(us:List Value)(kw:List (Str×Value)):dH k (A.under (.builtin "type.__call__" ⟨.ref C::us,kw⟩)):=
 ⟨r.hd,by have:=r.dp;rw [zr];omega,by have:=r.un;rw [zq];omega⟩
theorem dH.depth {k:Nat}{A:Around}(r:dH k A):A.depth<recursionLimit:=by have:=r.dp;omega
theorem dH.units {k:Nat}{A:Around}(r:dH k A):A.units+64<cLine:=by have:=r.un;omega
def N0:TA:=λ_ H Q=>Q [] H
def Hl (ta:TE)(tr:TA):TA:=λσ H Q=>ta σ H λx H1=>tr σ H1 λxs H2=>Q (x::xs) H2
section
variable {X:Cx}{e:Expr}{es:List Expr}{te:TE}{t:TA}{pos:Pos}
theorem ae:PA X [] N0:=λ_ _ _ _ H Q I h=>Calls.spliced_nil ⟨[],H,I,.nil,h⟩
theorem FW (ha:PE X e te)(hr:PA X es t)(hs:starEach (e::es) X.env=(false,eval e X.env)::starEach es X.env:=by rfl):PA X (e::es) (Hl te t):=by
 intro pos pins s σ H Q I h;rw [hs];show wpAny _ _ (spliced ((false,eval e X.env)::backTo pos (starEach es X.env))) _ _ s;rwa[Calls.spliced_cons (b4 (ha pins s σ H _ I h) λu s1 ⟨x,H1,I1,r1,q1⟩=> ?_)];exact b4 (hr pos pins s1 σ H1 _ I1 q1) λus s2 ⟨xs,H2,I2,r2,q2⟩=>⟨x::xs,H2,I2,.cons r1 r2,q2⟩
def NW (t:TA):TE:=λσ H Q=>t σ H λxs H1=>xs.length<=sizeLine/\∀p,H1 p=none->Q (.ref p) (upd H1 p (.tup xs))
def N1 (t:TA):TE:=λσ H Q=>t σ H λxs H1=>xs.length<=sizeLine/\∀p,H1 p=none->Q (.ref p) (upd H1 p (.lst xs))
theorem Je {x1}(h:PA X es t):PE X (.Tuple es x1 pos) (NW t):=by
 intro pins s σ H Q I hq;rwa[wpAny_Tuple_spliced (b4 (h pos pins s σ H _ I hq) λus s1 ⟨xs,H1,I1,r,z,q⟩=>⟨by rw [<-r.length];exact z,?_⟩)];have hf:H1 s1.heap.objs.size=none:=I1.hok.fresh ↑15;rwa[⟨.ref s1.heap.objs.size,upd H1 s1.heap.objs.size (.tup xs),I1.laid (t':=s1.toks) (λb u e=>Heap.get?_push_of_some _ e) ↑15 ?_,rfl,q _ hf⟩];exact ⟨z,us,r,⟨_,Heap.get?_push_size _ rfl,rfl,_,rfl⟩⟩
theorem Jf (h:PA X es t):PE X (.List es pos) (N1 t):=by
 intro pins s σ H Q I hq;rwa[wpAny_List_spliced (b4 (h pos pins s σ H _ I hq) λus s1 ⟨xs,H1,I1,r,z,q⟩=>⟨by rw [<-r.length];exact z,?_⟩)];have hf:H1 s1.heap.objs.size=none:=I1.hok.fresh ↑15;rwa[⟨.ref s1.heap.objs.size,upd H1 s1.heap.objs.size (.lst xs),I1.laid (t':=s1.toks) (λb u e=>Heap.get?_push_of_some _ e) ↑15 ?_,rfl,q _ hf⟩];exact ⟨z,us,0,r,Heap.get?_push_size _ rfl⟩
end
abbrev Sp:=List V->Hp->VK->XK->Prop
abbrev qw:=List Env->Hp->Shared->XK->Value->Shared->Prop
structure wM (P:Program)(w:World)(K:Fg)(mg:Str->Option Value)(base:Heap)(A:Around)(outer:List Env)(s:Shared)(H:Hp):Prop where
 frames:A.frames=some outer
 mod:Mod K mg base
 bs:∀b o,base.get? b=some o->s.heap.get? b=some o/\H b=none
 bsz:base.objs.size<=s.heap.objs.size
 funs:s.heap.FunFrames base outer
 frf:∀b∈wP outer,H b=none
 hok:io P w H s.heap
 bare:AllBare s.gens
def CE (outer:List Env)(P:Program)(w:World)(H:Hp)(s:Shared)(Q:VK)(u:Value)(s':Shared):Prop:=
 ∃v H',s'.os=s.os/\AllBare s'.gens/\Un (wP outer) [] H H' s.heap s'.heap/\io P w H' s'.heap/\bp v u/\Q v H'
def CR (CX:qw)(outer:List Env)(P:Program)(w:World)(H:Hp)(s:Shared)(Q:VK)(E:XK)(r:Result)(s':Shared):Prop:=
 match r with
 | .ok (.ret u)=>CE outer P w H s Q u s'
 | .ok _=>False
 | .error e=>CX outer H s E e s'
structure aQ (P:Program)(w:World)(K:Fg)(mg:Str->Option Value)(base:Heap)(CX:qw)(k:Nat)(f:Addr)(fd:FuncData)(ps:List Str)(sp:Sp):Prop where
 len:∀vs H Q E,sp vs H Q E->vs.length=ps.length
 run:∀(A:Around) (outer:List Env) (s:Shared) (H:Hp) (args:Args) (us:List Value) (vs:List V) (Q:VK) (E:XK),dH k A->wM P w K mg base A outer s H->BindsTo s fd args (ps.zip us)->bo vs us->sp vs H Q E->
  codeAny (model P w) A (.call (.ref f) args) (CR CX outer P w H s Q E) s
theorem aQ.mono {P:Program}{w:World}{K:Fg}{mg:Str->Option Value}{base:Heap}{CX:qw}{j k:Nat}{f:Addr}{fd:FuncData}{ps:List Str}{sp:Sp}(F:aQ P w K mg base CX j f fd ps sp)(h:j<=k):
 aQ P w K mg base CX k f fd ps sp:=⟨F.len,λA outer s H args us vs Q E hr=>F.run A outer s H args us vs Q E (hr.mono h)⟩
theorem wM.make {P:Program}{w:World}{K:Fg}{mg:Str->Option Value}{base:Heap}{A:Around}{outer:List Env}{s:Shared}{H:Hp}(e:wM P w K mg base A outer s H)(C:Addr)(us:List Value)(kw:List (Str×Value)):
 wM P w K mg base (A.under (.builtin "type.__call__" ⟨.ref C::us,kw⟩)) outer s H:=⟨by first|exact e.frames|(simpa [Around.under,Code.envs,Code.isFrame,pushEnvs] using e.frames),e.mod,e.bs,e.bsz,e.funs,e.frf,e.hok,e.bare⟩
section
variable {X:Cx}{pins:List ↑20}{σ:St}{H:Hp}{s s':Shared}
theorem aL.env0 (I:aL X pins σ H s):wM X.prog X.w X.K X.mg X.base X.A X.stack s H:=
 ⟨I.ok.frames,I.ok.mod,I.bs,Nat.le_trans I.ok.bsz I.sz,I.stack,I.stkFree,I.hok,I.bare⟩
theorem aL.after {Q:VK}{u:Value}(I:aL X pins σ H s)(h:CE X.stack X.prog X.w H s Q u s'):EP X pins σ Q u s':=by
 obtain ⟨v,H',os,bare,un,hok,r,q⟩:=h;obtain ⟨hh,g,d,t,os'⟩:=s';obtain rfl:os'=s.os:=os;exact ⟨v,H',I.call (h':=hh) (g':=g) (d':=d) (t':=t) (ch:=[]) un hok bare (λb z=>absurd z ↑27),r,q⟩
end
def zV (sp:Sp)(dvs:List V)(E:XK)(t:TA):TE:=λσ H Q=>t σ H λvs H1=>sp (vs++dvs) H1 Q E
def Lq (C:Addr)(sp:Sp)(dvs:List V)(E:XK)(t:TA):TE:=λσ H Q=>t σ H λvs H1=>∀x dx,H1 x=none->H1 dx=none->dx≠x->
 sp (.ref x::(vs++dvs)) (upd (upd H1 dx (.own x)) x (.ins C dx [])) (λv H2=>v= .non/\Q (.ref x) H2) E
def gd (K:Fg)(fd:FuncData)(ps:List Str)(ds:List Value):Prop:=
 ∀(s:Shared) (us:List Value),K.In s.heap->(us++ds).length=ps.length->BindsTo s fd ⟨us,[]⟩ (ps.zip (us++ds))
theorem gd.all {K:Fg}{fd:FuncData}{ps:List Str}(h:∀us:List Value,us.length=ps.length->bindArgs fd ⟨us,[]⟩=pure (ps.zip us)):gd K fd ps []:=λs us _ hl=>by
 rw [List.append_nil] at hl ⊢;exact .of_eq (h us hl)
def ju (CX:qw)(X:Cx)(E:XK):Prop:=∀(pins:List ↑20) (σ:St) (H:Hp) (s:Shared) (e:Value) (s':Shared),aL X pins σ H s->CX X.stack H s E e s'->X.xe e s'
section
variable {X:Cx}{CX:qw}{k:Nat}{f C:Addr}{fd:FuncData}{ps:List Str}{sp:Sp}{dvs:List V}{ds:List Value}{E:XK}{x m:Str}{p pos apos:Pos}{e o:Expr}{es:List Expr}{ta:TE}{t:TA}
theorem C6 {pins:List ↑20}{σ:St}{H:Hp}{s:Shared}{Q:VK}{us:List Value}{vs:List V}(F:aQ X.prog X.w X.K X.mg X.base CX k f fd ps sp)(hr:dH k X.A)(hb:gd X.K fd ps ds)(hd:bo dvs ds)(hx:ju CX X E)
(I:aL X pins σ H s)(r:bo vs us)(h:sp (vs++dvs) H Q E):wpAny ↑9 X.A (call (.ref f) us) (EP X pins σ Q) X.xe s:=by
 have r2:bo (vs++dvs) (us++ds):=r.append hd
 have hl:(us++ds).length=ps.length:=by rw [<-r2.length];exact F.len _ _ _ _ h
 rwa[wpAny_call (codeAny_mono (F.run X.A X.stack s H ⟨us,[]⟩ (us++ds) (vs++dvs) Q E hr I.env0 (hb s us I.kIn hl) r2 h) λr s' hq=> ?_)]
 cases r with
 |error e=>exact hx pins σ H s e s' I hq
 |ok fl=>
  cases fl with
  |ret u=>exact I.after hq
  |next=>exact False.elim hq
  |brk=>exact False.elim hq
  |cont=>exact False.elim hq
theorem zZ (F:aQ X.prog X.w X.K X.mg X.base CX k f fd ps sp)(hr:dH k X.A)(hg:Gl X x)(hm:X.mg x=some (.ref f))(hk:W.keepIn X.K (.ref f)=true)(hb:gd X.K fd ps ds)(hd:bo dvs ds)(hx:ju CX X E)
(ha:PA X (e::es) t)(hdb:↑36=false:=by decide)(he:starEach (e::es) X.env=(false,eval e X.env)::starEach es X.env:=by rfl)(hpl:(backTo pos (starEach es X.env)).any (·.1)=false:=by rfl):
 PE X (.Call (.Name x p) (e::es) [] pos) (zV sp dvs E t):=by
 intro pins s σ H Q I h;rwa[wpAny_Call_Name_kw (jg I hg hm ?_ hdb)];rwa[W.callWith_K (h₀:=X.base) I.ok.mod.kin hk (b4 (ha pos pins s σ H _ I h) λus s1 ⟨vs,H1,I1,r,q⟩=>⟨I1.kIn,?_⟩) he hpl];exact C6 F hr hb hd hx I1 r q
structure Mk (K:Fg)(C f:Addr):Prop where
 makes:W.makesIn K C=true
 init:W.findIn K (.ref C) "__init__"=some (some (.ref f))
 fn:W.isFn K (.ref f)=true
 kp:W.keepIn K (.ref C)=true
theorem C5 {pins:List ↑20}{σ:St}{H:Hp}{s:Shared}{Q:VK}{us:List Value}{vs:List V}(M:Mk X.K C f)(F:aQ X.prog X.w X.K X.mg X.base CX k f fd ps sp)(hr:dH (k+1) X.A)(hb:gd X.K fd ps ds)(hd:bo dvs ds)
(hx:ju CX X E)(I:aL X pins σ H s)(r:bo vs us)
(h:∀x dx,H x=none->H dx=none->dx≠x->sp (.ref x::(vs++dvs)) (upd (upd H dx (.own x)) x (.ins C dx [])) (λv H2=>v= .non/\Q (.ref x) H2) E):
 wpAny ↑9 X.A (call (.ref C) us) (EP X pins σ Q) X.xe s:=by
 have hq:=h (s.heap.objs.size+1) s.heap.objs.size (I.hok.fresh (Nat.le_succ _)) (I.hok.fresh ↑15) (Nat.ne_of_lt (Nat.lt_succ_self _));have I2:=aL.made (C:=C) I;have r2:bo (V.ref (s.heap.objs.size+1)::(vs++dvs)) (Value.ref (s.heap.objs.size+1)::(us++ds)):= .cons rfl (r.append hd)
 have hl:(Value.ref (s.heap.objs.size+1)::us++ds).length=ps.length:=by
  have e:=r2.length;rw [F.len _ _ _ _ hq] at e;exact e.symm
 refine wpAny_call (D2 (f:=f) I.kIn M.makes M.init (beq_iff_eq.mp M.fn) (codeAny_mono (F.run _ X.stack _ _ ⟨Value.ref (s.heap.objs.size+1)::us,[]⟩ (Value.ref (s.heap.objs.size+1)::(us++ds)) _ _ E (hr.make C us [])
  (I2.env0.make C us []) (hb _ (Value.ref (s.heap.objs.size+1)::us) I2.kIn hl) r2 hq) λr s' hq'=> ?_))
 cases r with
 |error e=>exact hx pins σ _ _ e s' I2 hq'
 |ok fl=>
  cases fl with
  |ret u=>
   obtain ⟨v,H',I3,rv,ev,q3⟩:=I2.after hq';subst ev;exact ⟨rv,⟨V.ref (s.heap.objs.size+1),H',I3,rfl,q3⟩⟩
  |next=>exact False.elim hq'
  |brk=>exact False.elim hq'
  |cont=>exact False.elim hq'
theorem FU (M:Mk X.K C f)(F:aQ X.prog X.w X.K X.mg X.base CX k f fd ps sp)(hr:dH (k+1) X.A)(hg:Gl X x)(hm:X.mg x=some (.ref C))(hb:gd X.K fd ps ds)(hd:bo dvs ds)(hx:ju CX X E)
(ha:PA X (e::es) t)(hdb:↑36=false:=by decide)(he:starEach (e::es) X.env=(false,eval e X.env)::starEach es X.env:=by rfl)(hpl:(backTo pos (starEach es X.env)).any (·.1)=false:=by rfl):
 PE X (.Call (.Name x p) (e::es) [] pos) (Lq C sp dvs E t):=by
 intro pins s σ H Q I h;rwa[wpAny_Call_Name_kw (jg I hg hm ?_ hdb)];rwa[W.callWith_K (h₀:=X.base) I.ok.mod.kin M.kp (b4 (ha pos pins s σ H _ I h) λus s1 ⟨vs,H1,I1,r,q⟩=>⟨I1.kIn,?_⟩) he hpl];exact C5 M F hr hb hd hx I1 r q
end
section
variable {X:Cx}{CX:qw}{k:Nat}{f C:Addr}{fd:FuncData}{ps ks:List Str}{sp:Sp}{E:XK}{x m:Str}{p pos apos kpos:Pos}{e o:Expr}{es:List Expr}{kws:List Keyword}{te ta:TE}{t tk:TA}{nm:Option Str}
structure KBinds (K:Fg)(fd:FuncData)(ps ks:List Str)(g:List Value->List Value->List Value)(gV:List V->List V->List V):Prop where
 to:∀(s:Shared) (us ws:List Value),K.In s.heap->(g us ws).length=ps.length->BindsTo s fd ⟨us,ks.zip ws⟩ (ps.zip (g us ws))
 rel:∀ {vs:List V} {us:List Value} {zs:List V} {ws:List Value},bo vs us->bo zs ws->bo (gV vs zs) (g us ws)
variable {g:List Value->List Value->List Value}{gV:List V->List V->List V}
end
structure ay (N P:List Str)(sc:Scope):Prop where
 kind:sc.kind= .function
 co:sc.isCoroutine=false
 gen:sc.isGenerator=false
 nd:N.Nodup
 pre:N.take P.length=P
 par:∀x∈P,sc.names.lookup x=some .local\/sc.names.lookup x=some .cell
 nofree:∀y∈sc.names,y.2≠ .free
theorem uN {kindOf:Str->Option NameKind}{x:Str}:∀ {binds:List (Str×Value)} {m:Str->Option Value},(∀v,(x,v)∉binds)->bindL kindOf binds m x=m x
 |[],_,_=>rfl
 |(n,v)::r,m,h=>by
  unfold bindL;rw [uN λw hw=>h w (List.mem_cons_of_mem _ hw)];split
  ·have:x≠n:=by rintro rfl;exact h v List.mem_cons_self
   simp [this]
  ·rfl
theorem uP {kindOf:Str->Option NameKind}{x:Str}:∀ {binds:List (Str×Value)} {m:Str->Option Value},(∀v,(x,v)∉binds)->bindC kindOf binds m x=m x
 |[],_,_=>rfl
 |(n,v)::r,m,h=>by
  unfold bindC;rw [uP λw hw=>h w (List.mem_cons_of_mem _ hw)];split
  ·rfl
  ·have:x≠n:=by rintro rfl;exact h v List.mem_cons_self
   simp [this]
theorem uO {kindOf:Str->Option NameKind}{x:Str}{v:Value}:∀ {P:List Str} {vs:List Value} {i:Nat} {m:Str->Option Value},P.Nodup->P[i]? =some x->vs[i]? =some v->kindOf x=some .local->
 bindL kindOf (P.zip vs) m x=some v
 |[],_,_,_,_,h,_,_=>by simp at h
 |_::_,[],_,_,_,_,h,_=>by simp at h
 |p::P,w::vs,0,m,nd,h1,h2,hk=>by
  simp at h1 h2;subst h1;subst h2;show bindL kindOf ((p,w)::P.zip vs) m p=_;unfold bindL;rw [uN λv hv=>(List.nodup_cons.mp nd).1 (List.of_mem_zip hv).1,if_pos hk];simp
 |p::P,w::vs,i+1,m,nd,h1,h2,hk=>by
  show bindL kindOf ((p,w)::P.zip vs) m x=_;unfold bindL;exact uO (i:=i) (List.nodup_cons.mp nd).2 (by simpa using h1) (by simpa using h2) hk
theorem uQ {kindOf:Str->Option NameKind}{x:Str}{v:Value}:∀ {P:List Str} {vs:List Value} {i:Nat} {m:Str->Option Value},P.Nodup->P[i]? =some x->vs[i]? =some v->kindOf x≠some .local->
 bindC kindOf (P.zip vs) m x=some v
 |[],_,_,_,_,h,_,_=>by simp at h
 |_::_,[],_,_,_,_,h,_=>by simp at h
 |p::P,w::vs,0,m,nd,h1,h2,hk=>by
  simp at h1 h2;subst h1;subst h2;show bindC kindOf ((p,w)::P.zip vs) m p=_;unfold bindC;rw [uP λv hv=>(List.nodup_cons.mp nd).1 (List.of_mem_zip hv).1,if_neg hk];simp
 |p::P,w::vs,i+1,m,nd,h1,h2,hk=>by
  show bindC kindOf ((p,w)::P.zip vs) m x=_;unfold bindC;exact uQ (i:=i) (List.nodup_cons.mp nd).2 (by simpa using h1) (by simpa using h2) hk
def start (N:List Str)(vs:List V):St:=vs.map some++List.replicate (N.length - vs.length) none
def sr (CX:qw)(P:Program)(w:World)(K:Fg)(mg:Str->Option Value)(base:Heap)(N:List Str)(qual:Str)(scope:Scope)(f:Addr)(cd:Value)(A:Around)(outer:List Env)(s:Shared)(H:Hp)(E:XK):Cx where
 prog:=P
 w:=w
 K:=K
 mg:=mg
 base:=base
 A:=A.deeper (envOfC qual scope s.heap.objs.size f cd)
 N:=N
 s₀:=s
 H₀:=H
 env:=envOfC qual scope s.heap.objs.size f cd
 outer:=outer
 stack:=envOfC qual scope s.heap.objs.size f cd::outer
 ex:=[]
 calm:=true
 fn:=λ_=>true
 pn:=[]
 xe:=λe s'=>wpAny (model P w) (A.deeper (envOfC qual scope s.heap.objs.size f cd)) (leaving (envOfC qual scope s.heap.objs.size f cd) e) (λ_ s''=>CX outer H s E e s'') (λe' s''=>CX outer H s E e' s'') s'
theorem xV {sc:Scope}{n:Nat}{x:Str}(h:sc.names.lookup x=some .cell):∃c,(cellsFrom n sc.names []).lookup x=some c:=by
 have q:=W.cellsFrom_some sc.names n [] (.inl h);exact Option.isSome_iff_exists.mp q
theorem Bs {CX:qw}{P:Program}{w:World}{K:Fg}{mg:Str->Option Value}{base:Heap}{N ps:List Str}{qual:Str}{scope:Scope}{f:Addr}{cd:Value}{A:Around}{outer:List Env}{s s1:Shared}{H:Hp}{E:XK}{us:List Value}{vs:List V}
(S:ay N ps scope)(hd:A.handled=none)(e0:wM P w K mg base A outer s H)(hl:vs.length=ps.length)(r:bo vs us)
(x:InCallC s s.heap.objs.size (bindL (envOfC qual scope s.heap.objs.size f cd).kindOf (ps.zip us) λ_=>none) (cellsFrom (s.heap.objs.size+1) scope.names []) (bindC (envOfC qual scope s.heap.objs.size f cd).kindOf (ps.zip us) λ_=>none) s1):
 aL (sr CX P w K mg base N qual scope f cd A outer s H E) [] (start N vs) H s1:=by
 have hpl:ps.length<=N.length:=by have:=congrArg List.length S.pre;rw [List.length_take] at this;omega
 obtain ⟨h1,tk,rfl,hk⟩:=x.done;have noA:∀b:Addr,b∉(sr CX P w K mg base N qual scope f cd A outer s H E).ex:=λb z=>absurd (show b∈([]:List Addr) from z) ↑27
 refine ⟨⟨e0.mod,S.kind,rfl,rfl,Nat.le_refl _,λy z c h1 h2=> ?_,λy hy=> ?_,λy c _ h=> ?_,λ_=>hd,Around.frames_deeper e0.frames,.inr ⟨rfl,rfl⟩,λb z=>absurd z (noA b),e0.bs,e0.bsz,λb _ _=>noA b,λb z=>absurd z (noA b),e0.funs,e0.frf⟩,
  rfl,e0.bare,Un.kept hk,⟨_,x.toInCall.ns,λi y v h1 h2 h3=> ?_⟩,λy c h=>⟨_,x.cell y c h⟩,e0.hok.fresh ↑15,λy c h=> ?_,λp hp=>absurd (show p∈([]:List ↑20) from hp) ↑27,e0.hok.kept hk,?_⟩
 ·exact name_of_addr x.apart (PySem.mem_of_lookup h1) (PySem.mem_of_lookup h2)
 ·have hy:scope.names.lookup y=some .cell\/scope.names.lookup y=some .free:=hy
  rcases hy with hy|hy
  ·exact xV hy
  ·exact absurd rfl (S.nofree _ (PySem.mem_of_lookup hy))
 ·exact Nat.le_of_lt (x.above y c (PySem.mem_of_lookup h))
 ·have hi:i<vs.length:=by
   unfold start at h2;by_cases hi:i<vs.length
   ·exact hi
   ·rw [List.getElem?_append_right (by simpa using hi)] at h2;rw [List.getElem?_replicate] at h2;split at h2<;>cases h2
  have ha:vs[i]? =some v:=by
   unfold start at h2;rw [List.getElem?_append_left (by simpa using hi),List.getElem?_map] at h2
   cases e:vs[i]? with
   |none=>rw [e] at h2;cases h2
   |some a=>rw [e] at h2;cases h2;rfl
  obtain ⟨u,hu,rv⟩:=r.get ha
  have hp:ps[i]? =some y:=by
   rw [<-S.pre,List.getElem?_take_of_lt ↑5];exact h1
  have ndP:ps.Nodup:=by rw [<-S.pre];exact S.nd.sublist (List.take_sublist _ _)
  rwa[⟨u,rv,?_⟩]
  rcases S.par y (List.mem_of_getElem? hp) with k|k
  ·exact .inl ⟨k,uO ndP hp hu k⟩
  ·obtain ⟨c,e⟩:=xV (n:=s.heap.objs.size+1) k;rwa[.inr ⟨.inl k,c,e,?_⟩];have q:=x.cell y c e;rw [uQ ndP hp hu (by show scope.names.lookup y≠_;rw [k];decide)] at q;exact q
 ·exact e0.hok.fresh (Nat.le_of_lt (x.above y c (PySem.mem_of_lookup h)))
 ·unfold start;show _=N.length;rw [List.length_append,List.length_map,List.length_replicate];omega
theorem Hw {CX:qw}{P:Program}{w:World}{K:Fg}{mg:Str->Option Value}{base:Heap}{k:Nat}{f:Addr}{name qual:Str}{params:Arguments}{body:List Stmt}{scope:Scope}{dV kV doc pm cdv ct oc:Value}{an od:Option Addr}
{osl:Array (Option Value)}{N ps:List Str}{sp:Sp}(lk:K.lookup f=some ⟨oc,od,.func (W.fnOf name qual params body scope dV kV doc pm an cdv ct),osl⟩)(hcd:W.codeIn K cdv qual=true)(S:ay N ps scope)
(len:∀vs H Q E,sp vs H Q E->vs.length=ps.length)
(hbody:∀(A:Around) (outer:List Env) (s:Shared) (H:Hp) (vs:List V) (Q:VK) (E:XK),dH k (A.deeper (envOfC qual scope s.heap.objs.size f cdv))->sp vs H Q E->
   ∃t,tK (sr CX P w K mg base N qual scope f cdv A outer s H E) body t/\t {nx:=λ_ H'=>Q .non H',rt:=Q} (start N vs) H):
 aQ P w K mg base CX (k+1) f (W.fnOf name qual params body scope dV kV doc pm an cdv ct) ps sp:=by
 rwa[⟨len,λA outer s H args us vs Q E hr e0 hb r hsp=> ?_⟩];have hl:=len _ _ _ _ hsp;have KX:K.In s.heap:=e0.mod.kin.keeps λb o e=>(e0.bs b o e).1;have lim:s.heap.NoLimit:=e0.mod.nolimit.keeps λb o e=>(e0.bs b o e).1
 have hkind:∀y∈ps.zip us,scope.names.lookup y.1=some .local\/(scope.names.lookup y.1=some .cell/\((cellsFrom (s.heap.objs.size+1) scope.names []).lookup y.1).isSome=true):=λ⟨n,v⟩ hy=>by
  rcases S.par n (List.of_mem_zip hy).1 with q|q
  ·exact .inl q
  ·exact .inr ⟨q,W.cellsFrom_some _ _ _ (.inl q)⟩
 rwa[codeAny_call_function hr.depth (KX _ _ lk) rfl S.co S.gen rfl (W.codeRec_of KX hcd) (hb _ _ _ _ ?_)];rwa[wpAny_newFunctionEnv_cells S.kind hkind λenv he s1 x=> ?_];subst he;rwa[⟨lim.keeps x.toInCall.keep,codeAny_func ?_⟩];obtain ⟨t,ht,hq⟩:=hbody A outer s H vs Q E (hr.deeper _) hsp;have I:aL (sr CX P w K mg base N qual scope f cdv A outer s H E) [] (start N vs) H s1:=Bs S hr.hd e0 hl r x;rwa[wpAny_mono (ht [] s1 (start N vs) H _ I hq) (λfl s' hs=> ?_) λe s' hs=>hs]
 have fin:∀ {σ':St} {H':Hp} {v:V} {u:Value},aL (sr CX P w K mg base N qual scope f cdv A outer s H E) [] σ' H' s'->bp v u->Q v H'->CE outer P w H s Q u s':=
  λ{σ' H' v u} J rv q=>⟨v,H',J.os,J.bare,J.base,J.hok,rv,q⟩
 cases fl with
 |ret u=>
  obtain ⟨v,σ',H',J,rv,q⟩:=hs;exact fin J rv q
 |next=>
  obtain ⟨σ',H',J,q⟩:=hs;exact fin (v:=V.non) (u:=Value.none) J rfl q
 |brk=>
  obtain ⟨_,_,_,q⟩:=hs;exact False.elim q
 |cont=>
  obtain ⟨_,_,_,q⟩:=hs;exact False.elim q
section
variable {X:Cx}{x:Str}{p pos:Pos}{e:Expr}{es:List Expr}{t:TA}{id T:String}{r:List V->Hp->VK->Prop}
def M8 (r:List V->Hp->VK->Prop)(t:TA):TE:=λσ H Q=>t σ H λvs H1=>r vs H1 Q
theorem Dq (hc:b3 X (.builtin id) r)(hg:Gl X x)(hm:X.mg x=none)(hv:bootBuiltins x=some (.builtin id))(ha:PA X (e::es) t)(hn:x≠"__name__":=by decide)(hdb:↑36=false:=by decide)
(he:starEach (e::es) X.env=(false,eval e X.env)::starEach es X.env:=by rfl)(hpl:(backTo pos (starEach es X.env)).any (·.1)=false:=by rfl):PE X (.Call (.Name x p) (e::es) [] pos) (M8 r t):=by
 intro pins s σ H Q I h;rwa[wpAny_Call_Name_kw (mh I hg hm hv ?_ hn hdb)];exact PyProof.Rows.callWith_builtin1 (b4 (ha pos pins s σ H _ I h) λus s1 ⟨vs,H1,I1,r1,q1⟩=>hc pins s1 σ H1 vs us Q I1 r1 q1) he hpl
theorem AO (hc:b3 X (.type T) r)(hg:Gl X x)(hm:X.mg x=none)(hv:bootBuiltins x=some (.type T))(ha:PA X (e::es) t)(hn:x≠"__name__":=by decide)(hdb:↑36=false:=by decide)
(he:starEach (e::es) X.env=(false,eval e X.env)::starEach es X.env:=by rfl)(hpl:(backTo pos (starEach es X.env)).any (·.1)=false:=by rfl):PE X (.Call (.Name x p) (e::es) [] pos) (M8 r t):=by
 intro pins s σ H Q I h;rwa[wpAny_Call_Name_kw (mh I hg hm hv ?_ hn hdb)];exact PyProof.Rows.callWith_type1 (b4 (ha pos pins s σ H _ I h) λus s1 ⟨vs,H1,I1,r1,q1⟩=>hc pins s1 σ H1 vs us Q I1 r1 q1) he hpl
end
end L2
namespace HT
open PySem PyProof.Rows
section
variable {prog:Program}{w:World}{A:Around}{E:Value->Shared->Prop}{s:Shared}
theorem cat_tup {t b:Addr}{vs ws:List Value}{Q:Value->Shared->Prop}(ht:IsTup s.heap t vs.toArray)(hb:IsTup s.heap b ws.toArray)(hv:vs≠[])
(h1:ws=[]->Q (.ref t) s)(h2:ws≠[]->Q (.ref s.heap.objs.size) {s with heap:=s.heap.push {cls:= .type "tuple",data:= .seq (vs++ws).toArray}})
(hsz:vs.length+ws.length<=sizeLine):wpAny ↑38 A (binaryOp .Add (.ref t) (.ref b)) Q E s:=by
 obtain ⟨⟨cls,dd,data,sl⟩,ho,hc,n,hd⟩:=id ht;obtain ⟨⟨cls2,dd2,data2,sl2⟩,ho2,hc2,n2,hd2⟩:=id hb;simp only at hc hd hc2 hd2;subst hc hd hc2 hd2
 have e:vs.toArray++ws.toArray=(vs++ws).toArray:=by simp
 by_cases hw:ws=[]
 ·exact concat_meets ⟨_,ho,rfl⟩ ⟨_,ho2,rfl⟩ noFill_tuple_add seq_tuple_add PySem.F.slot_tuple_add PySem.F.entry_tuple_add (PySem.F.args_tuple_add_2 _ _)
   (tuple_addW1 t b vs.toArray ws.toArray n n2 dd dd2 sl sl2 (by simpa using hv) (by simp [hw])) ⟨ho,ho2,h1 hw⟩
 ·refine concat_meets ⟨_,ho,rfl⟩ ⟨_,ho2,rfl⟩ noFill_tuple_add seq_tuple_add PySem.F.slot_tuple_add PySem.F.entry_tuple_add (PySem.F.args_tuple_add_2 _ _)
   (tuple_addW2 t b vs.toArray ws.toArray n n2 dd dd2 sl sl2 (by simpa using hv) (by simpa using hw) (by rw [List.size_toArray,List.size_toArray];exact hsz)) ⟨ho,ho2,?_⟩
  rw [e];exact h2 hw
def sIx (n d:Nat):Option Int->Nat
 |none=>d
 |some v=>if v<0 then (v+(n:Int)).toNat else min v.toNat n
theorem sIx_none (n d:Nat):sIx n d none=d:=rfl
theorem sIx_nat (n d k:Nat):sIx n d (some (k:Int))=min k n:=by
 show (if (k:Int)<0 then ((k:Int)+(n:Int)).toNat else min (k:Int).toNat n)=min k n;rw [if_neg ↑5,Int.toNat_natCast]
theorem IR (n d:Nat)(hd:d<=n)(o:Option Int):sIx n d o<=n:=by
 cases o with
 |none=>exact hd
 |some v=>
  show (if v<0 then (v+(n:Int)).toNat else min v.toNat n)<=n;by_cases hv:v<0
  ·rw [if_pos hv];omega
  ·rw [if_neg hv];exact Nat.min_le_right _ _
theorem Am (v:Int)(n d:Nat):(if v<0 then max (v+(n:Int)) 0 else min v (n:Int))=((sIx n d (some v):Nat):Int):=by
 show (if v<0 then max (v+(n:Int)) 0 else min v (n:Int))=(((if v<0 then (v+(n:Int)).toNat else min v.toNat n):Nat):Int);by_cases hv:v<0
 ·simp only [if_pos hv];omega
 ·simp only [if_neg hv];omega
theorem zK (lo hi:Option Int)(n:Nat):Builtin.Slice.sliceAdjust lo hi 1 (n:Int)=(((sIx n 0 lo:Nat):Int),((sIx n n hi:Nat):Int)):=by
 have h1: ¬((1:Int)<0):=by omega
 unfold Builtin.Slice.sliceAdjust;simp only [h1,if_false];rwa[Prod.ext ?_ ?_]
 ·cases lo with
  |none=>rfl
  |some v=>exact Am v n 0
 ·cases hi with
  |none=>rfl
  |some v=>exact Am v n n
theorem y9 (i j:Nat):Builtin.Slice.slicePlaces (i:Int) (j:Int) 1=j - i:=by
 unfold Builtin.Slice.slicePlaces
 have h1:(1:Int)>0:=by omega
 simp only [h1,if_true,Int.ediv_one];split<;>omega
theorem qP {v:Value}{o:Option Int}{Q:Option Int->Shared->Prop}(p:IsPart v o)(h:Q o s):wpAny ↑38 A (Builtin.Slice.slicePartIndex v) Q E s:=by
 cases p with
 |none=>exact slicePart_none h
 |int i t=>exact slicePart_int h
theorem iz {sl:Addr}{vl vu:Value}{lo hi:Option Int}{n:Nat}{Q:Int×Int×Nat->Shared->Prop}(hs:s.heap.IsSliceOf sl vl vu .none)(pl:IsPart vl lo)(pu:IsPart vu hi)
(h:Q (((sIx n 0 lo:Nat):Int),1,sIx n n hi - sIx n 0 lo) s):wpAny ↑38 A (Builtin.Slice.sliceApplied (.ref sl) (pure (n:Int))) Q E s:=by
 obtain ⟨os,hos,hcs,hds⟩:=id hs;unfold Builtin.Slice.sliceApplied Builtin.Slice.sliceFields;rwa[wpAny_bind (wpAny_bind (wpAny_field hos hds (x:=vl) rfl (wpAny_bind (wpAny_field hos hds (x:=vu) rfl (wpAny_bind (wpAny_field hos hds (x:= .none) rfl (wpAny_pure ?_)))))))];rwa[wpAny_bind (slicePart_none ?_)];show wpAny _ _ (if ((1:Int)==0)=true then _ else _) _ _ s;rw [if_neg ↑1];rwa[wpAny_bind (qP pl (wpAny_bind (qP pu (wpAny_bind (wpAny_pure ?_)))))];show wpAny _ _ (match Builtin.Slice.sliceAdjust lo hi 1 (n:Int) with|(lo,hi)=>pure (lo,(1:Int),Builtin.Slice.slicePlaces lo hi 1)) _ _ s;rw [zK lo hi n];show wpAny _ _ (pure (((sIx n 0 lo:Nat):Int),(1:Int),Builtin.Slice.slicePlaces ((sIx n 0 lo:Nat):Int) ((sIx n n hi:Nat):Int) 1)) _ _ s;rw [y9];exact wpAny_pure h
theorem Dk (xs:Array Value)(i k:Nat):((List.range k).filterMap λ(m:Nat)=>xs[((i:Int)+(m:Int)*1).toNat]?).toArray=((xs.toList.drop i).take k).toArray:=by
 have e:(λ(m:Nat)=>xs[((i:Int)+(m:Int)*1).toNat]?)=λm=>xs[i+m]? :=by
  funext m
  have:((i:Int)+(m:Int)*1).toNat=i+m:=by omega
  rw [this]
 rw [e];have:=pick_run xs i k;rw [List.filterMap_map] at this;have e2:((λx=>xs[x]?)∘λx=>i+x)=λm=>xs[i+m]? :=rfl;rw [e2] at this;rw [this]
theorem getItem_tuple_cut {t sl:Addr}{items:Array Value}{vl vu:Value}{lo hi:Option Int}{Q:Value->Shared->Prop}(ht:IsTup s.heap t items)(hs:s.heap.IsSliceOf sl vl vu .none)(pl:IsPart vl lo)(pu:IsPart vu hi)
(hw: ¬(sIx items.size 0 lo=0/\sIx items.size items.size hi=items.size))
(h:Q (.ref s.heap.objs.size) {s with heap:=s.heap.push {cls:= .type "tuple",data:= .seq ((items.toList.drop (sIx items.size 0 lo)).take (sIx items.size items.size hi - sIx items.size 0 lo)).toArray}})
(hsz:items.size<=sizeLine):wpAny ↑38 A (getItem (.ref t) (.ref sl)) Q E s:=by
 have htake:sizeOk (.seq ((items.toList.drop (sIx items.size 0 lo)).take (sIx items.size items.size hi - sIx items.size 0 lo)).toArray):=by
  show ((items.toList.drop (sIx items.size 0 lo)).take (sIx items.size items.size hi - sIx items.size 0 lo)).toArray.size<=sizeLine;rw [List.size_toArray,List.length_take,List.length_drop,Array.length_toList];omega
 have hj:sIx items.size items.size hi<=items.size:=IR _ _ ↑15 hi;obtain ⟨os,hos,hcs,hds⟩:=id hs;have hTs:s.TypeIs (.ref sl) "slice":=⟨os,hos,hcs⟩;unfold getItem
 try with_reducible refine wpAny_holding ?_
 first|refine wpAny_bind (wpAny_pure ?_)|skip
 rwa[wpAny_bind (wpAny_sequenceKey ht.typeIs ↑1 ?_)]
 refine wpAny_bind (wpAny_callSpecial?_slot (name:=Str.ofString "__getitem__") ht.typeIs PyProof.Rows.slot_tuple_getitem
  (wpAny_call_entry PyProof.Rows.slot_tuple_getitem ht.typeIs entry_tuple_getitem ?_ (args_tuple_getitem _ _)))
 show wpAny _ _ (Builtin.Tuple.tupleItemsOf (.ref t)>>=_) _ _ s;rwa[wpAny_bind (tupleItemsOf_ ht ?_)];rwa[wpAny_bind (wpAny_typeOf hTs ?_)];rw [if_pos ↑1];rwa[wpAny_bind (iz hs pl pu ?_)]
 have hno: ¬((((sIx items.size 0 lo:Nat):Int)==0&&(1:Int)==1&&(sIx items.size items.size hi - sIx items.size 0 lo)==items.size)=true):=by
  intro q;rw [Bool.and_eq_true,Bool.and_eq_true] at q;have q1:((sIx items.size 0 lo:Nat):Int)=0:=eq_of_beq q.1.1;have q2:sIx items.size items.size hi - sIx items.size 0 lo=items.size:=eq_of_beq q.2;exact hw ⟨by omega,by omega⟩
 show wpAny _ _ (if (((sIx items.size 0 lo:Nat):Int)==0&&(1:Int)==1&&(sIx items.size items.size hi - sIx items.size 0 lo)==items.size)=true then _ else _) _ _ s;rw [if_neg hno,Dk]
 first
  |exact wpAny_bind (m:=Builtin.Tuple.tupleExact _) (wpAny_newObj_type (wpAny_pure ⟨_,rfl,wpAny_pure h⟩) htake)
  |exact wpAny_bind (m:=Builtin.Tuple.tupleExact _) (wpAny_newObj_type (wpAny_bind (wpAny_pure (wpAny_pure ⟨_,rfl,wpAny_pure h⟩))) htake)
  |exact wpAny_bind (wpAny_bind (m:=Builtin.Tuple.tupleExact _) (wpAny_newObj_type (wpAny_pure (wpAny_pure ⟨_,rfl,wpAny_pure h⟩)) htake))
  |exact wpAny_bind (wpAny_bind (m:=Builtin.Tuple.tupleExact _) (wpAny_newObj_type (wpAny_pure ⟨_,rfl,wpAny_pure h⟩) htake))
end
end HT
namespace L2
open PySem PySem.Spec PyProof.Rows
abbrev TO:=St->Hp->(Option Int->Hp->Prop)->Prop
def PO (X:Cx)(e:Option Expr)(t:TO):Prop:=
 ∀(pins:List ↑20) (s:Shared) (σ:St) (H:Hp) (Q:Option Int->Hp->Prop),aL X pins σ H s->t σ H Q->
  wpAny ↑9 X.A (evalPart e X.env) (λu s'=>∃o H',aL X pins σ H' s'/\IsPart u o/\Q o H') X.xe s
def Fo:TO:=λ_ H Q=>Q none H
section
variable {X:Cx}{e:Expr}{te:TE}{lo hi:Option Expr}{tl th:TO}{pos p2:Pos}
theorem fm:PO X none Fo:=by
 intro pins s σ H Q I h;rw [evalPart_none];exact wpAny_pure ⟨none,H,I,.none,h⟩
def HM (X:Cx)(r:V->Option Int->Option Int->Hp->VK->Prop):Prop:=
 ∀(pins:List ↑20) (s:Shared) (σ:St) (H:Hp) (x:V) (v vl vu:Value) (lo hi:Option Int) (sl:Addr) (Q:VK),aL X pins σ H s->bp x v->s.heap.IsSliceOf sl vl vu .none->IsPart vl lo->IsPart vu hi->r x lo hi H Q->
  ∃T id,typeLookup (.type T) "__getitem__"=pure (some (.builtin id))/\s.TypeIs v T/\wpAny ↑9 X.A (getItem v (.ref sl)) (EP X pins σ Q) X.xe s
def Pc (r:V->Option Int->Option Int->Hp->VK->Prop)(te:TE)(tl th:TO):TE:=λσ H Q=>te σ H λx H1=>tl σ H1 λl H2=>th σ H2 λu H3=>r x l u H3 Q
theorem dh {r:V->Option Int->Option Int->Hp->VK->Prop}(hr:HM X r)(he:PE X e te)(hl:PO X lo tl)(hu:PO X hi th):PE X (.Subscript e (.Slice lo hi none p2) pos) (Pc r te tl th):=by
 intro pins s σ H Q I h;rwa[Subscript_ (b4 (he pins s σ H _ I h) λv s1 ⟨x,H1,I1,r1,q1⟩=> ?_)];rwa[wpAny_Slice (b4 (hl pins s1 σ H1 _ I1 q1) λvl s2 ⟨l,H2,I2,pl,q2⟩=>b4 (hu pins s2 σ H2 _ I2 q2) λvu s3 ⟨u,H3,I3,pu,q3⟩=> ?_)];rw [evalPart_none];rwa[wpAny_pure ?_];have I4:aL X pins σ H3 {s3 with heap:=s3.heap.push {cls:= .type "slice",data:= .fields #[vl,vu,.none]}}:=I3.kept (t':=s3.toks) λb ob q=>Heap.get?_push_of_some _ q;obtain ⟨T,id,hT,ht,hg⟩:=hr pins {s3 with heap:=s3.heap.push {cls:= .type "slice",data:= .fields #[vl,vu,.none]}} σ H3 x v vl vu l u s3.heap.objs.size Q I4 r1 (Heap.IsSliceOf.new ..) pl pu q3;show wpAny ↑9 X.A (subscriptTail e (.Slice lo hi none p2) v (.ref s3.heap.objs.size)) (EP X pins σ Q) X.xe {s3 with heap:=s3.heap.push {cls:= .type "slice",data:= .fields #[vl,vu,.none]}};exact tail_any (ops:=[.ref s3.heap.objs.size,v]) ht hT hg (by with_unfolding_all rfl)
def ff (xs:List V)(lo hi:Option Int):List V:=(xs.drop (HT.sIx xs.length 0 lo)).take (HT.sIx xs.length xs.length hi - HT.sIx xs.length 0 lo)
theorem pW (xs:List V)(lo hi:Option Int):(ff xs lo hi).length<=xs.length:=by
 unfold ff;rw [List.length_take,List.length_drop];omega
def N9 (K:Fg):V->Option Int->Option Int->Hp->VK->Prop:=λx lo hi H Q=>∃a xs,x= .ref a/\aK K H a xs/\
 ¬(HT.sIx xs.length 0 lo=0/\HT.sIx xs.length xs.length hi=xs.length)/\∀p,H p=none->Q (.ref p) (upd H p (.tup (ff xs lo hi)))
theorem CK:HM X (N9 X.K):=by
 intro pins s σ H x v vl vu lo hi sl Q I rx hs pl pu h;obtain ⟨a,xs,rfl,hx,hw,q⟩:=h;cases rx;obtain ⟨its,r,ht,hz⟩:=I.tuple hx
 have hlen:its.toArray.size=xs.length:=by rw [List.size_toArray];exact r.length.symm
 rwa[⟨"tuple",_,PyProof.Rows.slot_tuple_getitem.lookup,ht.typeIs,?_⟩];rwa[HT.getItem_tuple_cut ht hs pl pu (by rw [hlen];exact hw) ?_ (by rw [hlen];exact hz)];rw [hlen];rwa[⟨.ref s.heap.objs.size,_,I.laid (t':=s.toks) (o:= .tup (ff xs lo hi)) (λb ob q=>Heap.get?_push_of_some _ q) ↑15 ?_,rfl,q _ (I.hok.fresh ↑15)⟩];exact ⟨Nat.le_trans (pW xs lo hi) hz,_,(r.drop (HT.sIx xs.length 0 lo)).take (HT.sIx xs.length xs.length hi - HT.sIx xs.length 0 lo),IsTup.new _ _⟩
def LG (K:Fg):R2:=λx y H Q=>∃a b xs ys,x= .ref a/\y= .ref b/\aK K H a xs/\aK K H b ys/\xs≠[]/\xs.length+ys.length<=sizeLine/\
 (ys=[]->Q (.ref a) H)/\(ys≠[]->∀p,H p=none->Q (.ref p) (upd H p (.tup (xs++ys))))
theorem bo.nil_iff {xs:List V}{us:List Value}(r:bo xs us):us=[]↔xs=[]:=by
 cases r with
 |nil=>simp
 |cons _ _=>simp
theorem FZ:d8 X (binaryOp .Add) (LG X.K):=by
 intro pins s σ H x y v u Q I rx ry h;obtain ⟨a,b,xs,ys,rfl,rfl,ha,hb,hx,hz,q1,q2⟩:=h;cases rx;cases ry;obtain ⟨its,r1,p1,_⟩:=I.tuple ha;obtain ⟨its2,r2,p2,_⟩:=I.tuple hb;rwa[HT.cat_tup p1 p2 (λz=>hx (r1.nil_iff.mp z)) (λz=>⟨.ref a,H,I,rfl,q1 (r2.nil_iff.mp z)⟩) (λz=> ?_) (by rw [<-r1.length,<-r2.length];exact hz)];rwa[⟨.ref s.heap.objs.size,_,I.laid (t':=s.toks) (o:= .tup (xs++ys)) (λb ob q=>Heap.get?_push_of_some _ q) ↑15 ?_,rfl,q2 (λw=>z (r2.nil_iff.mpr w)) _ (I.hok.fresh ↑15)⟩];exact ⟨by rw [List.length_append];exact hz,_,r1.append r2,IsTup.new _ _⟩
end
def xH (n:Nat)(i:Int):Option Nat:=if 0<=i then (if i<n then some i.toNat else none) else if -(n:Int)<=i then some (i+n).toNat else none
def ly {α:Type}(xs:List α)(i:Int):Option α:=(xH xs.length i).bind λj=>xs[j]?
theorem Ac {n:Nat}{i:Int}{j:Nat}(h:xH n i=some j):seqIndex? i n=some j/\j<n/\ -(n:Int)<=i/\i<n:=by
 unfold xH at h;by_cases h0:0<=i
 ·rw [if_pos h0] at h;by_cases h1:i<n
  ·rw [if_pos h1] at h;have e:i.toNat=j:=Option.some.inj h;exact ⟨by rw [seqIndex_of h0 h1,e],by omega,by omega,h1⟩
  ·rw [if_neg h1] at h;cases h
 ·rw [if_neg h0] at h;by_cases h1: -(n:Int)<=i
  ·rw [if_pos h1] at h;have e:(i+n).toNat=j:=Option.some.inj h;exact ⟨by rw [seqIndex_neg ↑5 h1,e],by omega,h1,by omega⟩
  ·rw [if_neg h1] at h;cases h
theorem wJ {α:Type}{xs:List α}{i:Int}{v:α}(h:ly xs i=some v):∃j,seqIndex? i xs.length=some j/\xs[j]? =some v/\j<xs.length/\ -(xs.length:Int)<=i/\i<xs.length:=by
 unfold ly at h
 cases e:xH xs.length i with
 |none=>rw [e] at h;cases h
 |some j=>
  rw [e] at h;obtain ⟨h1,h2,h3,h4⟩:=Ac e;exact ⟨j,h1,h,h2,h3,h4⟩
theorem dE {α:Type}{xs:List α}{j:Nat}{v:α}(h:xs[j]? =some v):ly xs (j:Int)=some v:=by
 have hj:j<xs.length:=(List.getElem?_eq_some_iff.mp h).1
 have e:xH xs.length (j:Int)=some j:=by
  unfold xH;rw [if_pos ↑5,if_pos ↑5];simp
 unfold ly;rw [e];exact h
def G8 (b:Expr):Prop:=∀o i,subscripted b false o i=operate [o,i] (getItem o i)
def BY (X:Cx)(r:R2):Prop:=
 ∀(value slice:Expr) (pins:List ↑20) (s:Shared) (σ:St) (H:Hp) (x y:V) (v u:Value) (Q:VK),aL X pins σ H s->bp x v->bp y u->r x y H Q->
  subscripted slice false v u=operate [v,u] (getItem v u)->wpAny ↑9 X.A (subscriptTail value slice v u) (EP X pins σ Q) X.xe s
def Au (X:Cx)(id:String)(r:V->List V->Hp->VK->Prop):Prop:=
 ∀(pins:List ↑20) (s:Shared) (σ:St) (H:Hp) (x:V) (xs:List V) (v:Value) (us:List Value) (Q:VK),aL X pins σ H s->bp x v->bo xs us->r x xs H Q->
  wpAny ↑9 X.A (call (.builtin id) (v::us)) (EP X pins σ Q) X.xe s
section
variable {X:Cx}{a b:Expr}{ta tb:TE}{pos:Pos}
theorem ak {r:R2}(hr:BY X r)(ha:PE X a ta)(hb:PE X b tb)(hs:G8 b):PE X (.Subscript a b pos) (M7 r ta tb):=by
 intro pins s σ H Q I h;exact Subscript_ (Kl ha hb I h λv u s2 x y H2 I2 rx ry q=>hr a b pins s2 σ H2 x y v u Q I2 rx ry q (hs _ _))
def Od (K:Fg):R2:=λx y H Q=>∃p xs i v,x= .ref p/\y= .int i/\aN K H p xs/\ly xs i=some v/\Q v H
def Ob (K:Fg):R2:=λx y H Q=>∃p xs i v,x= .ref p/\y= .int i/\aK K H p xs/\ly xs i=some v/\Q v H
def Oc:R2:=λx y H Q=>∃z i c,x= .str z/\y= .int i/\z.length<=sizeLine/\ly z.cps.toList i=some c/\Q (.str ⟨#[c]⟩) H
theorem GE:BY X (Od X.K):=by
 intro value slice pins s σ H x y v u Q I rx ry h hs;obtain ⟨p,xs,i,z,rfl,rfl,hq,he,q⟩:=h;cases rx;obtain ⟨t,rfl⟩:=ry;obtain ⟨its,r,pl,hz⟩:=I.list hq;obtain ⟨j,h1,h2,h3,h4,h5⟩:=wJ he;obtain ⟨w,ew,rw'⟩:=r.get h2;have hl:=r.length;have hn:=mf;have fin:EP X pins σ Q w s:=⟨z,H,I,rw',q⟩;by_cases h0:0<=i
 ·have hj:i.toNat=j:=by
   rw [seqIndex_of h0 h5] at h1;exact Option.some.inj h1
  exact item_listR pl.isList h0 ↑5 (by rw [hj];simpa using ew) fin hs
 ·have hj:(i+(its.toArray.size:Int)).toNat=j:=by
   rw [seqIndex_neg ↑5 h4] at h1;rw [List.size_toArray,<-hl];exact Option.some.inj h1
  exact subscriptTail_builtinR (x:=w) pl.isList.typeIs slot_list_getitem.lookup
   (wpAny_getItem_list_neg (Q:=λr s'=>r=w/\EP X pins σ Q r s') pl.isList ↑5 (by rw [List.size_toArray]<;>omega) ↑5 (by rw [hj];simpa using ew) ⟨rfl,fin⟩) hs
theorem J3:BY X (Ob X.K):=by
 intro value slice pins s σ H x y v u Q I rx ry h hs;obtain ⟨p,xs,i,z,rfl,rfl,hq,he,q⟩:=h;cases rx;obtain ⟨t,rfl⟩:=ry;obtain ⟨its,r,pl,hz⟩:=I.tuple hq;obtain ⟨j,h1,h2,h3,h4,h5⟩:=wJ he;obtain ⟨w,ew,rw'⟩:=r.get h2;have hl:=r.length;have hn:=mf;have fin:EP X pins σ Q w s:=⟨z,H,I,rw',q⟩
 exact subscriptTail_builtinR (x:=w) pl.typeIs slot_tuple_getitem.lookup
  (getItem_tuple (j:=j) (Q:=λr s'=>r=w/\EP X pins σ Q r s') pl ↑5 ↑5 (by rw [List.size_toArray,<-hl];exact h1) (by simpa using ew) ⟨rfl,fin⟩) hs
theorem J4:BY X Oc:=by
 intro value slice pins s σ H x y v u Q I rx ry h hs;obtain ⟨z,i,c,rfl,rfl,hz,he,q⟩:=h;obtain ⟨t,rfl⟩:=rx;obtain ⟨t',rfl⟩:=ry;obtain ⟨j,h1,h2,h3,h4,h5⟩:=wJ he
 have hl:z.cps.toList.length=z.length:=by simp [Str.length]
 rw [hl] at h1 h4 h5;have hn:=mf
 exact tail_any (typeIs_str s z t) slot_str_getitem.lookup (getItem_str (c:=c) (by
  have e1:decide (i< -(2^63:Int))=false:=decide_eq_false ↑5;have e2:decide (i≥2^63)=false:=decide_eq_false ↑5
  rw [e1,e2,Bool.or_false]) (by rw [h1];simpa using h2) ⟨.str ⟨#[c]⟩,H,I.tok _,⟨_,rfl⟩,q⟩) hs
theorem zp (its:List Value)(n j:Nat)(u:Value):Obj.mapSeq (·.setIfInBounds j u) {cls:= .type "list",data:= .seq its.toArray n}= {cls:= .type "list",data:= .seq (its.set j u).toArray n}:=by
 simp [Obj.mapSeq]
theorem aL.lst {pins:List ↑20}{σ:St}{H:Hp}{s:Shared}{p:Addr}{xs:List V}(I:aL X pins σ H s)(h:H p=some (.lst xs)):
 ∃(its:List Value) (n:Nat),bo xs its/\s.heap.get? p=some {cls:= .type "list",data:= .seq its.toArray n}/\xs.length<=sizeLine:=by
 obtain ⟨z,its,n,r,e⟩:=I.hok p _ h;exact ⟨its,n,r,e,z⟩
theorem aL.lstUpd {pins:List ↑20}{σ:St}{H:Hp}{s:Shared}{p:Addr}{xs ys:List V}{its its':List Value}{n n':Nat}{f:Obj->Obj}(I:aL X pins σ H s)(h:H p=some (.lst xs))
(ho:s.heap.get? p=some {cls:= .type "list",data:= .seq its.toArray n})(hf:f {cls:= .type "list",data:= .seq its.toArray n}= {cls:= .type "list",data:= .seq its'.toArray n'})(r:bo ys its')(hz:ys.length<=sizeLine)(t:Nat):
 aL X pins σ (upd H p (.lst ys)) {s with heap:=s.heap.update p f,toks:=t}:=by
 have e:(s.heap.update p f).get? p=some {cls:= .type "list",data:= .seq its'.toArray n'}:=by
  rw [Heap.get?_update_self f ho (by rw [hf]<;>rfl),hf]
 rwa[I.write (x:=p) (e:=p) (by rw [h];trivial) (.inl rfl) (λb u hb q=>(Heap.get?_update_other _ _ (Ne.symm hb)).trans q) ⟨_,e⟩ ?_];exact ⟨hz,its',n',r,e⟩
def LC:V->V->V->Hp->(Hp->Prop)->Prop:=λo i v H Q=>∃p xs k j,o= .ref p/\i= .int k/\H p=some (.lst xs)/\xH xs.length k=some j/\Q (upd H p (.lst (xs.set j v)))
theorem CL:EO X LC:=by
 intro pins s σ H o i v ov iv u Q I ro ri rv h;obtain ⟨p,xs,k,j,rfl,rfl,hp,hj,q⟩:=h;cases ro;obtain ⟨t,rfl⟩:=ri;obtain ⟨its,n,r,ho,hz⟩:=I.lst hp;obtain ⟨h1,h2,h3,h4⟩:=Ac hj;have hl:=r.length;have hn:=mf
 have I':aL X pins σ (upd H p (.lst (xs.set j v))) {s with heap:=s.heap.update p (Obj.mapSeq (·.setIfInBounds j u))}:=
  I.lstUpd hp ho (zp its n j u) (r.set rv j) (by rw [List.length_set];exact hz) s.toks
 by_cases h0:0<=k
 ·have hk:k.toNat=j:=by
   rw [seqIndex_of h0 h4] at h1;exact Option.some.inj h1
  exact W.ki_setAt ho h0 ↑5 (by rw [List.size_toArray,<-hl];exact h4) (by rw [hk];exact ⟨_,I',q⟩)
 ·have hk:(k+(its.toArray.size:Int)).toNat=j:=by
   rw [seqIndex_neg ↑5 h3] at h1;rw [List.size_toArray,<-hl];exact Option.some.inj h1
  exact W.ki_setBack ho ↑5 (by rw [List.size_toArray,<-hl];exact h3) ↑5 (by rw [hk];exact ⟨_,I',q⟩)
theorem vf (lo hi:Option Int)(n:Nat):(sliceBounds lo hi none n).1=((HT.sIx n 0 lo:Nat):Int)/\(sliceBounds lo hi none n).2.1=((HT.sIx n n hi:Nat):Int)/\(sliceBounds lo hi none n).2.2=1:=by
 rwa[⟨?_,?_,rfl⟩]
 ·cases lo with
  |none=>simp [sliceBounds,HT.sIx]
  |some i=>
   simp only [sliceBounds,HT.sIx,Option.getD_none,show (1:Int)>0 by decide,if_true];by_cases h:i<0
   ·simp only [h,if_true]<;>omega
   ·simp only [h,if_false]<;>omega
 ·cases hi with
  |none=>simp [sliceBounds,HT.sIx]
  |some i=>
   simp only [sliceBounds,HT.sIx,Option.getD_none,show (1:Int)>0 by decide,if_true];by_cases h:i<0
   ·simp only [h,if_true]<;>omega
   ·simp only [h,if_false]<;>omega
theorem tN (its:List Value)(lo hi:Option Int):slicePick its.toArray lo hi none=((its.drop (HT.sIx its.length 0 lo)).take (HT.sIx its.length its.length hi - HT.sIx its.length 0 lo)).toArray:=by
 obtain ⟨h1,h2,h3⟩:=vf lo hi its.toArray.size;unfold slicePick;rw [h1,h2,h3];simp only [sliceRange_one,pick_run,List.size_toArray]<;>rfl
def Oa (K:Fg):V->Option Int->Option Int->Hp->VK->Prop:=λx lo hi H Q=>∃a xs,x= .ref a/\aN K H a xs/\∀p,H p=none->Q (.ref p) (upd H p (.lst (ff xs lo hi)))
theorem Fw:HM X (Oa X.K):=by
 intro pins s σ H x v vl vu lo hi sl Q I rx hs pl pu h;obtain ⟨a,xs,rfl,hx,q⟩:=h;cases rx;obtain ⟨its,r,ht,hz⟩:=I.list hx;have hlen:=r.length;rwa[⟨"list",_,slot_list_getitem.lookup,ht.isList.typeIs,?_⟩];rwa[wpAny_getItem_list_slice ht.isList hs pl pu .none ↑27 ?_ (by rw [List.size_toArray]<;>omega)];rw [tN,<-hlen];rwa[⟨.ref s.heap.objs.size,_,I.laid (t':=s.toks) (o:= .lst (ff xs lo hi)) (λb ob q=>Heap.get?_push_of_some _ q) ↑15 ?_,rfl,q _ (I.hok.fresh ↑15)⟩];exact ⟨Nat.le_trans (pW xs lo hi) hz,_,0,(r.drop (HT.sIx xs.length 0 lo)).take (HT.sIx xs.length xs.length hi - HT.sIx xs.length 0 lo),Heap.get?_push_size _ rfl⟩
def fc:V->Bool
 | .non=>true
 | .bl _=>true
 | .int _=>true
 | .str _=>true
 |_=>false
def GU:V->V->Bool
 | .non,.non=>true
 | .bl a,.bl b=>a==b
 | .bl a,.int b=>(if a then 1 else 0)==b
 | .int a,.bl b=>a==(if b then 1 else 0)
 | .int a,.int b=>a==b
 | .str a,.str b=>a==b
 |_,_=>false
theorem En {A:Around}{s:Shared}{y x:V}{u v:Value}(ry:bp y u)(rx:bp x v)(fy:fc y=true)(fx:fc x=true):SeqAt.EqAt A s u v (GU y x):=by
 cases y with
 |non=>
  cases ry
  cases x with
  |non=>cases rx;exact SeqAt.EqAt.same _
  |bl b=>cases rx;exact SeqAt.EqAt.none_bool b
  |int b=>obtain ⟨t,rfl⟩:=rx;exact SeqAt.EqAt.none_int b t
  |str b=>obtain ⟨t,rfl⟩:=rx;exact SeqAt.EqAt.none_str b t
  |_=>exact absurd (show false=true from fx) Bool.false_ne_true
 |bl a=>
  cases ry
  cases x with
  |non=>cases rx;exact SeqAt.EqAt.bool_none a
  |bl b=>cases rx;exact SeqAt.EqAt.bool_bool a b
  |int b=>obtain ⟨t,rfl⟩:=rx;exact SeqAt.EqAt.bool_int a b t
  |str b=>obtain ⟨t,rfl⟩:=rx;exact SeqAt.EqAt.bool_str a b t
  |_=>exact absurd (show false=true from fx) Bool.false_ne_true
 |int a=>
  obtain ⟨t',rfl⟩:=ry
  cases x with
  |non=>cases rx;exact SeqAt.EqAt.int_none a t'
  |bl b=>cases rx;exact SeqAt.EqAt.int_bool a t' b
  |int b=>obtain ⟨t,rfl⟩:=rx;exact SeqAt.EqAt.int_int a t' b t
  |str b=>obtain ⟨t,rfl⟩:=rx;exact SeqAt.EqAt.int_str a t' b t
  |_=>exact absurd (show false=true from fx) Bool.false_ne_true
 |str a=>
  obtain ⟨t',rfl⟩:=ry
  cases x with
  |non=>cases rx;exact SeqAt.EqAt.str_none a t'
  |bl b=>cases rx;exact SeqAt.EqAt.str_bool a t' b
  |int b=>obtain ⟨t,rfl⟩:=rx;exact SeqAt.EqAt.str_int a t' b t
  |str b=>obtain ⟨t,rfl⟩:=rx;exact SeqAt.EqAt.str_str a t' b t
  |_=>exact absurd (show false=true from fx) Bool.false_ne_true
 |_=>exact absurd (show false=true from fy) Bool.false_ne_true
def zF (x:V)(u:Value):Bool:=match u with
 | .none=>GU .non x
 | .bool b=>GU (.bl b) x
 | .int i _=>GU (.int i) x
 | .str z _=>GU (.str z) x
 |_=>false
theorem El {x y:V}{u:Value}(r:bp y u)(f:fc y=true):zF x u=GU y x:=by
 cases y with
 |non=>cases r;rfl
 |bl b=>cases r;rfl
 |int i=>obtain ⟨t,rfl⟩:=r;rfl
 |str z=>obtain ⟨t,rfl⟩:=r;rfl
 |_=>exact absurd (show false=true from f) Bool.false_ne_true
theorem nz {x:V}:∀ {xs:List V} {us:List Value},bo xs us->xs.all fc=true->us.any (zF x)=xs.any λy=>GU y x
 |_,_,.nil,_=>rfl
 |y::xs,u::us,.cons r t,f=>by
  rw [List.all_cons,Bool.and_eq_true] at f;rw [List.any_cons,List.any_cons,El r f.1,nz t f.2]
theorem jX {A:Around}{s:Shared}{x:V}{v:Value}(rx:bp x v)(fx:fc x=true):∀ {xs:List V} {us:List Value},bo xs us->xs.all fc=true->∀u∈us,SeqAt.EqAt A s u v (zF x u)
 |_,_,.nil,_=>λu hu=>by cases hu
 |y::xs,u::us,.cons r t,f=>λu' hu=>by
  rw [List.all_cons,Bool.and_eq_true] at f
  rcases List.mem_cons.mp hu with rfl|hu
  ·rw [El r f.1];exact En r rx f.1 fx
  ·exact jX rx fx t f.2 u' hu
def xI (x:V)(xs:List V):Bool:=xs.any λy=>GU y x
def M9 (K:Fg)(neg:Bool):R2:=λx y H Q=>∃p xs,y= .ref p/\(aN K H p xs\/aK K H p xs)/\fc x=true/\xs.all fc=true/\Q (.bl (if neg then !xI x xs else xI x xs)) H
theorem AS:d8 X (compareOp .In) (M9 X.K false):=by
 intro pins s σ H x y v u Q I rx ry h;obtain ⟨p,xs,rfl,hq,fx,fs,q⟩:=h;cases ry
 rcases hq with hq|hq
 ·obtain ⟨its,r,pl,hz⟩:=I.list hq;rwa[SeqAt.in_listAt (zF x) pl.isList (λw hw=>jX rx fx r fs w (by simpa using hw)) ⟨.bl _,H,I,rfl,?_⟩];rw [show its.toArray.any (zF x)=its.any (zF x) by simp,nz r fs];exact q
 ·obtain ⟨its,r,pl,hz⟩:=I.tuple hq;rwa[SeqAt.in_tupleAt (zF x) pl (λw hw=>jX rx fx r fs w (by simpa using hw)) ⟨.bl _,H,I,rfl,?_⟩];rw [show its.toArray.any (zF x)=its.any (zF x) by simp,nz r fs];exact q
theorem vW:d8 X (compareOp .NotIn) (M9 X.K true):=by
 intro pins s σ H x y v u Q I rx ry h;obtain ⟨p,xs,rfl,hq,fx,fs,q⟩:=h;cases ry
 rcases hq with hq|hq
 ·obtain ⟨its,r,pl,hz⟩:=I.list hq;rwa[SeqAt.notIn_listAt (zF x) pl.isList (λw hw=>jX rx fx r fs w (by simpa using hw)) ⟨.bl _,H,I,rfl,?_⟩];rw [show its.toArray.any (zF x)=its.any (zF x) by simp,nz r fs];exact q
 ·obtain ⟨its,r,pl,hz⟩:=I.tuple hq;rwa[SeqAt.notIn_tupleAt (zF x) pl (λw hw=>jX rx fx r fs w (by simpa using hw)) ⟨.bl _,H,I,rfl,?_⟩];rw [show its.toArray.any (zF x)=its.any (zF x) by simp,nz r fs];exact q
theorem wD:b3 X (.builtin "len") (λxs H Q=>∃p ys,xs=[.ref p]/\(aN X.K H p ys\/aK X.K H p ys)/\Q (.int ys.length) H):=by
 intro pins s σ H xs us Q I r h;obtain ⟨p,ys,rfl,hq,q⟩:=h;obtain ⟨u,rfl,rx⟩:=pG r;cases rx;have hn:=mf
 rcases hq with hq|hq
 ·obtain ⟨its,r',pl,hz⟩:=I.list hq;have hlen:=r'.length;exact Calls.call_len_list pl.isList (by simp only [List.size_toArray]<;>omega) ⟨.int ys.length,H,I.tok _,⟨s.toks+1,by rw [List.size_toArray,hlen]⟩,q⟩
 ·obtain ⟨its,r',pl,hz⟩:=I.tuple hq;have hlen:=r'.length;exact len_tuple pl (by simp only [List.size_toArray]<;>omega) ⟨.int ys.length,H,I.tok _,⟨s.toks+1,by rw [List.size_toArray,hlen]⟩,q⟩
theorem wB:b3 X (.builtin "len") (λxs H Q=>∃z,xs=[.str z]/\z.length<=sizeLine/\Q (.int z.length) H):=by
 intro pins s σ H xs us Q I r h;obtain ⟨z,rfl,hz,q⟩:=h;obtain ⟨u,rfl,t,rfl⟩:=pG r;have hn:=mf;exact len_str ↑5 ⟨.int z.length,H,I.tok _,⟨_,rfl⟩,q⟩
theorem wA:b3 X (.type "list") (λxs H Q=>∃p ys,xs=[.ref p]/\(aN X.K H p ys\/aK X.K H p ys)/\∀l,H l=none->Q (.ref l) (upd H l (.lst ys))):=by
 intro pins s σ H xs us Q I r h;obtain ⟨p,ys,rfl,hq,q⟩:=h;obtain ⟨u,rfl,rx⟩:=pG r;cases rx
 have fin:∀(its:List Value),bo ys its->ys.length<=sizeLine->∀(h':Heap) (c':Nat),(∀b o',s.heap.get? b=some o'->h'.get? b=some o')->
  h'.get? s.heap.objs.size=some {cls:= .type "list",dict:=none,data:= .seq its.toArray c',slots:= #[]}->EP X pins σ Q (.ref s.heap.objs.size) {s with heap:=h'}:=λits r' hz h' c' kp e=>
  ⟨.ref s.heap.objs.size,_,I.laid (t':=s.toks) kp ↑15 (show bS X.prog X.w _ h' _ (.lst ys) from ⟨hz,its,c',r',e⟩),rfl,q _ (I.hok.fresh ↑15)⟩
 rcases hq with hq|hq
 ·obtain ⟨its,r',pl,hz⟩:=I.list hq;have hlen:=r'.length;obtain ⟨o,ho,hc,n,hd⟩:=pl.isList;exact call_list_seq p (.inl rfl) ho hc hd (λh' c' kp e=>fin its r' hz h' c' kp e) (by simp only [List.size_toArray]<;>omega)
 ·obtain ⟨its,r',pl,hz⟩:=I.tuple hq;have hlen:=r'.length;obtain ⟨o,ho,hc,n,hd⟩:=pl;exact call_list_seq p (.inr rfl) ho hc hd (λh' c' kp e=>fin its r' hz h' c' kp e) (by simp only [List.size_toArray]<;>omega)
theorem tW:b3 X (.type "tuple") (λxs H Q=>∃p ys,xs=[.ref p]/\((aN X.K H p ys/\∀l,H l=none->Q (.ref l) (upd H l (.tup ys)))\/(aK X.K H p ys/\Q (.ref p) H))):=by
 intro pins s σ H xs us Q I r h;obtain ⟨p,ys,rfl,h⟩:=h;obtain ⟨u,rfl,rx⟩:=pG r;cases rx
 rcases h with ⟨hq,q⟩|⟨hq,q⟩
 ·obtain ⟨its,r',pl,hz⟩:=I.list hq;have hlen:=r'.length;rwa[call_tuple_list pl.isList (λh' kp=> ?_) (by simp only [List.size_toArray]<;>omega)];have I1:aL X pins σ H {s with heap:=h'}:=I.kept (t':=s.toks) kp
  have I2:aL X pins σ (upd H h'.objs.size (.tup ys)) {s with heap:=h'.push {cls:= .type "tuple",data:= .seq its.toArray}}:=
   I1.laid (t':=s.toks) (λb o e=>Heap.get?_push_of_some _ e) ↑15 (show bS X.prog X.w _ _ _ (.tup ys) from ⟨hz,its,r',IsTup.new _ _⟩)
  exact ⟨.ref h'.objs.size,_,I2,rfl,q _ (I1.hok.fresh ↑15)⟩
 ·obtain ⟨its,r',pl,hz⟩:=I.tuple hq;exact call_tuple_same pl ⟨.ref p,H,I,rfl,q⟩
def M5 (K:Fg)(T:String)(x:V)(H:Hp):Prop:=match x with
 | .str _=>T="str"
 | .int _=>T="int"
 | .ref p=>(T="list"/\∃xs,aN K H p xs)\/(T="tuple"/\∃o,K.lookup p=some o/\o.cls= .type "tuple"/\o.dict=none)\/
    (T="dict"/\((∃kvs,H p=some (.dK kvs))\/∃kvs,H p=some (.dT kvs)))\/(T="set"/\∃S n,H p=some (.set S n))
 |_=>False
theorem Co {pins:List ↑20}{σ:St}{H:Hp}{s:Shared}{T:String}{x:V}{v:Value}(I:aL X pins σ H s)(r:bp x v)(ty:M5 X.K T x H):
 s.TypeIs v T/\∀a,v= .ref a->∃ob,s.heap.get? a=some ob/\ob.dict=none:=by
 cases x with
 |str z=>
  obtain ⟨t,rfl⟩:=r;cases (show T="str" from ty);exact ⟨typeIs_str s z t,λ_ e=>nomatch e⟩
 |int i=>
  obtain ⟨t,rfl⟩:=r;cases (show T="int" from ty);exact ⟨typeIs_int s i t,λ_ e=>nomatch e⟩
 |ref p=>
  cases r
  rcases ty with ⟨rfl,xs,hq⟩|⟨rfl,o,hk,hc,hd⟩|⟨rfl,hk⟩|⟨rfl,S,n,hk⟩
  ·obtain ⟨its,_,pl,_⟩:=I.list hq;rwa[⟨pl.isList.typeIs,λa e=> ?_⟩];cases e;obtain ⟨o,n,e,c,hd,_⟩:=pl;exact ⟨o,e,hd⟩
  ·rwa[⟨⟨o,I.kIn p o hk,hc⟩,λa e=> ?_⟩];cases e;exact ⟨o,I.kIn _ o hk,hd⟩
  ·have z:∃o,s.heap.get? p=some o/\o.ExactDict:=by
    rcases hk with ⟨kvs,hk⟩|⟨kvs,hk⟩
    ·obtain ⟨_,_,_,_,o,_,_,e,ex,_⟩:=I.hok p _ hk;exact ⟨o,e,ex⟩
    ·obtain ⟨_,_,_,_,o,_,_,e,ex,_⟩:=I.hok p _ hk;exact ⟨o,e,ex⟩
   obtain ⟨o,e,ex⟩:=z;rwa[⟨⟨o,e,ex.1⟩,λa e2=> ?_⟩];cases e2;exact ⟨o,e,ex.2.1⟩
  ·obtain ⟨o,_,_,_,e,ex,_⟩:=I.hok p _ hk;rwa[⟨⟨o,e,ex.1⟩,λa e2=> ?_⟩];cases e2;exact ⟨o,e,ex.2.1⟩
 |_=>exact False.elim ty
variable {o e:Expr}{es:List Expr}{to:TE}{t:TA}{name:Str}{apos cpos:Pos}{T id:String}{r:V->List V->Hp->VK->Prop}
end
def O2 (X:Cx)(id:String)(r:V->List V->Hp->VK->Prop):Prop:=
 ∀(pins:List ↑20) (s:Shared) (σ:St) (H:Hp) (x:V) (xs:List V) (v:Value) (us:List Value) (Q:VK),aL X pins σ H s->bp x v->bo xs us->r x xs H Q->
  wpAny ↑9 X.A (call (.builtin id) (v::us)) (EP X pins σ Q) X.xe s
theorem bo.one:∀ {x:V} {us:List Value},bo [x] us->∃u,us=[u]/\bp x u
 |_,_,.cons r .nil=>⟨_,rfl,r⟩
section
variable {X:Cx}{pins:List ↑20}{σ:St}{H:Hp}{s:Shared}{l b:Addr}{xs ys zs:List V}
theorem aL.lset {its its':List Value}{n:Nat}{f:Array Value->Array Value}{t':Nat}(I:aL X pins σ H s)(hH:H l=some (.lst xs))
(e:s.heap.get? l=some {cls:= .type "list",data:= .seq its.toArray n})(hf:f its.toArray=its'.toArray)(hv:bo ys its')(hz:ys.length<=sizeLine):
 aL X pins σ (upd H l (.lst ys)) {s with heap:=s.heap.update l (Obj.mapSeq f),toks:=t'}:=by
 have q:=PySem.IsL.update e f;rw [hf] at q;rwa[I.write (x:=l) (e:=l) (by rw [hH];exact trivial) (.inl rfl) (λb' u hb hu=>(Heap.get?_update_other s.heap (Obj.mapSeq f) (Ne.symm hb)).trans hu) ⟨_,q⟩ ?_];exact ⟨hz,its',_,hv,q⟩
theorem aL.lnew {its:List Value}{t':Nat}(I:aL X pins σ H s)(hv:bo ys its)(hz:ys.length<=sizeLine):
 aL X pins σ (upd H s.heap.objs.size (.lst ys)) {s with heap:=s.heap.push {cls:= .type "list",data:= .seq its.toArray},toks:=t'}:=
 I.laid (λ_ _ q=>Heap.get?_push_of_some _ q) ↑15 ⟨hz,its,0,hv,Heap.get?_push_size _ rfl⟩
theorem aL.fresh (I:aL X pins σ H s):H s.heap.objs.size=none:=I.hok.fresh ↑15
theorem aL.lstM (I:aL X pins σ H s)(hH:H l=some (.lst xs)):xs.length<=sizeLine/\∃(its:List Value) (n:Nat),bo xs its/\xs.length=its.length/\s.heap.get? l=some {cls:= .type "list",data:= .seq its.toArray n}:=by
 obtain ⟨z,its,n,r,e⟩:=I.hok l _ hH;exact ⟨z,its,n,r,r.length,e⟩
theorem rJ {n:Nat}(h:n<=sizeLine):Builtin.List.listTooLong n=false:=by
 unfold Builtin.List.listTooLong;exact decide_eq_false ↑5
end
section
variable {X:Cx}
def FN:V->List V->Hp->VK->Prop:=λx vs H Q=>∃l xs y,x= .ref l/\vs=[y]/\H l=some (.lst xs)/\xs.length<sizeLine/\Q .non (upd H l (.lst (xs++[y])))
theorem Bk:O2 X "list.append" FN:=by
 intro pins s σ H x vs v us Q I rx rv h;obtain ⟨l,xs,y,rfl,rfl,hH,hz,q⟩:=h;cases rx;obtain ⟨u,rfl,ru⟩:=rv.one;obtain ⟨z,its,n,r,hl,e⟩:=I.lstM hH;rwa[call_meets F.slot_list_append ⟨_,e,rfl⟩ F.entry_list_append (F.args_list_append_2 _ _) (PySem.list_append l its.toArray n u (by rw [List.size_toArray];omega)) ⟨e,?_⟩];rwa[⟨.non,_,I.lset (its':=its++[u]) hH e ↑27 (r.append (.cons ru .nil)) ?_,rfl,q⟩];rw [List.length_append,List.length_singleton];omega
def FM:V->List V->Hp->VK->Prop:=λx vs H Q=>∃l b xs zs,x= .ref l/\vs=[.ref b]/\H l=some (.lst xs)/\H b=some (.lst zs)/\xs.length+zs.length<=sizeLine/\Q .non (upd H l (.lst (xs++zs)))
theorem Bj:O2 X "list.extend" FM:=by
 intro pins s σ H x vs v us Q I rx rv h;obtain ⟨l,b,xs,zs,rfl,rfl,hH,hB,hz,q⟩:=h;cases rx;obtain ⟨u,rfl,ru⟩:=rv.one;cases ru;obtain ⟨z,its,n,r,hl,e⟩:=I.lstM hH;obtain ⟨z2,its2,n2,r2,hl2,e2⟩:=I.lstM hB
 have hsz:its.toArray.size+its2.toArray.size<=sizeLine:=by rw [List.size_toArray,List.size_toArray];omega
 have hlong: ¬(!its.toArray.isEmpty&&Builtin.List.listTooLong (its.toArray.size+its2.toArray.size))=true:=by
  rw [rJ hsz,Bool.and_false];exact Bool.false_ne_true
 refine call_meets F.slot_list_extend ⟨_,e,rfl⟩ F.entry_list_extend (F.args_list_extend_2 _ _)
  (AutoSeq1.list_extend_list_list_0 l its.toArray n b its2.toArray n2 hlong (by rw [List.size_toArray];omega) ↑5) ⟨e,e2,?_⟩
 rwa[⟨.non,_,I.lset (its':=its++its2) hH e ↑27 (r.append r2) ?_,rfl,q⟩];rw [List.length_append];omega
def Oe:R2:=λx y H Q=>∃l b xs zs,x= .ref l/\y= .ref b/\H l=some (.lst xs)/\H b=some (.lst zs)/\xs.length+zs.length<=sizeLine/\∀p,H p=none->Q (.ref p) (upd H p (.lst (xs++zs)))
theorem Jo:d8 X (binaryOp .Add) Oe:=by
 intro pins s σ H x y v u Q I rx ry h;obtain ⟨l,b,xs,zs,rfl,rfl,hH,hB,hz,q⟩:=h;cases rx;cases ry;obtain ⟨z,its,n,r,hl,e⟩:=I.lstM hH;obtain ⟨z2,its2,n2,r2,hl2,e2⟩:=I.lstM hB;rwa[PySem.P.add_list e e2 ?_ (by rw [List.size_toArray,List.size_toArray];omega)]
 have ea:its.toArray++its2.toArray=(its++its2).toArray:=by simp
 rw [ea];exact ⟨.ref _,_,I.lnew (t':=s.toks) (r.append r2) (by rw [List.length_append];omega),rfl,q _ I.fresh⟩
end
end L2
namespace Att
open PySem PySem.W PySem.Calls PyProof.Rows
theorem qa {P:Params}{h:Heap}:∀(ns:List Int) (vs:List Value),WellAll P h vs (ns.map WData.int)->IntsAre vs ns:=by
 intro ns
 induction ns with
 |nil=>
  intro vs w;rw [List.map_nil] at w;cases w;exact .nil
 |cons n ns ih=>
  intro vs w;rw [List.map_cons] at w
  cases w with
  |cons a b=>
   cases a;exact .cons _ _ (ih _ b)
theorem AB {l:OpenLaw}{n:Nat}(hn:l.most=some n){P:Params}{h:Heap}{args:List WData}{vals:List Value}
(hpre:l.row.toRowW.claim.pre args=true)(hwl:WellAll P h vals args):
 ∃a vs ns,vals=[Value.ref a]/\args=[WData.list (ns.map WData.int)]/\h.get? a=some {cls:= .type "list",data:= .seq vs.toArray}/\IntsAre vs ns/\ns.length<=n:=by
 have hsh:WShape.hasAll [] args [.list .int]=true:=(pre_splitW hpre).1;have hc:l.pre.holds [] {args:=args}=true:=(pre_splitW hpre).2;obtain ⟨d,r,rfl,h1,h2⟩:=hasAllW_cons hsh;obtain rfl:=hasAllW_nil h2;obtain ⟨xs,rfl,h3⟩:=hasW_list h1;obtain ⟨ns,rfl⟩:=items_int h3
 have hlen:ns.length<=n:=by
  unfold OpenLaw.pre at hc
  have h4:(WTm.not (.lt (.lit (.int (n:Int))) (.len (.arg 0)))).holds [] {args:=[.list (ns.map .int)]}=true:=by
   have h4:=(holds_andW hc).1;rw [hn] at h4;exact h4
  have h5:=condW_of h4 (w_not (w_lt w_lit (w_len_list (w_arg rfl))));rw [List.length_map] at h5;rwa[Nat.le_of_not_lt λq=> ?_]
  have q':(n:Int)<((ns.length:Nat):Int):=by omega
  first
   |(rw [decide_eq_true q'] at h5;exact absurd h5 ↑1)
   |(simp at h5;omega)
 cases hwl with
 |cons w1 w2=>
  cases w2
  cases w1 with
  |list ho hall=>exact ⟨_,_,ns,rfl,rfl,ho,qa ns _ hall,hlen⟩
theorem AN (l:OpenLaw)(args:List WData):l.row.toRowW.claim.post args (.bool true) args=true:=
 postW_of (r:=l.row.toRowW) (X:=(true==true))
  (show WShape.has [] (.bool true) .bool=true by first|rfl|decide|simp [WShape.has,WShape.arms,WShape.armsAll])
  (show (WTm.eq .res (.lit (.bool true))).value [] {args:=args,res:=some (.bool true),after:=args}=some (.bool (true==true)) from w_eq_bool (w_res rfl) w_lit) rfl
end Att
namespace L2
open PySem PySem.Spec PyProof.Rows
theorem ub:∀ {vs:List Value} {ns:List Int},IntsAre vs ns->bo (ns.map V.int) vs
 |_,_,.nil=> .nil
 |_,_,.cons n t h=> .cons ⟨t,rfl⟩ (ub h)
def MP (H:Hp):Prop:=∀b,H b=none\/∃o xs,H b=some (.frz o (.lst xs))
theorem D7 {P:Program}{w:World}{K:Fg}{mg mb:Str->Option Value}{CX:qw}{k:Nat}{fa a:Addr}{fd:FuncData}{x:Str}{sp:Sp}{s₁:Shared}{vs:List Value}{ns:List Int}
(KX:K.In s₁.heap)(hns:s₁.heap.Ns mainGlobals mg)(hb:s₁.heap.Ns builtinsNs mb)(hbb:∀x:Str,x≠"__name__"->mb x=bootBuiltins x)(hlim:s₁.heap.NoLimit)(hg:s₁.gens= #[])
(ha:s₁.heap.get? a=some {cls:= .type "list",data:= .seq vs.toArray})(hi:IntsAre vs ns)(hl:ns.length<=sizeLine)(hr:dH k callerA)
(F:∀base:Heap,K.In base->base.Ns mainGlobals mg->aQ P w K mg base CX k fa fd [x] sp)(hbind:∀(s:Shared) (u:Value),BindsTo s fd ⟨[u],[]⟩ [(x,u)])
(hsp:∀H:Hp,MP H->aN K H a (ns.map V.int)->sp [.ref a] H (λv _=>v= .bl true) λ_ _ _=>False)
(hCX:∀H e s',CX [] H s₁ (λ_ _ _=>False) e s'->False):
 codeAny (model P w) callerA (.call (.ref fa) ⟨[.ref a],[]⟩) (λr s'=>r= .ok (.ret (.bool true))/\OldK s₁.heap s'.heap/\s'.os=s₁.os/\AllBare s'.gens) s₁:=by
 have rv:=ub hi;have lenV:=hi.length
 have core:∀H:Hp,MP H->aN K H a (ns.map V.int)->io P w H s₁.heap->(∀b,H b≠none->b=a)->(H a≠none->K.lookup a=none)->
  codeAny (model P w) callerA (.call (.ref fa) ⟨[.ref a],[]⟩) (λr s'=>r= .ok (.ret (.bool true))/\OldK s₁.heap s'.heap/\s'.os=s₁.os/\AllBare s'.gens) s₁:=by
  intro H hO hS hok hA hK;have base_of:∀ {b:Addr} {o:Obj},s₁.heap.get? b=some o->H b=none->(wk s₁.heap H).get? b=some o:=λe n=>Ed e n
  have noA:∀ {b:Addr} {o:Obj} {es:Array DictEntry} {ep:Nat},s₁.heap.get? b=some o->o.data= .dict es ep->H b=none:=λ{b o es ep} e d=>by
   cases q:H b with
   |none=>rfl
   |some u=>
    have e':b=a:=hA b (by rw [q];simp);subst e';rw [ha] at e;cases e;have d':Data.seq vs.toArray _=Data.dict es ep:=d;cases d'
  have nsK:∀ {b:Addr} {m:Str->Option Value},s₁.heap.Ns b m->(wk s₁.heap H).Ns b m:=λ{b m} ⟨o,es,ep,e,d,r⟩=>⟨o,es,ep,base_of e (noA e d),d,r⟩
  have hKb:K.In (wk s₁.heap H):=λb o e=>base_of (KX b o e) (by
   cases q:H b with
   |none=>rfl
   |some u=>
    have e':b=a:=hA b (by rw [q];simp);subst e'
    rw [hK (by rw [q];simp)] at e;cases e)
  have hM:Mod K mg (wk s₁.heap H):=⟨hKb,nsK hns,⟨mb,nsK hb,hbb⟩,let ⟨mc,h1,h2⟩:=hlim;⟨mc,nsK h1,h2⟩⟩;have e0:wM P w K mg (wk s₁.heap H) callerA [] s₁ H:=⟨rfl,hM,λb o e=>Gq e,Nat.le_of_eq (Bu _ _),trivial,λb hb=>absurd (show b∈([]:List Addr) from hb) ↑27,hok,.of_eq hg⟩;rwa[codeAny_mono ((F _ hKb (nsK hns)).run callerA [] s₁ H ⟨[.ref a],[]⟩ [.ref a] [.ref a] _ _ hr e0 (hbind s₁ (.ref a)) (.cons rfl .nil) (hsp H hO hS)) λr s' h=> ?_]
  cases r with
  |error e=>exact (hCX H e s' h).elim
  |ok fl=>
   cases fl with
   |next=>exact False.elim h
   |brk=>exact False.elim h
   |cont=>exact False.elim h
   |ret u=>
    obtain ⟨v,H',os,bare,un,hok',r',q⟩:=h;have q':v= .bl true:=q;subst q';obtain rfl:u=Value.bool true:=r';rwa[⟨rfl,OldK.of_keep λb o e=> ?_,os,bare⟩]
    cases q:H b with
    |none=>exact un.keep b o e q (by intro z;exact absurd (show b∈([]:List Addr) from z) ↑27) ↑27
    |some u=>
     rcases hO b with z|⟨ob,xs,z⟩
     ·rw [q] at z;cases z
     ·have z2:=un.frzs b ob _ z;obtain ⟨e1,_⟩:=hok b _ z;obtain ⟨e2,_⟩:=hok' b _ z2;rw [e] at e1;cases e1;exact e2
 cases hk:K.lookup a with
 |some o=>
  have e:=KX a o hk;rw [ha] at e;cases e;rwa[core (λ_=>none) (λ_=> .inl rfl) (.inr ⟨_,vs.toArray,_,hk,rfl,rfl,rfl,by rw [List.size_toArray,lenV];exact hl,by simpa using rv⟩) (λb u z=>by have z':(none:Option HO)=some u:=z;cases z') (λb z=>absurd rfl z) λz=>absurd rfl z]
 |none=>
  rwa[core (λb=>if b=a then some (.frz {cls:= .type "list",data:= .seq vs.toArray} (.lst (ns.map V.int))) else none) (λb=> ?_) (.inl (.inr ⟨{cls:= .type "list",data:= .seq vs.toArray},if_pos rfl⟩)) (λb u z=> ?_) (λb z=> ?_) λ_=>hk]
  ·by_cases hb:b=a
   ·exact .inr ⟨_,_,if_pos hb⟩
   ·exact .inl (if_neg hb)
  ·by_cases hb:b=a
   ·have z':=(if_pos hb).symm.trans z;cases z';subst hb;exact ⟨ha,by rw [List.length_map];exact hl,vs,_,rv,ha⟩
   ·have z':=(if_neg hb).symm.trans z;cases z'
  ·by_cases hb:b=a
   ·exact hb
   ·exact absurd (if_neg hb) z
def hZ (s:Stmt):Arguments:=match s with
 | .FunctionDef _ a _ _ _ _ _ _ _ _=>a
 |_=> {posonlyargs:=[],args:=[],vararg:=none,kwonlyargs:=[],kw_defaults:=[],kwarg:=none,defaults:=[]}
def fQ (s:Stmt):List Stmt:=match s with
 | .FunctionDef _ _ b _ _ _ _ _ _ _=>b
 |_=>[]
def ap (s:Stmt):Scope:=match s with
 | .FunctionDef _ _ _ _ _ _ sc _ _ _=>sc
 |_=> {kind:= .function,names:=[],isGenerator:=false,isCoroutine:=false}
abbrev b8:qw:=λ_ _ _ _ _ _=>False
abbrev E0:XK:=λ_ _ _=>False
theorem pN {X:Cx}:ju b8 X E0:=λ_ _ _ _ _ _ _ h=>h.elim
structure bY (K:Fg)(x qual:Str)(st:Stmt)(f:Addr)(fd:FuncData):Prop where
 ex:∃(oc:Value) (od:Option Addr) (kV doc pm:Value) (an:Option Addr) (cdv ct:Value) (osl:Array (Option Value)),
  fd=W.fnOf x qual (hZ st) (fQ st) (ap st) .none kV doc pm an cdv ct/\K.lookup f=some ⟨oc,od,.func fd,osl⟩/\W.codeIn K cdv qual=true
 kp:W.keepIn K (.ref f)=true
section
variable {P:Program}{w:World}{K:Fg}{mg:Str->Option Value}{base:Heap}
theorem bY.ok {x qual:Str}{st:Stmt}{f:Addr}{fd:FuncData}{N ps:List Str}{k:Nat}{sp:Sp}(F:bY K x qual st f fd)(S:ay N ps (ap st))(len:∀vs H Q E,sp vs H Q E->vs.length=ps.length)
(hbody:∀(cdv:Value) (A:Around) (outer:List Env) (s:Shared) (H:Hp) (vs:List V) (Q:VK) (E:XK),dH k (A.deeper (envOfC qual (ap st) s.heap.objs.size f cdv))->sp vs H Q E->
   ∃t,tK (sr b8 P w K mg base N qual (ap st) f cdv A outer s H E).nox (fQ st) t/\t {nx:=λ_ H'=>Q .non H',rt:=Q} (start N vs) H):aQ P w K mg base b8 (k+1) f fd ps sp:=by
 obtain ⟨oc,od,kV,doc,pm,an,cdv,ct,osl,rfl,lk,hcd⟩:=F.ex;rwa[Hw lk hcd S len λA outer s H vs Q E hr hsp=> ?_];obtain ⟨t,h,q⟩:=hbody cdv A outer s H vs Q E hr hsp;exact ⟨t,h.nox,q⟩
theorem bY.binds {x qual:Str}{st:Stmt}{f:Addr}{fd:FuncData}{ps:List Str}(F:bY K x qual st f fd)
(h:∀(kV doc pm:Value) (an:Option Addr) (cdv ct:Value) (us:List Value),us.length=ps.length->bindArgs (W.fnOf x qual (hZ st) (fQ st) (ap st) .none kV doc pm an cdv ct) ⟨us,[]⟩=pure (ps.zip us)):gd K fd ps []:=by
 obtain ⟨oc,od,kV,doc,pm,an,cdv,ct,osl,rfl,lk,hcd⟩:=F.ex;exact .all (h kV doc pm an cdv ct)
theorem Eh {x qual:Str}{st:Stmt}{f:Addr}{oc:Value}{od an:Option Addr}{osl:Array (Option Value)}{kV doc pm cdv ct:Value}(l:K.lookup f=some ⟨oc,od,.func (W.fnOf x qual (hZ st) (fQ st) (ap st) .none kV doc pm an cdv ct),osl⟩)
(c:W.codeIn K cdv qual=true)(k:W.keepIn K (.ref f)=true):bY K x qual st f (W.fnOf x qual (hZ st) (fQ st) (ap st) .none kV doc pm an cdv ct):=⟨⟨oc,od,kV,doc,pm,an,cdv,ct,osl,rfl,l,c⟩,k⟩
end
theorem bX {A:Around}{k:Nat}(hr:dH k A):A.units+1<cLine:=Nat.lt_of_le_of_lt (Nat.add_le_add_left (by decide:1<=64) _) hr.units
def ar (H H':Hp):Prop:=∀b o,H b=some o->H' b=some o
theorem ar.refl (H:Hp):ar H H:=λ_ _ h=>h
theorem ar.trans {H H1 H2:Hp}(a:ar H H1)(b:ar H1 H2):ar H H2:=λc o h=>b c o (a c o h)
theorem ar.free {H H':Hp}(e:ar H H'){l:Addr}(h:H' l=Option.none):H l=Option.none:=by
 cases q:H l with
 |none=>rfl
 |some o=>
  rw [e l o q] at h;cases h
theorem ar.seq {K:Fg}{H H':Hp}{a:Addr}{xs:List V}(e:ar H H')(h:aN K H a xs):aN K H' a xs:=by
 rcases h with (h|⟨o,h⟩)|h
 ·exact .inl (.inl (e _ _ h))
 ·exact .inl (.inr ⟨o,e _ _ h⟩)
 ·exact .inr h
def fY (cells:List (Str×Addr)):List (Str×NameKind)->List (Str×Addr)->List (Str×Addr)
 |[],cs=>cs
 |(n,.free)::r,cs=>fY cells r (match cells.lookup n with|some a=>(n,a)::cs|none=>cs)
 |(_,_)::r,cs=>fY cells r cs
theorem oU {cells:List (Str×Addr)}{n:Str}{r:List (Str×NameKind)}{cs:List (Str×Addr)}{a:Addr}(h:cells.lookup n=some a):fY cells ((n,.free)::r) cs=fY cells r ((n,a)::cs):=by
 show fY cells r (match cells.lookup n with|some a=>(n,a)::cs|none=>cs)=_;rw [h]
theorem jm {cells:List (Str×Addr)}{n:Str}{k:NameKind}{r:List (Str×NameKind)}{cs:List (Str×Addr)}(h:k≠ .free):fY cells ((n,k)::r) cs=fY cells r cs:=by
 cases k<;>first|rfl|exact absurd rfl h
theorem nq {cells:List (Str×Addr)}:∀ {l:List (Str×NameKind)} {cs:List (Str×Addr)},(∀p∈cs,cells.lookup p.1=some p.2)->∀p∈fY cells l cs,cells.lookup p.1=some p.2
 |[],_,h=>h
 |(n,k)::r,cs,h=>by
  by_cases hk:k= .free
  ·subst hk
   cases e:cells.lookup n with
   |none=>
    have:fY cells ((n,.free)::r) cs=fY cells r cs:=by
     show fY cells r (match cells.lookup n with|some a=>(n,a)::cs|none=>cs)=_;rw [e]
    rw [this];exact nq h
   |some a=>
    rw [oU e];rwa[nq λp hp=> ?_]
    rcases List.mem_cons.mp hp with rfl|hp
    ·exact e
    ·exact h p hp
  ·rw [jm hk];exact nq h
theorem jo {cells:List (Str×Addr)}:∀ {l:List (Str×NameKind)} {cs:List (Str×Addr)} {p:Str×Addr},p∈cs->p∈fY cells l cs
 |[],_,_,h=>h
 |(n,k)::r,cs,p,h=>by
  by_cases hk:k= .free
  ·subst hk;show p∈fY cells r (match cells.lookup n with|some a=>(n,a)::cs|none=>cs)
   cases e:cells.lookup n with
   |none=>exact jo h
   |some a=>exact jo (List.mem_cons_of_mem _ h)
  ·rw [jm hk];exact jo h
theorem sK {cells:List (Str×Addr)}{x:Str}{c:Addr}(hc:cells.lookup x=some c):∀ {l:List (Str×NameKind)} {cs:List (Str×Addr)},(x,NameKind.free)∈l->(x,c)∈fY cells l cs
 |(n,k)::r,cs,h=>by
  rcases List.mem_cons.mp h with e|h2
  ·cases e;rw [oU hc];exact jo List.mem_cons_self
  ·by_cases hk:k= .free
   ·subst hk;show (x,c)∈fY cells r (match cells.lookup n with|some a=>(n,a)::cs|none=>cs);exact sK hc h2
   ·rw [jm hk];exact sK hc h2
theorem lh {α β:Type}[BEq α][LawfulBEq α]{x:α}{c:β}:∀ {l:List (α×β)},(x,c)∈l->∃d,l.lookup x=some d
 |(n,a)::r,h=>by
  cases e:x==n with
  |true=>exact ⟨a,by simp only [List.lookup_cons,e]⟩
  |false=>
   rcases List.mem_cons.mp h with q|q
   ·cases q;simp at e
   ·obtain ⟨d,hd⟩:=lh q;exact ⟨d,by simp only [List.lookup_cons,e];exact hd⟩
theorem oS {cells:List (Str×Addr)}{l:List (Str×NameKind)}{x:Str}{c:Addr}(h:(fY cells l []).lookup x=some c):cells.lookup x=some c:=
 nq (l:=l) (cs:=[]) (λ_ hp=>absurd hp ↑27) (x,c) (PySem.mem_of_lookup h)
theorem Ey {cells:List (Str×Addr)}{l:List (Str×NameKind)}{x:Str}{c:Addr}(hc:cells.lookup x=some c)(h:(x,NameKind.free)∈l):(fY cells l []).lookup x=some c:=by
 obtain ⟨d,hd⟩:=lh (sK (cs:=[]) hc h);rw [hd,<-hc,oS hd]
theorem lv {scope:Scope}{env:Env}(h:∀n,(n,NameKind.free)∈scope.names->∃c,env.cells.lookup n=some c):closureFor scope env=pure (fY env.cells scope.names []):=by
 have go:∀(l:List (Str×NameKind)) (cs:List (Str×Addr)),(∀n,(n,NameKind.free)∈l->∃c,env.cells.lookup n=some c)->
  (forIn l cs (λ(x:Str×NameKind) (r:List (Str×Addr))=>match x with
    |(name,kind)=>if (kind==NameKind.free)=true then (do let c<-cellOf env name;pure (ForInStep.yield ((name,c)::r))) else (do pure PUnit.unit;pure (ForInStep.yield r))):Sem (List (Str×Addr)))=pure (fY env.cells l cs):=by
  intro l
  induction l with
  |nil=>intro cs _;rfl
  |cons p r ih=>
   intro cs hl;obtain ⟨n,k⟩:=p;have hr:=ih;by_cases hk:k= .free
   ·subst hk;obtain ⟨c,hc⟩:=hl n List.mem_cons_self;rw [oU hc];rw [<-ih ((n,c)::cs) λm hm=>hl m (List.mem_cons_of_mem _ hm)];rw [List.forIn_cons];simp only [cellOf,hc,beq_self_eq_true,if_true];rfl
   ·rw [jm hk];rw [<-ih cs λm hm=>hl m (List.mem_cons_of_mem _ hm)];rw [List.forIn_cons]
    have hb:(k==NameKind.free)=false:=by simpa using hk
    simp only [hb,Bool.false_eq_true,if_false];rfl
 have e:=go scope.names [] h;unfold closureFor
 first
  |exact congrArg (λm=>m>>=pure) e
  |(simp only [bind_pure];exact e)
  |(rw [show (pure (fY env.cells scope.names []):Sem (List (Str×Addr)))=(pure (fY env.cells scope.names [])>>=pure) from rfl,<-e];rfl)
def bN (X:Cx)(scope:Scope)(N':List Str)(C:Addr)(s:Shared)(H:Hp)(ex:List Addr):Cx where
 prog:=X.prog
 w:=X.w
 K:=X.K
 mg:=X.mg
 base:=X.base
 A:=X.A
 N:=N'
 s₀:=s
 H₀:=H
 env:=compEnvC scope (fY X.env.cells scope.names []) C X.env
 outer:=X.stack
 stack:=X.stack
 ex:=ex
 fn:=λ_=>false
 calm:=X.calm
 pn:=[]
 xe:=λ_ _=>False
structure d9 (X:Cx)(scope:Scope)(N':List Str)(pk:List (Option Nat)):Prop where
 kind:scope.kind= .function
 nocell:∀y∈scope.names,y.2≠ .cell
 loc:∀y∈scope.names,y.2= .local->scope.names.lookup y.1=some .local
 free:∀n,(n,NameKind.free)∈scope.names->X.env.kindOf n=some .cell\/X.env.kindOf n=some .free
 nofl:∀n,(n,NameKind.free)∈scope.names->scope.names.lookup n≠some .local
 pl:pk.length=N'.length
 pn:∀(j i:Nat) (x:Str),pk[j]? =some (some i)->N'[j]? =some x->X.N[i]? =some x/\(x,NameKind.free)∈scope.names
def eU (pk:List (Option Nat))(σ:St):St:=pk.map λo=>o.bind λi=>(σ[i]?).join
theorem rM {scope:Scope}{env:Env}{x:Str}(hn:∀y∈scope.names,y.2≠ .cell)(h:(relabel scope env).names.lookup x=some .cell\/(relabel scope env).names.lookup x=some .free):(x,NameKind.free)∈scope.names:=by
 have go:∀k,(relabel scope env).names.lookup x=some k->(k= .cell\/k= .free)->(x,NameKind.free)∈scope.names:=λk e hk=>by
  have m:=PySem.mem_of_lookup e;obtain ⟨p,hp,e2⟩:=List.mem_map.mp m;obtain ⟨n,k'⟩:=p;dsimp only at e2;by_cases hc:(k'==NameKind.free&&env.scope.kind== .function&&env.kindOf n==some .cell)=true
  ·rw [if_pos hc] at e2
   have hk':k'= .free:=by
    simp only [Bool.and_eq_true] at hc;simpa using hc.1.1
   have en:n=x:=(Prod.mk.inj e2).1;rw [<-en,<-hk'];exact hp
  ·rw [if_neg hc] at e2;have en:n=x:=(Prod.mk.inj e2).1;have ek:k'=k:=(Prod.mk.inj e2).2
   rcases hk with hk|hk
   ·exact absurd (ek.trans hk) (hn _ hp)
   ·rw [<-en,<-hk,<-ek];exact hp
 rcases h with h|h
 ·exact go _ h (.inl rfl)
 ·exact go _ h (.inr rfl)
section
variable {X:Cx}{pins:List ↑20}{σ:St}{H:Hp}{s:Shared}{scope:Scope}{N':List Str}{pk:List (Option Nat)}{fp:List Addr}
theorem G0 (I:aL X pins σ H s)(S:d9 X scope N' pk){C:Addr}(hC:s.heap.objs.size<=C)(hf:∀b∈fp,kz X pins H b)(hfs:∀b∈fp,b<s.heap.objs.size):(bN X scope N' C s H fp).Ok where
 mod:=I.ok.mod
 kind:=S.kind
 glob:=I.ok.glob
 blt:=I.ok.blt
 above:=hC
 inj:=λx y c h1 h2=>I.ok.inj x y c (oS h1) (oS h2)
 has:=λx h=>by
  have m:(x,NameKind.free)∈scope.names:=rM S.nocell h;obtain ⟨c,hc⟩:=I.ok.has x (S.free x m);exact ⟨c,Ey hc m⟩
 cab:=λx c h _=>nomatch h
 hd:=I.ok.hd
 frames:=I.ok.frames
 stk:= .inl rfl
 exf:=λb hb=>⟨Nat.ne_of_lt (Nat.lt_of_lt_of_le (hfs b hb) hC),λx c e=>(hf b hb).2.2.2.2.1 x c (oS e)⟩
 bs:=I.bs
 bsz:=Nat.le_trans I.ok.bsz I.sz
 noex:=λb o e hb=>by
  rcases (hf b hb).2.2.2.1 with z|z
  ·exact I.ok.noex b o e z
  ·exact absurd (Nat.lt_of_lt_of_le (Heap.lt_size e) (Nat.le_trans I.ok.bsz z)) (Nat.lt_irrefl _)
 exfs:=λb hb z=>by
  rcases List.mem_cons.mp (I.stkSub b z) with e|e
  ·exact (hf b hb).2.1 e
  ·exact (hf b hb).2.2.1 e
 funs:=I.stack
 frf:=I.stkFree
theorem Dj {pk:List (Option Nat)}{σ:St}{j:Nat}{v:V}(h:(eU pk σ)[j]? =some (some v)):∃i,pk[j]? =some (some i)/\σ[i]? =some (some v):=by
 unfold eU at h;rw [List.getElem?_map] at h
 cases e:pk[j]? with
 |none=>rw [e] at h;cases h
 |some o=>
  rw [e] at h
  cases o with
  |none=>cases h
  |some i=>
   rwa[⟨i,rfl,?_⟩];have h':(σ[i]?).join=some v:=Option.some.inj h
   cases q:σ[i]? with
   |none=>rw [q] at h';cases h'
   |some z=>rw [q] at h';rw [show z=some v from h']
theorem Ex {s4:Shared}{C D:Addr}{od:Obj}(I:aL X pins σ H s)(S:d9 X scope N' pk)(hC:s.heap.objs.size<=C)(hf:∀b∈fp,kz X pins H b)(hfs:∀b∈fp,b<s.heap.objs.size)
(hos:s4.os=s.os)(hg:s4.gens=s.gens)(old:∀b o,s.heap.get? b=some o->s4.heap.get? b=some o)(hns:s4.heap.Ns C λ_=>none)(hD:s.heap.objs.size<=D)(hDC:D≠C)(hDo:s4.heap.get? D=some od)(hDd:∀v,od.data≠ .cell v):
 aL (bN X scope N' C s H fp) [(D,od)] (eU pk σ) H s4 where
 ok:=G0 I S hC hf hfs
 os:=hos
 bare:=by rw [hg];exact I.bare
 base:=Un.kept old
 loc:=⟨_,hns,λj x v h1 h2 h3=>by
  obtain ⟨i,e1,e2⟩:=Dj h2;obtain ⟨hN,hm⟩:=S.pn j i x e1 h1;obtain ⟨m,hn,hl⟩:=I.loc;have hk:=S.free x hm;obtain ⟨c,hc⟩:=I.ok.has x hk
  have hv:MM X.env.scope x:=by
   rcases hk with k|k
   ·exact .inr (.inl k)
   ·exact .inr (.inr k)
  obtain ⟨u,r,l⟩:=hl i x v hN e2 hv;rwa[⟨u,r,.inr ⟨?_,c,Ey hc hm,?_⟩⟩]
  ·rcases h3 with h3|h3|h3
   ·exfalso;have h3':(relabel scope X.env).names.lookup x=some .local:=h3;obtain ⟨p,hp,e⟩:=List.mem_map.mp (PySem.mem_of_lookup h3');obtain ⟨n,k'⟩:=p;dsimp only at e;by_cases hcnd:(k'==NameKind.free&&X.env.scope.kind== .function&&X.env.kindOf n==some .cell)=true
    ·rw [if_pos hcnd] at e;exact nomatch (Prod.mk.inj e).2
    ·rw [if_neg hcnd] at e;have en:n=x:=(Prod.mk.inj e).1;have ek:k'= .local:=(Prod.mk.inj e).2;have q:=S.loc _ hp ek;have q2:(relabel scope X.env).names.lookup x=some .local:=h3';exact S.nofl x hm (by rw [<-en];exact q)
   ·exact .inl h3
   ·exact .inr h3
  ·rcases l with ⟨k,_⟩|⟨_,c',e,z⟩
   ·rcases hk with k'|k'<;>(rw [k'] at k;cases k)
   ·rw [hc] at e;cases e;obtain ⟨o,ho,hd⟩:=z
    exact ⟨o,old _ _ ho,hd⟩⟩
 cell:=λx c h=>by
  obtain ⟨v,o,ho,hd⟩:=I.cell x c (oS h);exact ⟨v,o,old _ _ ho,hd⟩
 free:=I.hok.fresh hC
 freeC:=λx c h=>I.freeC x c (oS h)
 pin:=λp hp=>by
  have e:p=(D,od):=by simpa using (show p∈([]:List ↑20)++[(D,od)] from hp)
  subst e;rwa[⟨hDo,I.hok.fresh hD,hDC,λz=> ?_,hDd⟩];obtain ⟨_,o,ho,_⟩:=I.stack.mem z;exact absurd (Nat.lt_of_lt_of_le (Heap.lt_size ho) hD) (Nat.lt_irrefl _)
 hok:=I.hok.kept old
 len:=by unfold eU;rw [List.length_map];exact S.pl
end
theorem zJ {prog:Program}{w:World}{A:Around}{E:Value->Shared->Prop}{s:Shared}{l:Addr}{its:Array Value}{n:Nat}{x:Value}{Q:Value->Shared->Prop}
(e:s.heap.get? l=some {cls:= .type "list",data:= .seq its n})(hsz:its.size<=sizeLine)
(hQ:∀h' n',h'.get? l=some {cls:= .type "list",data:= .seq (its.push x) n'}->Heap.SameBut l s.heap h'->Q .none {s with heap:=h'}):
 wpAny ↑38 A (call (.builtin "list.append") [.ref l,x]) Q E s:=by
 have hl:s.heap.IsList l its:=PySem.IsL.isList e;rwa[wpAny_call_entry slot_list_append hl.typeIs entry_list_append ?_ (args_list_append _ _)];show wpAny _ _ (updateSeq l (·.push x)>>=λ_=>ret .none) _ _ s;rwa[wpAny_bind ?_];have q:(s.heap.update l (Obj.mapSeq (·.push x))).get? l=some (Obj.mapSeq (·.push x) {cls:= .type "list",data:= .seq its n}):=Heap.get?_update_self _ e rfl;exact wpAny_updateSeq e rfl (wpAny_pure ⟨.none,rfl,hQ _ _ q (Heap.SameBut.update ..)⟩)
section
variable {X:Cx}{pins:List ↑20}{σ:St}{H H':Hp}{s s':Shared}{scope:Scope}{N':List Str}{pk:List (Option Nat)}{fp:List Addr}
theorem io.track {P:Program}{w:World}{H:Hp}{h:Heap}{a:Addr}{o:HO}(x:io P w H h)(hn:H a=none)(new:bS P w (upd H a o) h a o):io P w (upd H a o) h:=λb u e=>by
 by_cases hb:b=a
 ·subst hb;rw [aj] at e;cases e;exact new
 ·rw [am hb] at e
  exact (x b u e).stay (λc v _ q=>q) (λc q=>by rw [am (bQ q hn)];exact q) λc xs q=>by rw [am (bQ q hn)];exact q
theorem io.but {P:Program}{w:World}{H:Hp}{h h':Heap}{a:Addr}(x:io P w H h)(hn:H a=none)(k:∀b o,b≠a->h.get? b=some o->h'.get? b=some o):io P w H h':=λb u e=>
 (x b u e).stay (λc v hc q=>k c v (by
   rcases hc with rfl|hc
   ·exact λz=>by rw [z,hn] at e;cases e
   ·exact bQ hc hn) q) (λ_ q=>q) λ_ _ q=>q
theorem Ew {C D:Addr}{h':Heap}{ys:List V}{its:List Value}{n:Nat}{σ':St}{pins':List ↑20}(I:aL X pins σ H s)(hf:∀b∈fp,kz X pins H b)
(J:aL (bN X scope N' C s H fp) pins' σ' H' s')(hC:s.heap.objs.size<=C)(hD:s.heap.objs.size<=D)(hDC:D≠C)(hDn:H' D=none)(e:s'.heap.get? D=some {cls:= .type "list",data:= .seq its.toArray n})(r:bo ys its)
(hz:ys.length<=sizeLine)(sb:Heap.SameBut C s'.heap h'):aL X pins σ (upd H' D (.lst ys)) {s' with heap:=h'}:=by
 have u:Un (wP X.stack) fp H H' s.heap s'.heap:=J.base;have keep:∀b o,b≠C->s'.heap.get? b=some o->h'.get? b=some o:=λb o hb q=>(sb.2 b hb).trans q;have old:∀b o,s.heap.get? b=some o->b≠C/\b≠D:=λb o q=>⟨Nat.ne_of_lt (Nat.lt_of_lt_of_le (Heap.lt_size q) hC),Nat.ne_of_lt (Nat.lt_of_lt_of_le (Heap.lt_size q) hD)⟩;have hCn:H' C=none:=J.free
 have hok:io X.prog X.w (upd H' D (.lst ys)) h':=by
  rwa[io.but (a:=C) (io.track (h:=s'.heap) J.hok hDn ⟨hz,its,n,r,e⟩) ?_ keep];rw [am (Ne.symm hDC)];exact hCn
 rwa[I.call' (s':= {s' with heap:=h'}) (ch:=fp) J.os ?_ hok J.bare λb hb=>⟨(hf b hb).2.2.2.1,(hf b hb).2.1,(hf b hb).2.2.2.2.1,(hf b hb).2.2.2.2.2⟩];rwa[⟨λb o q n hb hx=> ?_,λb o q n hb hx=> ?_,λb o q n hx=> ?_,λb o q hx=> ?_,λb xs q=> ?_,λb o xs q=> ?_,λb ps q=> ?_⟩]
 ·exact keep b o (old b o q).1 (u.keep b o q n hb hx)
 ·obtain ⟨sl,z⟩:=u.slot b o q n hb hx;exact ⟨sl,keep b _ (old b o q).1 z⟩
 ·rw [am (old b o q).2];exact u.free b o q n hx
 ·obtain ⟨o',z⟩:=u.there b o q hx;exact ⟨o',keep b o' (old b o q).1 z⟩
 ·have z:=u.tups b xs q;rw [am (bQ z hDn)];exact z
 ·have z:=u.frzs b o xs q;rw [am (bQ z hDn)];exact z
 ·obtain ⟨m,z⟩:=u.tbls b ps q;exact ⟨m,by rw [am (bQ z hDn)];exact z⟩
end
def E2 (X:Cx)(es:List Expr)(t:TT):Prop:=
 ∀(pins:List ↑20) (s:Shared) (σ:St) (H:Hp) (Q:Bool->Hp->Prop),aL X pins σ H s->t σ H Q->
  wpAny ↑9 X.A (forIn es true λc r=>if r=true then do let ok<-isTrue c X.env (eval c X.env);pure (ForInStep.yield ok) else pure (ForInStep.yield r)) (TP X pins σ Q) X.xe s
def NU:TT:=λ_ H Q=>Q true H
theorem bE {X:Cx}:E2 X [] NU:=λpins s σ H Q I h=>wpAny_tests_nil ⟨H,I,h⟩
theorem fO {X:Cx}{c:Expr}{t:TT}(h:PT X c t):E2 X [c] t:=λpins s σ H Q I hq=>wpAny_tests_one (h pins s σ H Q I hq)
def wL (σ σ':St):Prop:=σ'.length=σ.length/\∀(i:Nat) v,σ[i]? =some (some v)->σ'[i]? =some (some v)
def Cv (pk:List (Option Nat))(wi:TI)(g:TG)(tt:TT)(te:TE):TE:=λσ H Q=>wi σ H λJ H1=>∃W:Nat->Nat->List V->Hp->Prop,(∃m,W 0 m [] H1)/\∀i m ys H,W i m ys H->
 (J.stop i H/\ys.length<=sizeLine/\∀p,H p=none->Q (.ref p) (upd H p (.lst ys)))\/
 (J.go i H/\ys.length<sizeLine/\∃N:List V->Hp->Prop,(∀zs H',N zs H'->∃m',m'<m/\W (i+1) m' zs H')/\∀x H',J.yld i H x H'->g x (eU pk σ) H' λσ2 H2=>wL (eU pk σ) σ2/\tt σ2 H2 λb H3=>
   if b=true then te σ2 H3 λv H4=>N (ys++[v]) H4 else N ys H3)
structure EK (P:Program)(w:World)(K:Fg)(A₀:Around)(c:Bool)(tg:Expr)(J:It)(fp:List Addr)(it:Addr)(tn:Nat->Heap->Prop):Prop where
 mem:it∈fp
 obj:∀i h,tn i h->∀b∈fp,∃o,h.get? b=some o/\∀v,o.data≠ .cell v
 keep:∀i h h',tn i h->(∀b∈fp,∀o,h.get? b=some o->h'.get? b=some o)->tn i h'
 item:∀(X:Cx),X.prog=P->X.w=w->X.K=K->X.A=A₀->X.calm=c->∀(i:Nat) (pins:List ↑20) (s:Shared) (σ:St) (H:Hp) (E:Value->Shared->Prop),aL X pins σ H s->(∀b∈fp,kz X pins H b)->tn i s.heap->J.go i H->
  wpAny (model P w) X.A (pyNext (.ref it)) (λr s1=>∃u,r=some u/\
   wpAny (model P w) X.A (letOwnedTupleGo tg (.ref it) u) (λ_ s2=>∃x H',aL X pins σ H' s2/\bp x u/\J.yld i H x H'/\tn (i+1) s2.heap/\∀b∈fp,H' b=none) E s1) E s
 done:∀(X:Cx),X.prog=P->X.w=w->X.K=K->X.A=A₀->X.calm=c->∀(i:Nat) (pins:List ↑20) (s:Shared) (σ:St) (H:Hp) (E:Value->Shared->Prop),aL X pins σ H s->(∀b∈fp,kz X pins H b)->tn i s.heap->J.stop i H->
  wpAny (model P w) X.A (pyNext (.ref it)) (λr s1=>r=none/\aL X pins σ H s1) E s
 self:∀(A:Around) (i:Nat) (s:Shared) (Q:Value->Shared->Prop) (E:Value->Shared->Prop),tn i s.heap->Q (.ref it) s->wpAny (model P w) A (pyIter (.ref it)) Q E s
theorem wK.toA {P:Program}{w:World}{K:Fg}{A₀:Around}{c:Bool}{tg:Expr}{J:It}{fp:List Addr}{it:Addr}{tn:Nat->Heap->Prop}(T:wK P w K tg J fp it tn)(hc:c=true):EK P w K A₀ c tg J fp it tn:=
 ⟨T.mem,T.obj,T.keep,λX h1 h2 h3 _ h5=>T.item X h1 h2 h3 (h5.trans hc),λX h1 h2 h3 _ h5=>T.done X h1 h2 h3 (h5.trans hc),T.self⟩
def OS (X:Cx)(pins:List ↑20)(σ:St)(tg:Expr)(R:It->Hp->Prop)(itv:Value)(s2:Shared):Prop:=
 ∃(it:Addr) (fp:List Addr) (tn:Nat->Heap->Prop) (J:It) (H':Hp),itv= .ref it/\aL X pins σ H' s2/\EK X.prog X.w X.K X.A X.calm tg J fp it tn/\tn 0 s2.heap/\(∀b∈fp,kz X pins H' b)/\R J H'
def O1 (X:Cx)(tg iter:Expr)(t:TI):Prop:=
 ∀(pins:List ↑20) (s:Shared) (σ:St) (H:Hp) (R:It->Hp->Prop),aL X pins σ H s->t σ H R->
  wpAny ↑9 X.A (eval iter X.env) (λv s1=>wpAny ↑9 X.A (pyIter v) (OS X pins σ tg R) X.xe s1) X.xe s
theorem PI.toA {X:Cx}{tg iter:Expr}{t:TI}(h:PI X tg iter t)(hc:X.calm=true):O1 X tg iter t:=λpins s σ H R I q=>
 b4 (h pins s σ H R I q) λv s1 h1=>b4 h1 λitv s2 ⟨it,fp,tn,J,H2,e,I2,T,r⟩=>⟨it,fp,tn,J,H2,e,I2,T.toA hc,r⟩
set_option maxHeartbeats 4000000 in
theorem su {X:Cx}{pins:List ↑20}{σ:St}{H:Hp}{s2:Shared}{scope:Scope}{N':List Str}{pk:List (Option Nat)}{fp:List Addr}{tg elt iter:Expr}{ifs:List Expr}{pos:Pos}{g:TG}{tt:TT}{te:TE}
{J:It}{it:Addr}{tn:Nat->Heap->Prop}{R:Value->Addr->Result->Shared->Prop}{E:Value->Shared->Prop}{Q:VK}
(S:d9 X scope N' pk)(hg:∀C s H ex,PG ↑40 tg g)(ht:∀C s H ex,E2 ↑40 ifs tt)(he:∀C s H ex,PE ↑40 elt te)
(I:aL X pins σ H s2)(T:EK X.prog X.w X.K X.A X.calm tg J fp it tn)(st:tn 0 s2.heap)(hf:∀b∈fp,kz X pins H b)
(hW:∃W:Nat->Nat->List V->Hp->Prop,(∃m,W 0 m [] H)/\∀i m ys H,W i m ys H->
   (J.stop i H/\ys.length<=sizeLine/\∀p,H p=none->Q (.ref p) (upd H p (.lst ys)))\/
   (J.go i H/\ys.length<sizeLine/\∃N:List V->Hp->Prop,(∀zs H',N zs H'->∃m',m'<m/\W (i+1) m' zs H')/\∀x H',J.yld i H x H'->g x (eU pk σ) H' λσ2 H2=>wL (eU pk σ) σ2/\tt σ2 H2 λb H3=>
     if b=true then te σ2 H3 λv H4=>N (ys++[v]) H4 else N ys H3))
(hR:∀(C D:Addr) (s':Shared) (ys:List V) (H':Hp),(∃m,s'.heap.Ns C m)->Q (.ref D) (upd H' D (.lst ys))->(∀h',Heap.SameBut C s'.heap h'->aL X pins σ (upd H' D (.lst ys)) {s' with heap:=h'})->s2.heap.objs.size<=C->upd H' D (.lst ys) C=none->
   R (.ref D) C (.ok .next) s'):
 wpAny ↑9 X.A (newList []) (λacc s₃=>wpAny ↑9 X.A (newFunctionEnv scope X.env.globals (fY X.env.cells scope.names []) [] X.env.qual none .none (some X.env)) (λcenv s₄=>
  codeAny ↑9 X.A (.compStart (.ListComp elt [⟨tg,iter,ifs,0⟩] scope pos) 0 (.ref it) acc {cenv with scope:=relabel scope X.env}) (R acc cenv.locals) s₄) E s₃) E s2:=by
 obtain ⟨W,⟨m0,w0⟩,turn⟩:=hW;rwa[wpAny_newObj_type (wpAny_newFunctionEnv S.nocell (by intro y hy;simp at hy) (λh₁ hns₁ hsb₁=> ?_) S.kind)];dsimp only at hns₁ hsb₁ ⊢;generalize hH2:s2.heap.push {cls:= .type "list",dict:=none,data:= .seq ([]:List Value).toArray}=H2 at hns₁ hsb₁ ⊢
 have hC:H2.objs.size=s2.heap.objs.size+1:=by rw [<-hH2,Heap.size_push]
 have hDC:s2.heap.objs.size≠H2.objs.size:=by rw [hC];exact Nat.ne_of_lt (Nat.lt_succ_self _)
 have hCle:s2.heap.objs.size<=H2.objs.size:=by rw [hC];exact Nat.le_succ _
 have old:∀b o,s2.heap.get? b=some o->h₁.get? b=some o:=λb o e=>
  hsb₁.extBut b o (Nat.ne_of_lt (Nat.lt_of_lt_of_le (Heap.lt_size e) hCle)) (Heap.get?_push_of_some _ (hH2▸Heap.get?_push_of_some _ e))
 have hacc:h₁.get? s2.heap.objs.size=some {cls:= .type "list",data:= .seq ([]:List Value).toArray}:=
  hsb₁.extBut _ _ hDC (Heap.get?_push_of_some _ (hH2▸Heap.get?_push_size _ rfl))
 have hfs:∀b∈fp,b<s2.heap.objs.size:=λb hb=>by
  obtain ⟨o,e,_⟩:=T.obj 0 _ st b hb;exact Heap.lt_size e
 have st1:tn 0 h₁:=T.keep 0 _ _ st λb _ o e=>old b o e;have hLC:X.env.locals≠H2.objs.size:=Nat.ne_of_lt (Nat.lt_of_lt_of_le I.lt hCle);generalize hCe:H2.objs.size=C at *;generalize hDe:s2.heap.objs.size=D at *
 have hDle:s2.heap.objs.size<=D:=by rw [hDe];exact Nat.le_refl _
 have hCle':s2.heap.objs.size<=C:=by rw [hDe];exact hCle
 have loop:∀s₃:Shared,s₃= {s2 with heap:=h₁,toks:=s2.toks+([]:List (Str×Value)).length}->
  codeAny ↑9 X.A (.compLoop (.ListComp elt [⟨tg,iter,ifs,0⟩] scope pos) 0 (.ref it) (.ref D) (compEnvC scope (fY X.env.cells scope.names []) C X.env)) (R (.ref D) C) s₃:=by
  rintro s₃ rfl
  refine codeAny_loop rfl (λn s'=>∃i H' ys its k,aL (bN X scope N' C s2 H fp) [(D,{cls:= .type "list",data:= .seq its k})] (eU pk σ) H' s'/\bo ys its.toList/\tn i s'.heap/\(∀b∈fp,H' b=none)/\W i n ys H') ?_ m0
   ⟨0,H,[],#[],0,Ex I S hCle' hf (λb hb=>by rw [hDe];exact hfs b hb) rfl rfl old (by simpa using hns₁) hDle hDC hacc (λv z=>nomatch z),.nil,st1,λb hb=>(hf b hb).1,w0⟩
  rintro n s3 ⟨i,H3,ys,its,k,I3,rv3,st3,fr3,w3⟩;show wpAny _ _ ((compTurn (.ListComp elt [⟨tg,iter,ifs,0⟩] scope pos) 0 (.ref it) (.ref D) (compEnvC scope (fY X.env.cells scope.names []) C X.env)).onRaise (λx=>do noteFrame x (compEnvC scope (fY X.env.cells scope.names []) C X.env);theTreesLotGoes x)) _ _ s3;rwa[wpAny_noted ?_];rw [compTurn_list];have never:∀ {α:Type} {t:Sem α} {Q':α->Shared->Prop} {E':Value->Shared->Prop} {s':Shared},wpAny ↑9 X.A t Q' (λ_ _=>False) s'->wpAny ↑9 X.A t Q' E' s':=λh=>wpAny_mono h (λ_ _ x=>x) λ_ _ x=>x.elim
  have fpY:∀ {H':Hp} {pins'},(∀b∈fp,H' b=none)->(∀p∈pins',p.1=D)->∀b∈fp,kz (bN X scope N' C s2 H fp) pins' H' b:=λ{H' pins'} hn hp b hb=>
   ⟨hn b hb,(I3.ok.exf b hb).1,I3.ok.exfs b hb,.inl hb,(I3.ok.exf b hb).2,λp hp' z=>by
     have hp2:p∈pins':=by simpa using (show p∈([]:List ↑20)++pins' from hp')
     have q:=hfs b hb;rw [<-z,hp p hp2] at q
     exact Nat.lt_irrefl _ q⟩
  have onlyD:∀p∈[(D,({cls:= .type "list",data:= .seq its k}:Obj))],p.1=D:=λp hp=>by
   have e:p=(D,({cls:= .type "list",data:= .seq its k}:Obj)):=by simpa using hp
   rw [e]
  have accAt:∀ {pins':List ↑20} {σ' H' s'},aL (bN X scope N' C s2 H fp) pins' σ' H' s'->(D,({cls:= .type "list",data:= .seq its k}:Obj))∈pins'->s'.heap.get? D=some {cls:= .type "list",data:= .seq its k}/\H' D=none:=λ{pins' σ' H' s'} J hm=>by
   obtain ⟨a1,a2,_⟩:=J.pin _ (show (D,({cls:= .type "list",data:= .seq its k}:Obj))∈([]:List ↑20)++pins' by simpa using hm);exact ⟨a1,a2⟩
  rwa[wpAny_bind (wpAny_standAt (wpAny_bind ?_))]
  rcases turn i n ys H3 w3 with ⟨stop,hz,qn⟩|⟨go,hz,N,hN,step⟩
  ·rwa[never (b4 (T.done (bN X scope N' C s2 H fp) rfl rfl rfl rfl rfl i _ s3 _ H3 (λ_ _=>False) I3 (fpY fr3 onlyD) st3 stop) λr s4 ⟨hr,I4⟩=> ?_)];subst hr;rwa[wpAny_pure ?_];obtain ⟨a1,a2⟩:=accAt I4 ↑27;obtain ⟨mC,hnC,_⟩:=I4.loc;exact hR C D s4 ys H3 ⟨mC,hnC⟩ (qn D a2) (λh' sb=>Ew I hf I4 hCle' hDle hDC a2 (its:=its.toList) (n:=k) (by simpa using a1) rv3 hz sb) hCle (by rw [am (Ne.symm hDC)];exact I4.free)
  ·rwa[never (b4 (T.item (bN X scope N' C s2 H fp) rfl rfl rfl rfl rfl i _ s3 _ H3 (λ_ _=>False) I3 (fpY fr3 onlyD) st3 go) λr s4 ⟨u,hr,h4⟩=> ?_)];subst hr;rwa[wpAny_bind (never (b4 h4 λ_ s5 ⟨x,H5,I5,r5,y5,st5,fr5⟩=> ?_))];have I5':=I5.pinned (fpY fr5 onlyD) (T.obj _ _ st5);rwa[wpAny_bind (never (b4 (hg C s2 H fp _ s5 _ H5 x u _ I5' r5 (step x H5 y5)) λ_ s6 ⟨σ6,H6,I6,sup,q6⟩=> ?_))];rwa[wpAny_bind (never (b4 (ht C s2 H fp _ s6 σ6 H6 _ I6 q6) λb s7 ⟨H7,I7,q7⟩=> ?_))]
   have back:∀ {H':Hp} {s':Shared},aL (bN X scope N' C s2 H fp) ([(D,{cls:= .type "list",data:= .seq its k})]++rC fp s5.heap) σ6 H' s'->
    aL (bN X scope N' C s2 H fp) [(D,{cls:= .type "list",data:= .seq its k})] (eU pk σ) H' s'/\tn (i+1) s'.heap/\∀b∈fp,H' b=none:=λ{H' s'} I7=>by
    rwa[⟨I7.unpinned.weak sup.1.symm sup.2,T.keep _ _ _ st5 λb hb o e=>(I7.pin (b,o) (List.mem_append_right _ (List.mem_append_right _ (je hb e)))).1,λb hb=> ?_⟩];obtain ⟨o,e,d⟩:=T.obj _ _ st5 b hb;exact (I7.pin (b,o) (List.mem_append_right _ (List.mem_append_right _ (je hb e)))).2.1
   cases b with
   |false=>
    rw [if_neg Bool.false_ne_true] at q7;obtain ⟨m',hm,w7⟩:=hN _ _ q7;obtain ⟨J7,t7,f7⟩:=back I7;rw [if_neg Bool.false_ne_true]
    first
     |exact wpAny_pure ⟨rfl,m',hm,i+1,H7,ys,its,k,J7,rv3,t7,f7,w7⟩
     |exact wpAny_bind (wpAny_pure (wpAny_pure ⟨rfl,m',hm,i+1,H7,ys,its,k,J7,rv3,t7,f7,w7⟩))
   |true=>
    rw [if_pos rfl] at q7;rw [if_pos rfl];rwa[wpAny_bind (wpAny_bind (never (b4 (he C s2 H fp _ s7 σ6 H7 _ I7 q7) λy s8 ⟨v,H8,I8,r8,n8⟩=> ?_)))];obtain ⟨m',hm,w8⟩:=hN _ _ n8;obtain ⟨J8,t8,f8⟩:=back I8;obtain ⟨a1,a2⟩:=accAt J8 ↑27
    have hsz:its.size<=sizeLine:=by
     have e:=rv3.length
     have e2:its.toList.length=its.size:=by simp
     omega
    rwa[wpAny_bind (zJ a1 hsz λh' k' e' sb=> ?_)]
    have J9:aL (bN X scope N' C s2 H fp) [] (eU pk σ) H8 {s8 with heap:=h'}:=
     aL.turned (t':=s8.toks) (it:=D) (J8.pins_of λp hp=>nomatch hp) (λb o hb e=>(sb.2 b hb).trans e) a2 hDC (.inr hDle) (λx c e z=>by
      obtain ⟨w',o,ho,hd⟩:=J8.cell x c e
      rw [z,a1] at ho;cases ho;cases hd) λp hp=>nomatch (show p∈([]:List ↑20)++[] from hp)
    have J10:aL (bN X scope N' C s2 H fp) [(D,{cls:= .type "list",data:= .seq (its.push y) k'})] (eU pk σ) H8 {s8 with heap:=h'}:=
     J9.pins_of λp hp=>by
      have e:p=(D,({cls:= .type "list",data:= .seq (its.push y) k'}:Obj)):=by simpa using hp
      subst e;rwa[⟨e',a2,hDC,λz=> ?_,λv z=>nomatch z⟩];obtain ⟨_,o,ho,_⟩:=I.stack.mem z;exact absurd (Nat.lt_of_lt_of_le (Heap.lt_size ho) hDle) (Nat.lt_irrefl _)
    have t9:tn (i+1) h':=T.keep _ _ _ t8 λb hb o e=>(sb.2 b (λz=>Nat.lt_irrefl D (by have:=hfs b hb;rw [z] at this;exact this))).trans e
    have rv9:bo (ys++[v]) (its.push y).toList:=by
     rw [Array.toList_push];exact bo.append rv3 (.cons r8 .nil)
    first
     |exact wpAny_pure (wpAny_pure ⟨rfl,m',hm,i+1,H8,ys++[v],its.push y,k',J10,rv9,t9,f8,w8⟩)
     |exact wpAny_bind (wpAny_pure (wpAny_pure ⟨rfl,m',hm,i+1,H8,ys++[v],its.push y,k',J10,rv9,t9,f8,w8⟩))
 exact codeAny_compStart_list (loop _ rfl) (T.self _ 0 _ _ _ st1 (loop _ rfl))
section
variable {X:Cx}{scope:Scope}{N':List Str}{pk:List (Option Nat)}{tg elt iter:Expr}{ifs:List Expr}{pos:Pos}{wi:TI}{g:TG}{tt:TT}{te:TE}
theorem Do (S:d9 X scope N' pk)(hi:O1 X tg iter wi)(hg:∀C s H ex,PG ↑40 tg g)(ht:∀C s H ex,E2 ↑40 ifs tt)
(he:∀C s H ex,PE ↑40 elt te)(hs:∀x,foldedSetIterable iter X.env x=pure x:=by intro _;rfl):PE X (.ListComp elt [⟨tg,iter,ifs,0⟩] scope pos) (Cv pk wi g tt te):=by
 intro pins s σ H Q I h;rw [eval_ListComp];rwa[wpAny_comprehension_free (use:=none) rfl hs (lv λn hn=>I.ok.has n (S.free n hn)) S.kind S.loc ?_];rwa[b4 (hi pins s σ H _ I h) λv s1 h1=>b4 h1 λitv s2 h2=> ?_];obtain ⟨it,fp,tn,J,H2,e,I2,T,st2,f2,hW⟩:=h2;subst e;rwa[su (R:=λacc C=>compPost ↑9 X.A X.xe none (EP X pins σ Q) acc C) S hg ht he I2 T st2 f2 hW ?_];intro C D s' ys H' hn q hv _ _;obtain ⟨m,hm⟩:=hn;exact ⟨m,hm,λh' sb=>⟨.ref D,_,hv h' sb,rfl,q⟩⟩
theorem FV (hc:X.calm=true)(S:d9 X scope N' pk)(hi:PI X tg iter wi)(hg:∀C s H ex,PG ↑40 tg g)(ht:∀C s H ex,E2 ↑40 ifs tt)
(he:∀C s H ex,PE ↑40 elt te)(hs:∀x,foldedSetIterable iter X.env x=pure x:=by intro _;rfl):PE X (.ListComp elt [⟨tg,iter,ifs,0⟩] scope pos) (Cv pk wi g tt te):=Do S (hi.toA hc) hg ht he hs
theorem FP {i:Nat}{x:Str}{px spos:Pos}(hc:X.calm=true)(hN:X.N.Nodup)(hx:X.N[i]? =some x)(hl:KB X.env.scope x)(S:d9 X scope N' pk)(hi:PI X tg iter wi)(hg:∀C s H ex,PG ↑40 tg g)
(ht:∀C s H ex,E2 ↑40 ifs tt)(he:∀C s H ex,PE ↑40 elt te)(hs:∀x,foldedSetIterable iter X.env x=pure x:=by intro _;rfl)
(hsw:swapsWith (.ListComp elt [⟨tg,iter,ifs,0⟩] scope pos) (some (.Name x px)) spos.line X.env=pure true:=by rfl)(hf:X.fn x=true\/X.env.scope.names.lookup x=some .local:=by first|exact .inl rfl|exact .inr rfl|assumption):
 PS X (.Assign [.Name x px] (.ListComp elt [⟨tg,iter,ifs,0⟩] scope pos) spos) (Fq (Cv pk wi g tt te) (xL i)):=by
 intro pins s σ H D0 I h;rw [exec_Assign_Name_used _ _ _ _ hsw];rwa[wpAny_bind (wpAny_standAt (wpAny_bind ?_))];show wpAny _ _ (comprehension (.ListComp elt [⟨tg,iter,ifs,0⟩] scope pos) scope X.env (firstIterPos [⟨tg,iter,ifs,0⟩] pos) (newList []) false (eval iter X.env) (some (assign (.Name x px) X.env))>>=λ_=>pure ()) _ _ s;rwa[wpAny_bind (wpAny_comprehension_free (use:=some (assign (.Name x px) X.env)) rfl hs (lv λn hn=>I.ok.has n (S.free n hn)) S.kind S.loc ?_)];rwa[b4 ((hi.toA hc) pins s σ H _ I h) λv s1 h1=>b4 h1 λitv s2 h2=> ?_];obtain ⟨it,fp,tn,J,H2,e,I2,T,st2,f2,hW⟩:=h2;subst e;rwa[su (Q:=λx H1=>xL i x σ H1 D0.nx) (R:=λacc C=>compPost ↑9 X.A X.xe (some (assign (.Name x px) X.env)) _ acc C) S hg ht he I2 T st2 f2 hW ?_];intro C D s' ys H' hn q hv hCle hCn;obtain ⟨m,hm⟩:=hn;have I':aL X pins σ (upd H' D (.lst ys)) s':=hv s'.heap (Heap.SameBut.refl ..);rwa[wpAny_assign_Name (uf (v:= .ref D) I' hN hx hl rfl (λs'' I'' ch=> ?_) hf)];obtain ⟨a,sb,ha⟩:=ch
 have haC:C≠a:=by
  rcases ha with ha|ha
  ·rw [ha];exact Nat.ne_of_gt (Nat.lt_of_lt_of_le I2.lt hCle)
  ·obtain ⟨v,z⟩:=I2.cell x a ha;exact Nat.ne_of_gt (Nat.lt_of_lt_of_le z.lt hCle)
 rwa[⟨m,hm.sameBut sb haC,λh' sb'=>wpAny_pure (wpAny_pure ⟨_,_,?_,q⟩)⟩];rwa[aL.turned (t':=s''.toks) (it:=C) I'' (λb o hb e=>(sb'.2 b hb).trans e) hCn (Nat.ne_of_gt (Nat.lt_of_lt_of_le I2.lt hCle)) (.inr (Nat.le_trans I2.sz hCle)) (λy c e z=> ?_) λp hp z=> ?_]
 ·obtain ⟨v,q⟩:=I2.cell y c e;exact absurd (Nat.lt_of_lt_of_le q.lt hCle) (by rw [z];exact Nat.lt_irrefl _)
 ·exact absurd (Nat.lt_of_lt_of_le (Heap.lt_size (I2.pin p hp).1) hCle) (by rw [z];exact Nat.lt_irrefl _)
end
theorem bC {pk:List (Option Nat)}{σ:St}{x:V}:wL (eU (none::pk) σ) ((eU (none::pk) σ).set 0 (some x)):=by
 rwa[⟨by simp,λi v h=> ?_⟩]
 cases i with
 |zero=>exact nomatch (show (none:Option V)=some v from Option.some.inj h)
 |succ i=>simpa [eU] using h
section
variable {X:Cx}
def cV:V->Option Value
 | .ty n=>some (.type n)
 | .ref C=>some (.ref C)
 |_=>none
theorem ED {c:V}{t u:Value}(h:cV c=some t)(r:bp c u):u=t:=by
 cases c with
 |ty n=>cases h;exact r
 |ref C=>cases h;exact r
 |_=>cases h
theorem xX:b3 X (.builtin "isinstance") (λxs H Q=>∃x c cv t b,xs=[x,c]/\cV c=some cv/\jC X.K H x t/\W.kitOne X.K t cv=some b/\Q (.bl b) H):=by
 intro pins s σ H xs us Q I r h;obtain ⟨x,c,cv,t,b,rfl,hc,ty,e,q⟩:=h;obtain ⟨u,w',rfl,r1,r2⟩:=wW r;cases ED hc r2;exact Br I r1 ty e λtk=>⟨.bl b,H,I.tok _,rfl,q⟩
theorem xY {bs:List Bool}:∀ {us:List Value},bo (List.map V.bl bs) us->LSm.BoolsAre us bs:=by
 induction bs with
 |nil=>intro us r;rw [List.map_nil] at r;cases r;exact .nil
 |cons b bs ih=>
  intro us r;rw [List.map_cons] at r
  cases r with
  |cons r1 r2=>cases r1;exact .cons b (ih r2)
theorem BS (hc:X.calm=true):b3 X (.builtin "all") (λxs H Q=>∃(a:Addr) (bs:List Bool),xs=[.ref a]/\aN X.K H a (List.map V.bl bs)/\Q (.bl (bs.all id)) H):=by
 intro pins s σ H xs us Q I r h;obtain ⟨a,bs,rfl,hq,q⟩:=h;obtain ⟨u,rfl,rx⟩:=pG r;cases rx;obtain ⟨its,rv,pl,hz⟩:=I.list hq;have hl:s.heap.IsList a its.toArray:=pl.isList;have hb:=xY rv
 have hlt:a<s.heap.objs.size:=by obtain ⟨_,e,_⟩:=hl;exact Heap.lt_size e
 rwa[call_all_walk (wpAny_pyIter_list hl ?_)]
 refine ⟨s.heap.objs.size,[s.heap.objs.size,a],[s.heap.objs.size],its.toArray.size,_,_,λi=>(bs[i]?).getD true,rfl,Walks.list (A:=X.A.in1) (I.ok.hd hc) _ a (Nat.ne_of_lt hlt) its.toArray,
  ⟨⟨_,Heap.get?_push_size _ rfl,rfl,rfl⟩,hl.push _⟩,λi v s' Q' E' hP hQ=> ?_,λh' tk hk=> ?_⟩
 ·obtain ⟨b,e,rfl⟩:=hb.get i v (by simpa using hP);simp only [e,Option.getD_some] at hQ;exact wpAny_truthy_bool hQ
 ·have e:((List.range its.toArray.size).all λi=>(bs[i]?).getD true)=bs.all id:=by
   rw [List.size_toArray,hb.length];exact LSm.range_all bs
  rw [e];exact ⟨.bl _,H,I.kept (LSm.kept_iter hk),rfl,q⟩
def Nd (x:Str):It:=⟨λi _=>i<x.cps.size,λi H v H'=>H'=H/\∃c,x.cps[i]? =some c/\v= .str ⟨#[c]⟩,λi _=>x.cps.size<=i⟩
theorem ud {P:Program}{w:World}{K:Fg}{tg:Expr}{it:Addr}{x:Str}{t:Tok}{T:String}(hT:T="str_ascii_iterator"\/T="str_iterator"):
 wK P w K tg (Nd x) [it] it (λi h=>i<=x.cps.size/\h.IsStrIter it T x t i) where
 mem:=by simp
 obj:=λi h st b hb=>by
  have e:b=it:=by simpa using hb
  subst e;obtain ⟨o,ho,hc,hd⟩:=st.2;exact ⟨o,ho,λv z=>by rw [hd] at z;cases z⟩
 keep:=λi h h' st k=>⟨st.1,let ⟨o,ho,r⟩:=st.2;⟨o,k it ↑27 o ho,r⟩⟩
 item:=by
  intro X hP hw hK hc i pins s σ H E I hf st hg;subst hP hw hK;obtain ⟨f0,f1,f2,f3,f4,f5⟩:=hf it ↑27
  have W:Walks X.prog X.w X.A it [it] [it] x.cps.size (SignAt x) (λi h=>h.IsStrIter it T x t i):=by
   rcases hT with rfl|rfl
   ·exact Walks.strAscii (I.ok.hd hc) it x t
   ·exact Walks.strWide (I.ok.hd hc) it x t
  rwa[W.item i s _ _ hg st.2 λv h' tk hv st' kk=> ?_];obtain ⟨c,u,hx,rfl⟩:=hv;have I1:aL X pins σ H {s with heap:=h',toks:=tk}:=I.turned (λb o hb e=>kk b o (by simpa using hb) e) f0 f1 f3 f4 f5;obtain ⟨o,ho,hcl,hd⟩:=id st';exact ⟨_,rfl,Af (s:= {s with heap:=h',toks:=tk}) ho hcl hd (by rcases hT with rfl|rfl<;>decide) ⟨.str ⟨#[c]⟩,H,I1,⟨_,rfl⟩,⟨rfl,c,hx,rfl⟩,⟨hg,st'⟩,λb hb=>(hf b hb).1⟩⟩
 done:=by
  intro X hP hw hK hc i pins s σ H E I hf st hg;subst hP hw hK;obtain ⟨f0,f1,f2,f3,f4,f5⟩:=hf it ↑27
  have W:Walks X.prog X.w X.A it [it] [it] x.cps.size (SignAt x) (λi h=>h.IsStrIter it T x t i):=by
   rcases hT with rfl|rfl
   ·exact Walks.strAscii (I.ok.hd hc) it x t
   ·exact Walks.strWide (I.ok.hd hc) it x t
  have e:i=x.cps.size:=Nat.le_antisymm st.1 hg;subst e;exact W.done s _ _ st.2 λh' tk kk=>⟨rfl,I.turned (λb o hb e=>kk b o (by simpa using hb) e) f0 f1 f3 f4 f5⟩
 self:=λA i s Q E st h=>by
  rcases hT with rfl|rfl
  ·exact wpAny_pyIter_striter_ascii st.2 h
  ·exact wpAny_pyIter_striter_wide st.2 h
theorem Fs {ts:List Str}:∀ {us:List Value},bo (ts.map V.str) us->∃l:List (Str×Tok),us=strValues l/\l.map (·.1)=ts:=by
 induction ts with
 |nil=>intro us r;rw [List.map_nil] at r;cases r;exact ⟨[],rfl,rfl⟩
 |cons b bs ih=>
  intro us r;rw [List.map_cons] at r
  cases r with
  |cons r1 r2=>
   obtain ⟨t,rfl⟩:=r1;obtain ⟨l,rfl,e⟩:=ih r2;exact ⟨(b,t)::l,rfl,by rw [List.map_cons,e]⟩
theorem DW:Au X "str.join" (λx xs H Q=>∃z a ts,x= .str z/\xs=[.ref a]/\aN X.K H a (ts.map V.str)/\(ts.toArray.foldl (· + ·.length+z.length) 0)<=sizeLine/\(Builtin.Str.glued z ts).length<=sizeLine/\Q (.str (Builtin.Str.glued z ts)) H):=by
 intro pins s σ H x xs v us Q I rx rs h;obtain ⟨z,a,ts,rfl,rfl,hq,hz,hz2,q⟩:=h;obtain ⟨t,rfl⟩:=rx;obtain ⟨u,rfl,rr⟩:=pG rs;cases rr;obtain ⟨its,rv,pl,_⟩:=I.list hq;obtain ⟨l,rfl,hl⟩:=Fs rv;rwa[call_meets F.slot_str_join (typeIs_str s z t) F.entry_str_join (F.args_str_join_2 _ _) (meets_str_join_list z t a l ?_) ⟨pl.isList,?_⟩]
 ·rw [hl];exact rJ hz
 ·subst hl
  cases l with
  |nil=>exact ⟨hz2,.str _,H,I.tok _,⟨_,rfl⟩,q⟩
  |cons p r=>
   cases r with
   |nil=>exact ⟨.str _,H,I,⟨p.2,rfl⟩,q⟩
   |cons p2 r=>exact ⟨hz2,.str _,H,I.tok _,⟨_,rfl⟩,q⟩
theorem za:d8 X (binaryOp .Mult) (λx y H Q=>∃z n,x= .str z/\y= .int n/\1<n/\n<=1000/\0<z.length/\z.length<=1000/\Q (.str ⟨(List.replicate n.toNat z.cps).foldl (· ++ ·) #[]⟩) H):=by
 intro pins s σ H x y v u Q I rx ry h;obtain ⟨z,n,rfl,rfl,h1,h2,h3,h4,q⟩:=h;obtain ⟨t,rfl⟩:=rx;obtain ⟨t',rfl⟩:=ry;have hm:(z.length:Int)*n<=1000*1000:=Int.mul_le_mul ↑5 h2 ↑5 ↑1
 have ht:z.length*n.toNat<=1000000:=by
  have e:((z.length*n.toNat:Nat):Int)=(z.length:Int)*n:=by rw [Int.natCast_mul,Int.toNat_of_nonneg ↑5]
  omega
 have hs:sizeLine=16777216:=sizeLine_eq;have hb1:(n==1)=false:=beq_eq_false_iff_ne.mpr ↑5;have hb2:(z.length==0)=false:=beq_eq_false_iff_ne.mpr ↑5;rwa[PySem.P.mul_str ?_ (λ_ _=> ?_) (λ_ _=>rJ ↑5) ?_]
 ·rw [decide_eq_false ↑5,decide_eq_false ↑5];rfl
 ·have:=Int.le_ediv_of_mul_le (a:=(z.length:Int)) (b:=2^63 - 1) (c:=n) ↑5 ↑5;omega
 ·rw [if_neg ↑5,hb1,hb2];rwa[⟨?_,.str _,H,I.tok _,⟨_,rfl⟩,q⟩];show ((List.replicate n.toNat z.cps).foldl (· ++ ·) #[]).size<=sizeLine
  have go:∀(k:Nat) (acc:Array Nat),((List.replicate k z.cps).foldl (· ++ ·) acc).size=acc.size+z.length*k:=by
   intro k
   induction k with
   |zero=>intro acc;simp
   |succ k ih=>
    intro acc;rw [List.replicate_succ,List.foldl_cons,ih,Array.size_append,Nat.mul_succ];have e:z.cps.size=z.length:=rfl;omega
  rw [go];simp only [List.size_toArray,List.length_nil];omega
theorem Gr:Au X "int.bit_length" (λx xs H Q=>∃i,x= .int i/\xs=[]/\Q (.int (Builtin.Int.intBits i)) H):=by
 intro pins s σ H x xs v us Q I rx rs h;obtain ⟨i,rfl,rfl,q⟩:=h;obtain ⟨t,rfl⟩:=rx;cases rs;exact call_int_bit_length ⟨.int _,H,I.tok _,⟨_,rfl⟩,q⟩
end
structure bO (P:Program)(w:World)(K:Fg)(mg:Str->Option Value)(base:Heap)(n:Nat)(x:Str)(ps:List Str)(sp:Sp):Prop where
 ex:∃f fd,aQ P w K mg base b8 n f fd ps sp/\gd K fd ps []/\W.keepIn K (.ref f)=true/\mg x=some (.ref f)
section
variable {X:Cx}{x:Str}{p pos:Pos}{e:Expr}{es:List Expr}{t:TA}{ps:List Str}{sp:Sp}{n m:Nat}
theorem LM (c:bO X.prog X.w X.K X.mg X.base n x ps sp)(hr:dH m X.A)(hn:n<=m)(hg:Gl X x)(ha:PA X (e::es) t)(hdb:↑36=false:=by decide)
(he:starEach (e::es) X.env=(false,eval e X.env)::starEach es X.env:=by rfl)(hpl:(backTo pos (starEach es X.env)).any (·.1)=false:=by rfl):
 PE X (.Call (.Name x p) (e::es) [] pos) (zV sp [] E0 t):=by
 obtain ⟨f,fd,F,b,k,hm⟩:=c.ex;exact zZ (F.mono hn) hr hg hm k b .nil pN ha hdb he hpl
end
def sJ (sc:Scope)(N:List Str)(scope:Scope)(N':List Str)(pk:List (Option Nat)):Bool:=
 (scope.kind== .function)&&scope.names.all (λy=>y.2 != .cell)&&scope.names.all (λy=> !(y.2== .local)||scope.names.lookup y.1==some .local)&&
 scope.names.all (λy=> !(y.2== .free)||((sc.names.lookup y.1==some .cell||sc.names.lookup y.1==some .free)&&scope.names.lookup y.1 != some .local))&&
 (pk.length==N'.length)&&(List.range pk.length).all λj=>match pk[j]?,N'[j]? with
   |some (some i),some x=>N[i]? ==some x&&scope.names.contains (x,NameKind.free)
   |_,_=>true
theorem aI {X:Cx}{scope:Scope}{N':List Str}{pk:List (Option Nat)}(h:sJ X.env.scope X.N scope N' pk=true):d9 X scope N' pk:=by
 unfold sJ at h;simp only [Bool.and_eq_true] at h;obtain ⟨⟨⟨⟨⟨h1,h2⟩,h3⟩,h4⟩,h5⟩,h6⟩:=h;rwa[⟨by simpa using h1,λy hy=> ?_,λy hy hl=> ?_,λn hn=> ?_,λn hn=> ?_,by simpa using h5,λj i x e1 e2=> ?_⟩]
 ·have:=List.all_eq_true.mp h2 y hy;simpa using this
 ·have:=List.all_eq_true.mp h3 y hy;rw [hl] at this;simpa using this
 ·have:=List.all_eq_true.mp h4 _ hn;simp only [beq_self_eq_true,Bool.not_true,Bool.false_or,Bool.and_eq_true,Bool.or_eq_true] at this
  rcases this.1 with z|z
  ·exact .inl (show X.env.scope.names.lookup n=_ by simpa using z)
  ·exact .inr (show X.env.scope.names.lookup n=_ by simpa using z)
 ·have:=List.all_eq_true.mp h4 _ hn;simp only [beq_self_eq_true,Bool.not_true,Bool.false_or,Bool.and_eq_true,Bool.or_eq_true] at this;simpa using this.2
 ·have hj:j<pk.length:=(List.getElem?_eq_some_iff.mp e1).1;have:=List.all_eq_true.mp h6 j (List.mem_range.mpr hj);rw [e1,e2] at this;simp only [Bool.and_eq_true] at this;exact ⟨by simpa using this.1,by simpa using this.2⟩
section
variable {X:Cx}
theorem BL:b3 X (.builtin "len") (λxs H Q=>∃x,xs=[x]/\((∃z,x= .str z/\z.length<=sizeLine/\Q (.int z.length) H)\/∃p,x= .ref p/\∃ys,(aN X.K H p ys\/aK X.K H p ys)/\Q (.int ys.length) H)):=by
 intro pins s σ H xs us Q I r h;obtain ⟨x,rfl,h⟩:=h
 rcases h with ⟨z,rfl,hz,q⟩|⟨p,rfl,ys,hq,q⟩
 ·exact wB pins s σ H _ us Q I r ⟨z,rfl,hz,q⟩
 ·exact wD pins s σ H _ us Q I r ⟨p,ys,rfl,hq,q⟩
def LE (K:Fg):R2:=λx y H Q=>∃i,y= .int i/\((∃z,x= .str z/\z.length<=sizeLine/\∃c,ly z.cps.toList i=some c/\Q (.str ⟨#[c]⟩) H)\/∃p,x= .ref p/\∃xs,(aN K H p xs\/aK K H p xs)/\∃v,ly xs i=some v/\Q v H)
theorem J5:BY X (LE X.K):=by
 intro value slice pins s σ H x y v u Q I rx ry h hs;obtain ⟨i,rfl,h⟩:=h
 rcases h with ⟨z,rfl,hz,c,hc,q⟩|⟨p,rfl,xs,hq|hq,w',hv,q⟩
 ·exact J4 value slice pins s σ H _ _ v u Q I rx ry ⟨z,i,c,rfl,rfl,hz,hc,q⟩ hs
 ·exact GE value slice pins s σ H _ _ v u Q I rx ry ⟨p,xs,i,w',rfl,rfl,hq,hv,q⟩ hs
 ·exact J3 value slice pins s σ H _ _ v u Q I rx ry ⟨p,xs,i,w',rfl,rfl,hq,hv,q⟩ hs
theorem tJ {ns:List Int}{k:Int}(h0:0<=k)(h1:k<ns.length):ly (ns.map V.int) k=some (.int (ns.getD k.toNat 0)):=by
 obtain ⟨j,rfl⟩:=Int.eq_ofNat_of_zero_le h0;rwa[dE ?_]
 have hj:j<ns.length:=by omega
 rw [List.getElem?_map,List.getElem?_eq_getElem hj];simp [List.getD,List.getElem?_eq_getElem hj]
def wy (J:It)(pk:List (Option Nat))(g:TG)(tt:TT)(te:TE)(σ:St)(H:Hp)(Q:VK):Prop:=∃W:Nat->Nat->List V->Hp->Prop,(∃m,W 0 m [] H)/\∀i m ys H,W i m ys H->
 (J.stop i H/\ys.length<=sizeLine/\∀p,H p=none->Q (.ref p) (upd H p (.lst ys)))\/
 (J.go i H/\ys.length<sizeLine/\∃N:List V->Hp->Prop,(∀zs H',N zs H'->∃m',m'<m/\W (i+1) m' zs H')/\∀x H',J.yld i H x H'->g x (eU pk σ) H' λσ2 H2=>wL (eU pk σ) σ2/\tt σ2 H2 λb H3=>
   if b=true then te σ2 H3 λv H4=>N (ys++[v]) H4 else N ys H3)
def zD (J:It)(g:TG)(tb:TS)(D:k7)(σ:St)(H:Hp):Prop:=∃W:Nat->Nat->St->Hp->Prop,(∃m,W 0 m σ H)/\∀i m σ H,W i m σ H->
 (J.stop i H/\D.nx σ H)\/(J.go i H/\∃N:St->Hp->Prop,(∀σ' H',N σ' H'->∃m',m'<m/\W (i+1) m' σ' H')/\∀x H',J.yld i H x H'->g x σ H' λσ2 H2=>tb {D with nx:=N,ct:=N,bk:=D.nx} σ2 H2)
section
variable {K:Fg}{a:Addr}{xs:List V}{g:TG}{tb:TS}{D:k7}{σ:St}{H:Hp}
theorem fH (Pv:Nat->St->Hp->Prop)(h0:Pv 0 σ H)(hl:∀i σ H,i<=xs.length->Pv i σ H->aN K H a xs)
(hs:∀i x σ H,xs[i]? =some x->Pv i σ H->g x σ H λσ2 H2=>tb {D with nx:=Pv (i+1),ct:=Pv (i+1),bk:=D.nx} σ2 H2)(hd:∀σ H,Pv xs.length σ H->D.nx σ H):zD (B0 K a) g tb D σ H:=Ei Pv h0 hl hs hd
theorem ka (Pv:Nat->St->Hp->Prop)(h0:Pv 0 σ H)(hl:∀i σ H,i<=xs.length->Pv i σ H->aK K H a xs)
(hs:∀i x σ H,xs[i]? =some x->Pv i σ H->g x σ H λσ2 H2=>tb {D with nx:=Pv (i+1),ct:=Pv (i+1),bk:=D.nx} σ2 H2)(hd:∀σ H,Pv xs.length σ H->D.nx σ H):zD (BZ K a) g tb D σ H:=GN Pv h0 hl hs hd
theorem fG {lo:Int}{n:Nat}(Pv:Nat->St->Hp->Prop)(h0:Pv 0 σ H)
(hs:∀i σ H,i<n->Pv i σ H->g (.int (lo+i)) σ H λσ2 H2=>tb {D with nx:=Pv (i+1),ct:=Pv (i+1),bk:=D.nx} σ2 H2)(hd:∀σ H,Pv n σ H->D.nx σ H):zD (G9 lo n) g tb D σ H:=Bv Pv h0 hs hd
end
theorem eV {lo:Int}{n:Nat}{pk:List (Option Nat)}{g:TG}{tt:TT}{te:TE}{σ:St}{H:Hp}{Q:VK}(Pv:Nat->List V->Hp->Prop)(hn:n<=sizeLine)(hlen:∀i ys H,Pv i ys H->ys.length<=i)(h0:Pv 0 [] H)
(hs:∀i ys H,i<n->Pv i ys H->g (.int (lo+i)) (eU pk σ) H λσ2 H2=>wL (eU pk σ) σ2/\tt σ2 H2 λb H3=>if b=true then te σ2 H3 λv H4=>Pv (i+1) (ys++[v]) H4 else Pv (i+1) ys H3)
(hd:∀ys H,Pv (n) ys H->∀p,H p=none->Q (.ref p) (upd H p (.lst ys))):
 wy (G9 lo n) pk g tt te σ H Q:=by
 rwa[⟨λi m ys H=>m=n - i/\i<=n/\Pv i ys H,⟨n,by simp,Nat.zero_le _,h0⟩,?_⟩];rintro i m ys H ⟨rfl,hi,p⟩;have hl:=hlen _ _ _ p;by_cases hlt:i<n
 ·rwa[.inr ⟨hlt,by omega,Pv (i+1),λzs H' p'=>⟨n - (i+1),by omega,rfl,hlt,p'⟩,λx H' y=> ?_⟩];obtain ⟨e,y⟩:=y;subst e y;exact hs i ys _ hlt p
 ·have e:i=n:=by omega
  subst e;exact .inl ⟨Nat.le_refl _,by omega,hd ys H p⟩
theorem bZ {K:Fg}{a:Addr}{xs:List V}{pk:List (Option Nat)}{g:TG}{tt:TT}{te:TE}{σ:St}{H:Hp}{Q:VK}(Pv:Nat->List V->Hp->Prop)(hn:xs.length<=sizeLine)(hlen:∀i ys H,Pv i ys H->ys.length<=i)(h0:Pv 0 [] H)(hx:∀i ys H,i<=xs.length->Pv i ys H->aN K H a xs)
(hs:∀i x ys H,xs[i]? =some x->Pv i ys H->g x (eU pk σ) H λσ2 H2=>wL (eU pk σ) σ2/\tt σ2 H2 λb H3=>if b=true then te σ2 H3 λv H4=>Pv (i+1) (ys++[v]) H4 else Pv (i+1) ys H3)
(hd:∀ys H,Pv (xs.length) ys H->∀p,H p=none->Q (.ref p) (upd H p (.lst ys))):
 wy (B0 K a) pk g tt te σ H Q:=by
 rwa[⟨λi m ys H=>m=xs.length - i/\i<=xs.length/\Pv i ys H,⟨xs.length,by simp,Nat.zero_le _,h0⟩,?_⟩];rintro i m ys H ⟨rfl,hi,p⟩;have hl:=hlen _ _ _ p;by_cases hlt:i<xs.length
 ·rwa[.inr ⟨⟨xs,xs[i],hx i ys H hi p,by simp [hlt]⟩,by omega,Pv (i+1),λzs H' p'=>⟨xs.length - (i+1),by omega,rfl,hlt,p'⟩,λx H' y=> ?_⟩];obtain ⟨e,y⟩:=y;subst e;exact hs i x ys _ (y xs (hx i ys _ hi p)) p
 ·have e:i=xs.length:=by omega
  subst e;exact .inl ⟨⟨xs,hx _ ys H ↑15 p,Nat.le_refl _⟩,by omega,hd ys H p⟩
theorem ck {K:Fg}{a:Addr}{xs:List V}{pk:List (Option Nat)}{g:TG}{tt:TT}{te:TE}{σ:St}{H:Hp}{Q:VK}(Pv:Nat->List V->Hp->Prop)(hn:xs.length<=sizeLine)(hlen:∀i ys H,Pv i ys H->ys.length<=i)(h0:Pv 0 [] H)(hx:∀i ys H,i<=xs.length->Pv i ys H->aK K H a xs)
(hs:∀i x ys H,xs[i]? =some x->Pv i ys H->g x (eU pk σ) H λσ2 H2=>wL (eU pk σ) σ2/\tt σ2 H2 λb H3=>if b=true then te σ2 H3 λv H4=>Pv (i+1) (ys++[v]) H4 else Pv (i+1) ys H3)
(hd:∀ys H,Pv (xs.length) ys H->∀p,H p=none->Q (.ref p) (upd H p (.lst ys))):
 wy (BZ K a) pk g tt te σ H Q:=by
 rwa[⟨λi m ys H=>m=xs.length - i/\i<=xs.length/\Pv i ys H,⟨xs.length,by simp,Nat.zero_le _,h0⟩,?_⟩];rintro i m ys H ⟨rfl,hi,p⟩;have hl:=hlen _ _ _ p;by_cases hlt:i<xs.length
 ·rwa[.inr ⟨⟨xs,xs[i],hx i ys H hi p,by simp [hlt]⟩,by omega,Pv (i+1),λzs H' p'=>⟨xs.length - (i+1),by omega,rfl,hlt,p'⟩,λx H' y=> ?_⟩];obtain ⟨e,y⟩:=y;subst e;exact hs i x ys _ (y xs (hx i ys _ hi p)) p
 ·have e:i=xs.length:=by omega
  subst e;exact .inl ⟨⟨xs,hx _ ys H ↑15 p,Nat.le_refl _⟩,by omega,hd ys H p⟩
theorem Ev {z:Str}{pk:List (Option Nat)}{g:TG}{tt:TT}{te:TE}{σ:St}{H:Hp}{Q:VK}(Pv:Nat->List V->Hp->Prop)(hn:z.cps.size<=sizeLine)(hlen:∀i ys H,Pv i ys H->ys.length<=i)(h0:Pv 0 [] H)
(hs:∀i c ys H,z.cps[i]? =some c->Pv i ys H->g (.str ⟨#[c]⟩) (eU pk σ) H λσ2 H2=>wL (eU pk σ) σ2/\tt σ2 H2 λb H3=>if b=true then te σ2 H3 λv H4=>Pv (i+1) (ys++[v]) H4 else Pv (i+1) ys H3)
(hd:∀ys H,Pv (z.cps.size) ys H->∀p,H p=none->Q (.ref p) (upd H p (.lst ys))):
 wy (Nd z) pk g tt te σ H Q:=by
 rwa[⟨λi m ys H=>m=z.cps.size - i/\i<=z.cps.size/\Pv i ys H,⟨z.cps.size,by simp,Nat.zero_le _,h0⟩,?_⟩];rintro i m ys H ⟨rfl,hi,p⟩;have hl:=hlen _ _ _ p;by_cases hlt:i<z.cps.size
 ·rwa[.inr ⟨hlt,by omega,Pv (i+1),λzs H' p'=>⟨z.cps.size - (i+1),by omega,rfl,hlt,p'⟩,λx H' y=> ?_⟩];obtain ⟨e,c,hc,hv⟩:=y;subst e hv;exact hs i c ys _ hc p
 ·have e:i=z.cps.size:=by omega
  subst e;exact .inl ⟨Nat.le_refl _,by omega,hd ys H p⟩
end
section
variable {X:Cx}{K:Fg}
theorem zb (hK:X.K=K):d8 X (compareOp .In) (M9 K false):=hK▸AS
theorem tU (hK:X.K=K):d8 X (compareOp .NotIn) (M9 K true):=hK▸vW
theorem GF (hK:X.K=K):BY X (LE K):=hK▸J5
def LD (K:Fg):List V->Hp->VK->Prop:=λxs H Q=>∃x,xs=[x]/\((∃z,x= .str z/\z.length<=sizeLine/\Q (.int z.length) H)\/∃p,x= .ref p/\∃ys,(aN K H p ys\/aK K H p ys)/\Q (.int ys.length) H)
theorem BM (hK:X.K=K):b3 X (.builtin "len") (LD K):=hK▸BL
def LF (K:Fg):List V->Hp->VK->Prop:=λxs H Q=>∃x c cv t b,xs=[x,c]/\cV c=some cv/\jC K H x t/\W.kitOne K t cv=some b/\Q (.bl b) H
theorem BO (hK:X.K=K):b3 X (.builtin "isinstance") (LF K):=hK▸xX
def LJ (K:Fg):List V->Hp->VK->Prop:=λxs H Q=>∃(a:Addr) (bs:List Bool),xs=[.ref a]/\aN K H a (List.map V.bl bs)/\Q (.bl (bs.all id)) H
theorem BR (hK:X.K=K)(hc:X.calm=true):b3 X (.builtin "all") (LJ K):=hK▸BS hc
def FL (K:Fg):List V->Hp->VK->Prop:=λxs H Q=>∃p ys,xs=[.ref p]/\(aN K H p ys\/aK K H p ys)/\∀l,H l=none->Q (.ref l) (upd H l (.lst ys))
theorem zH (hK:X.K=K):b3 X (.type "list") (FL K):=hK▸wA
def Df (K:Fg):List V->Hp->VK->Prop:=λxs H Q=>∃p ys,xs=[.ref p]/\((aN K H p ys/\∀l,H l=none->Q (.ref l) (upd H l (.tup ys)))\/(aK K H p ys/\Q (.ref p) H))
theorem xW (hK:X.K=K):b3 X (.type "tuple") (Df K):=hK▸tW
def IW (K:Fg):V->List V->Hp->VK->Prop:=λx xs H Q=>∃z a ts,x= .str z/\xs=[.ref a]/\aN K H a (ts.map V.str)/\(ts.toArray.foldl (· + ·.length+z.length) 0)<=sizeLine/\(Builtin.Str.glued z ts).length<=sizeLine/\Q (.str (Builtin.Str.glued z ts)) H
theorem DX (hK:X.K=K):Au X "str.join" (IW K):=hK▸DW
theorem FT (hK:X.K=K){es:List Expr}{k:Nat}{t:At}{n:Nat}{pos:Pos}(hc:X.calm=true)(h:EQ X es t)
(hn:(assignEach es X.env).length=n:=by rfl)(hst:(assignEach es X.env).findIdx? (·.1)=none:=by rfl):PG X (.Tuple es k pos) (Mq K n t):=hK▸Jd hc h hn hst
end
theorem wL.refl (σ:St):wL σ σ:=⟨rfl,λ_ _ h=>h⟩
theorem wL.cons {σ σ':St}{o o':Option V}(h:o=none\/o=o')(s:wL σ σ'):wL (o::σ) (o'::σ'):=by
 rwa[⟨by simp [s.1],λi v e=> ?_⟩]
 cases i with
 |zero=>
  rcases h with rfl|rfl
  ·exact nomatch (show (none:Option V)=some v from Option.some.inj e)
  ·exact e
 |succ i=>exact s.2 i v (by simpa using e)
theorem N6 {σ:St}{x:V}:wL (none::σ) (some x::σ):= .cons (.inl rfl) (.refl _)
def b5:Expr->Bool
 | .Starred _ _=>false
 |_=>true
theorem bq {e:Expr}{es:List Expr}{env:Env}(h:b5 e=true):starEach (e::es) env=(false,eval e env)::starEach es env:=by
 cases e<;>first|rfl|cases h
def bd:List Expr->Bool
 |[]=>true
 |e::es=>b5 e&&bd es
theorem bT {pos:Pos}{env:Env}:∀ {es:List Expr},bd es=true->(backTo pos (starEach es env)).any (·.1)=false
 |[],_=>rfl
 |e::es,h=>by
  have h':(b5 e&&bd es)=true:=h;rw [Bool.and_eq_true] at h';rw [bq h'.1];show (false||(backTo pos (starEach es env)).any (·.1))=false;rw [bT h'.2];rfl
theorem oA {pos:Pos}{env:Env}:∀ {es:List Expr},bd es=true->(backTo pos (starEach es env)).all (λx=> !x.1)=true
 |[],_=>rfl
 |e::es,h=>by
  have h':(b5 e&&bd es)=true:=h;rw [Bool.and_eq_true] at h';rw [bq h'.1];show (true&&(backTo pos (starEach es env)).all (λx=> !x.1))=true;rw [oA h'.2];rfl
def fW:Expr->Bool
 | .Call _ [] [] _=>false
 |_=>true
theorem tH {o:Expr}{name:Str}{env:Env}{wh:Sem Value}(h:fW o=true):attributeBase o name env wh=wh:=by
 unfold attributeBase;split
 ·cases h
 ·rfl
def ur:Expr->Bool
 | .UnaryOp _ _ _=>false
 | .BoolOp _ _ _=>false
 | .IfExp _ _ _ _=>false
 | .Compare _ _ _ _=>false
 |_=>true
theorem Ea {e:Expr}{env:Env}{wh:Sem Value}(h:ur e=true):isTrue e env wh=(do let v<-wh;standAt e.pos;holding [v] (truthy v)):=by
 cases e<;>first|rfl|cases h
section
variable {X:Cx}{K:Fg}{x:Str}{p pos apos cpos:Pos}{e o a:Expr}{es:List Expr}{t:TA}{te to ta:TE}{ps:List Str}{sp:Sp}{n m:Nat}{id T:String}{r:List V->Hp->VK->Prop}{name:Str}{rm:V->List V->Hp->VK->Prop}
theorem ac (ha:PE X e te)(hr:PA X es t)(hs:b5 e=true:=by rfl):PA X (e::es) (Hl te t):=FW ha hr (bq hs)
theorem ao (c:bO X.prog X.w X.K X.mg X.base n x ps sp)(hr:dH m X.A)(hn:n<=m)(hg:Gl X x)(ha:PA X (e::es) t)(hdb:↑36=false:=by decide)(hp:bd (e::es)=true:=by rfl):
 PE X (.Call (.Name x p) (e::es) [] pos) (zV sp [] E0 t):=by
 have h':(b5 e&&bd es)=true:=hp;rw [Bool.and_eq_true] at h';exact LM c hr hn hg ha hdb (bq h'.1) (bT h'.2)
theorem ax (hc:b3 X (.builtin id) r)(hg:Gl X x)(hm:X.mg x=none)(hv:bootBuiltins x=some (.builtin id))(ha:PA X (e::es) t)(hn:x≠"__name__":=by decide)(hdb:↑36=false:=by decide)
(hp:bd (e::es)=true:=by rfl):PE X (.Call (.Name x p) (e::es) [] pos) (M8 r t):=by
 have h':(b5 e&&bd es)=true:=hp;rw [Bool.and_eq_true] at h';exact Dq hc hg hm hv ha hn hdb (bq h'.1) (bT h'.2)
theorem br (hc:b3 X (.type T) r)(hg:Gl X x)(hm:X.mg x=none)(hv:bootBuiltins x=some (.type T))(ha:PA X (e::es) t)(hn:x≠"__name__":=by decide)(hdb:↑36=false:=by decide)
(hp:bd (e::es)=true:=by rfl):PE X (.Call (.Name x p) (e::es) [] pos) (M8 r t):=by
 have h':(b5 e&&bd es)=true:=hp;rw [Bool.and_eq_true] at h';exact AO hc hg hm hv ha hn hdb (bq h'.1) (bT h'.2)
end
def rY (b:Bool)(A B:Prop):Prop:=if b=true then A else B
theorem wg {b:Bool}{A B:Prop}(h1:b=true->A)(h2:b=false->B):rY b A B:=by
 cases b with
 |true=>exact h1 rfl
 |false=>exact h2 rfl
theorem bj {b:Bool}{A B:Prop}(e:b=true)(h:A):rY b A B:=by subst e;exact h
theorem aB {b:Bool}{A B:Prop}(e:b=false)(h:B):rY b A B:=by subst e;exact h
theorem hV {c:Prop}[Decidable c]{A B:Prop}(h1:c->A)(h2: ¬c->B):rY (decide c) A B:=wg (λh=>h1 (of_decide_eq_true h)) (λh=>h2 (of_decide_eq_false h))
theorem j6 {c:Prop}[Decidable c]{A B:Prop}(hc:c)(h:A):rY (decide c) A B:=bj (decide_eq_true hc) h
theorem bz {c:Prop}[Decidable c]{A B:Prop}(hc: ¬c)(h:B):rY (decide c) A B:=aB (decide_eq_false hc) h
theorem OZ {c:Prop}[Decidable c]{A B:Prop}(h1: ¬c->A)(h2:c->B):rY (!decide c) A B:=by
 by_cases h:c
 ·rw [decide_eq_true h];exact aB rfl (h2 h)
 ·rw [decide_eq_false h];exact bj rfl (h1 h)
theorem PE.imp {X:Cx}{e:Expr}{t t':TE}(h:PE X e t)(i:∀σ H Q,t' σ H Q->t σ H Q):PE X e t':=λpins s σ H Q I q=>h pins s σ H Q I (i σ H Q q)
theorem d8.imp {X:Cx}{f:Value->Value->Sem Value}{r r':R2}(h:d8 X f r)(i:∀x y H Q,r' x y H Q->r x y H Q):d8 X f r':=λpins s σ H x y v u Q I rx ry q=>h pins s σ H x y v u Q I rx ry (i _ _ _ _ q)
theorem BY.imp {X:Cx}{r r':R2}(h:BY X r)(i:∀x y H Q,r' x y H Q->r x y H Q):BY X r':=λvalue slice pins s σ H x y v u Q I rx ry q=>h value slice pins s σ H x y v u Q I rx ry (i _ _ _ _ q)
theorem b3.imp {X:Cx}{f:Value}{r r':List V->Hp->VK->Prop}(h:b3 X f r)(i:∀xs H Q,r' xs H Q->r xs H Q):b3 X f r':=λpins s σ H xs us Q I rx q=>h pins s σ H xs us Q I rx (i _ _ _ q)
theorem Au.imp {X:Cx}{id:String}{r r':V->List V->Hp->VK->Prop}(h:Au X id r)(i:∀x xs H Q,r' x xs H Q->r x xs H Q):Au X id r':=λpins s σ H x xs v us Q I rx rs q=>h pins s σ H x xs v us Q I rx rs (i _ _ _ _ q)
def K0 (i:Nat):TE:=λσ H Q=>match σ[i]? with|some (some v)=>Q v H|_=>False
theorem wv {X:Cx}(i:Nat){x:Str}{pos:Pos}(hN:X.N[i]? =some x:=by rfl)(hv:MM X.env.scope x:=by first|exact Or.inl rfl|exact Or.inr ↑6|exact Or.inr (Or.inr rfl))(hd:↑36=false:=by decide)
(hcd:(x==("__classdict__":Str))=false:=by decide):PE X (.Name x pos) (K0 i):=
 (Dm hN hv hd hcd).imp λσ H Q h=>by
   unfold K0 at h
   cases e:σ[i]? with
   |none=>rw [e] at h;exact h.elim
   |some o=>
    cases o with
    |none=>rw [e] at h;exact h.elim
    |some v=>rw [e] at h;exact ⟨v,e,h⟩
def wI (g:Int->Int->V):R2:=λx y H Q=>match x,y with| .int i,.int j=>Q (g i j) H|_,_=>False
def wC (C:Int->Int->Prop)(g:Int->Int->V):R2:=λx y H Q=>match x,y with| .int i,.int j=>C i j/\Q (g i j) H|_,_=>False
theorem lG {g:Int->Int->V}:∀x y H Q,wI g x y H Q->Dg g x y H Q:=λx y H Q h=>by
 cases x with
 |int i=>cases y with
  |int j=>exact ⟨i,j,rfl,rfl,h⟩
  |_=>exact False.elim h
 |_=>exact False.elim h
theorem qA {C:Int->Int->Prop}{g:Int->Int->V}:∀x y H Q,wC C g x y H Q->rI C g x y H Q:=λx y H Q h=>by
 cases x with
 |int i=>cases y with
  |int j=>exact ⟨i,j,rfl,rfl,h⟩
  |_=>exact False.elim h
 |_=>exact False.elim h
section
variable {X:Cx}{K:Fg}
theorem eX:d8 X (binaryOp .Sub) (wI λi j=> .int (i - j)):=Jh.imp lG
theorem Cg:d8 X (binaryOp .FloorDiv) (wC BV λi j=> .int (i / j)):=FY.imp qA
def NI:R2:=λx y H Q=>match x,y with| .int i,.int j=>0<j/\Q (.int (i% j)) H|_,_=>False
theorem iu:d8 X (binaryOp .Mod) NI:=Jm.imp λx y H Q h=>qA (C:=λ_ j=>0<j) (g:=λi j=> .int (i% j)) x y H Q (by
 cases x with
 |int i=>cases y with
  |int j=>exact h
  |_=>exact False.elim h
 |_=>exact False.elim h)
theorem Ce:d8 X (binaryOp .Pow) (wC zR λi j=> .int (i^j.toNat)):=Jk.imp qA
theorem Hf:d8 X (binaryOp .LShift) (wC zR λi j=> .int (i*2^j.toNat)):=Jj.imp qA
def NA:R2:=λx y H Q=>match x,y with| .int i,.int j=>0<=j/\Q (.int (i / 2^j.toNat)) H|_,_=>False
theorem KO:d8 X (binaryOp .RShift) NA:=Ji.imp λx y H Q h=>qA (C:=λ_ j=>0<=j) (g:=λi j=> .int (i / 2^j.toNat)) x y H Q (by
 cases x with
 |int i=>cases y with
  |int j=>exact h
  |_=>exact False.elim h
 |_=>exact False.elim h)
theorem Ci:d8 X (binaryOp .BitAnd) (wI λi j=> .int (Builtin.bitAnd i j)):=Jp.imp lG
theorem KP:d8 X (binaryOp .BitOr) (wI λi j=> .int (Builtin.bitOr i j)):=LO.imp lG
theorem w_lt:d8 X (compareOp .Lt) (wI λi j=> .bl (decide (i<j))):=LQ.imp lG
theorem KS:d8 X (compareOp .LtE) (wI λi j=> .bl (decide (i<=j))):=LR.imp lG
theorem lF:d8 X (compareOp .Gt) (wI λi j=> .bl (decide (j<i))):=LS.imp lG
theorem Fe:d8 X (compareOp .GtE) (wI λi j=> .bl (decide (j<=i))):=LT.imp lG
def G1 (p q:Addr)(H:Hp)(Q:VK):Prop:=∃xs ys,H p=some (.lst xs)/\H q=some (.lst ys)/\xs.length+ys.length<=sizeLine/\∀l,H l=none->Q (.ref l) (upd H l (.lst (xs++ys)))
def NT:R2:=λx y H Q=>match x,y with
 | .int i,.int j=>Q (.int (i+j)) H
 | .str a,.str b=>a.length+b.length<=sizeLine/\Q (.str (a++b)) H
 | .ref p,.ref q=>G1 p q H Q
 |_,_=>False
theorem KY:d8 X (binaryOp .Add) NT:=(Jq.or (zc.or Jo)).imp λx y H Q h=>by
 cases x with
 |int i=>cases y with
  |int j=>exact .inl ⟨i,j,rfl,rfl,h⟩
  |_=>exact False.elim h
 |str a=>cases y with
  |str b=>exact .inr (.inl ⟨a,b,rfl,rfl,h⟩)
  |_=>exact False.elim h
 |ref p=>cases y with
  |ref q=>obtain ⟨xs,ys,h1,h2,h3,h4⟩:=h;exact .inr (.inr ⟨p,q,xs,ys,rfl,rfl,h1,h2,h3,h4⟩)
  |_=>exact False.elim h
 |_=>exact False.elim h
def NH:R2:=λx y H Q=>match x,y with
 | .int i,.int j=>wN i j/\Q (.int (i*j)) H
 | .str z,.int n=>(1<n/\n<=1000/\0<z.length/\z.length<=1000)/\Q (.str ⟨(List.replicate n.toNat z.cps).foldl (· ++ ·) #[]⟩) H
 |_,_=>False
theorem fv:d8 X (binaryOp .Mult) NH:=(Jl.or za).imp λx y H Q h=>by
 cases x with
 |int i=>cases y with
  |int j=>exact .inl ⟨i,j,rfl,rfl,h⟩
  |_=>exact False.elim h
 |str z=>cases y with
  |int n=>exact .inr ⟨z,n,rfl,rfl,h.1.1,h.1.2.1,h.1.2.2.1,h.1.2.2.2,h.2⟩
  |_=>exact False.elim h
 |_=>exact False.elim h
def NG:V->Hp->VK->Prop:=λx H Q=>match x with| .int i=>Q (.int (-i)) H|_=>False
theorem ir:KA X (unaryOp .USub) NG:=λpins s σ H x v Q I rx h=>by
 cases x with
 |int i=>exact Iv pins s σ H _ v Q I rx ⟨i,rfl,h⟩
 |_=>exact False.elim h
def Mv:V->V->Option Bool
 | .non,.non=>some true
 | .int i,.int j=>some (decide (i=j))
 | .str a,.str b=>some (decide (a=b))
 | .bl a,.bl b=>some (decide (a=b))
 | .non,.int _=>some false| .int _,.non=>some false| .non,.str _=>some false| .str _,.non=>some false| .non,.bl _=>some false| .bl _,.non=>some false
 | .int _,.str _=>some false| .str _,.int _=>some false| .bl _,.str _=>some false| .str _,.bl _=>some false
 |_,_=>none
theorem Em {x y:V}{b:Bool}(h:Mv x y=some b):IP x y=true/\decide (x=y)=b:=by
 cases x<;>cases y<;>first|cases h|skip
 all_goals first
  |exact ⟨rfl,by simp⟩
  |(refine ⟨rfl,?_⟩;simp)
def Ld (neg:Bool):R2:=λx y H Q=>match y with
 | .non=>(match x with| .non=>Q (.bl (!neg)) H|_=>Q (.bl neg) H)
 |_=>False
theorem Hg:d8 X (compareOp .Is) (Ld false):=Jn.imp λx y H Q h=>by
 cases y with
 |non=>cases x<;>exact ⟨rfl,h⟩
 |_=>exact False.elim h
theorem Cf:d8 X (compareOp .IsNot) (Ld true):=FX.imp λx y H Q h=>by
 cases y with
 |non=>cases x<;>exact ⟨rfl,h⟩
 |_=>exact False.elim h
def ui (K:Fg)(neg:Bool)(x:V)(p:Addr)(H:Hp)(Q:VK):Prop:=∃xs,(aN K H p xs\/aK K H p xs)/\fc x=true/\xs.all fc=true/\Q (.bl (if neg then !xI x xs else xI x xs)) H
def pI (a b:Str):Bool:= !(Builtin.Str.occurrences b a 0 b.length 1).isEmpty
def OX (K:Fg)(neg:Bool):R2:=λx y H Q=>match y with
 | .str b=>(match x with| .str a=>Q (.bl (if neg then !pI a b else pI a b)) H|_=>False)
 | .ref p=>ui K neg x p H Q
 |_=>False
theorem Fd (hK:X.K=K):d8 X (compareOp .In) (OX K false):=(AR.or (zb hK)).imp λx y H Q h=>by
 cases y with
 |str b=>cases x with
  |str a=>exact .inl ⟨a,b,rfl,rfl,h⟩
  |_=>exact False.elim h
 |ref p=>obtain ⟨xs,h1,h2,h3,h4⟩:=h;exact .inr ⟨p,xs,rfl,h1,h2,h3,h4⟩
 |_=>exact False.elim h
theorem qh (hK:X.K=K):d8 X (compareOp .NotIn) (OX K true):=(vV.or (tU hK)).imp λx y H Q h=>by
 cases y with
 |str b=>cases x with
  |str a=>exact .inl ⟨a,b,rfl,rfl,h⟩
  |_=>exact False.elim h
 |ref p=>obtain ⟨xs,h1,h2,h3,h4⟩:=h;exact .inr ⟨p,xs,rfl,h1,h2,h3,h4⟩
 |_=>exact False.elim h
def qR (K:Fg)(p:Addr)(i:Int)(H:Hp)(Q:VK):Prop:=∃xs,(aN K H p xs\/aK K H p xs)/\∃v,ly xs i=some v/\Q v H
def vg (z:Str)(i:Int)(H:Hp)(Q:VK):Prop:=z.length<=sizeLine/\∃c,ly z.cps.toList i=some c/\Q (.str ⟨#[c]⟩) H
def O7 (K:Fg):R2:=λx y H Q=>match x,y with
 | .str z,.int i=>vg z i H Q
 | .ref p,.int i=>qR K p i H Q
 |_,_=>False
theorem av (hK:X.K=K):BY X (O7 K):=(GF hK).imp λx y H Q h=>by
 cases x with
 |str z=>cases y with
  |int i=>obtain ⟨h1,h2⟩:=h;exact ⟨i,rfl,.inl ⟨z,rfl,h1,h2⟩⟩
  |_=>exact False.elim h
 |ref p=>cases y with
  |int i=>obtain ⟨xs,h1,h2⟩:=h;exact ⟨i,rfl,.inr ⟨p,rfl,xs,h1,h2⟩⟩
  |_=>exact False.elim h
 |_=>exact False.elim h
def lJ (K:Fg)(p:Addr)(H:Hp)(Q:VK):Prop:=∃ys,(aN K H p ys\/aK K H p ys)/\Q (.int ys.length) H
def NL (K:Fg):List V->Hp->VK->Prop:=λxs H Q=>match xs with
 |[.str z]=>z.length<=sizeLine/\Q (.int z.length) H
 |[.ref p]=>lJ K p H Q
 |_=>False
theorem bP (hK:X.K=K):b3 X (.builtin "len") (NL K):=(BM hK).imp λxs H Q h=>by
 match xs,h with
 |[.str z],h=>exact ⟨_,rfl,.inl ⟨z,rfl,h⟩⟩
 |[.ref p],h=>exact ⟨_,rfl,.inr ⟨p,rfl,h⟩⟩
def GG:V->String->Option Bool
 | .non,T=>some (T=="NoneType")
 | .bl _,T=>some (T=="bool"||T=="int")
 | .int _,T=>some (T=="int")
 | .str _,T=>some (T=="str")
 |_,_=>none
def mm (K:Fg)(x c:V)(H:Hp)(Q:VK):Prop:=∃cv t b,cV c=some cv/\jC K H x t/\W.kitOne K t cv=some b/\Q (.bl b) H
def vR (T:String):Bool:=T=="int"||T=="str"||T=="bool"||T=="list"||T=="tuple"||T=="dict"
def Ip (K:Fg):List V->Hp->VK->Prop:=λxs H Q=>match xs with
 |[x,.ty T]=>(match GG x T with|some b=>vR T=true/\Q (.bl b) H|none=>mm K x (.ty T) H Q)
 |[x,c]=>mm K x c H Q
 |_=>False
end
theorem Bo {K:Fg}{H:Hp}{x:V}{T:String}{b:Bool}(h:GG x T=some b)(hp:vR T=true):∃t,jC K H x t/\W.kitOne K t (.type T)=some b:=by
 have ho:T="int"\/T="str"\/T="bool"\/T="list"\/T="tuple"\/T="dict":=by
  unfold vR at hp;simp only [Bool.or_eq_true,beq_iff_eq] at hp
  rcases hp with ((((h|h)|h)|h)|h)|h<;>simp [h]
 cases x with
 |non=>refine ⟨_,.non,?_⟩;rcases ho with rfl|rfl|rfl|rfl|rfl|rfl<;>(cases h;rfl)
 |bl y=>refine ⟨_,.bl y,?_⟩;rcases ho with rfl|rfl|rfl|rfl|rfl|rfl<;>(cases h;rfl)
 |int y=>refine ⟨_,.int y,?_⟩;rcases ho with rfl|rfl|rfl|rfl|rfl|rfl<;>(cases h;rfl)
 |str y=>refine ⟨_,.str y,?_⟩;rcases ho with rfl|rfl|rfl|rfl|rfl|rfl<;>(cases h;rfl)
 |_=>cases h
section
variable {X:Cx}{K:Fg}{a b c e:Expr}{ta tb te:TE}{tA tB':TT}{dG:List Expr}{pos:Pos}
theorem KU (hK:X.K=K):b3 X (.builtin "isinstance") (Ip K):=(BO hK).imp λxs H Q h=>by
 have ref:∀x c,mm K x c H Q->LF K [x,c] H Q:=λx c ⟨cv,t,b,h1,h2,h3,h4⟩=>⟨x,c,cv,t,b,rfl,h1,h2,h3,h4⟩
 match xs,h with
 |[x,.ty T],h=>
  have h':(match GG x T with|some b=>vR T=true/\Q (.bl b) H|none=>mm K x (.ty T) H Q):=h
  cases e:GG x T with
  |none=>rw [e] at h';exact ref _ _ h'
  |some b=>
   rw [e] at h';obtain ⟨t,h1,h2⟩:=Bo (K:=K) (H:=H) e h'.1;exact ⟨x,.ty T,_,t,b,rfl,rfl,h1,h2,h'.2⟩
 |[x,.ref C],h=>exact ref _ _ h
 |[x,.non],h=>exact ref _ _ h
 |[x,.bl _],h=>exact ref _ _ h
 |[x,.int _],h=>exact ref _ _ h
 |[x,.str _],h=>exact ref _ _ h
 |[x,.byt _],h=>exact ref _ _ h
 |[x,.flt _],h=>exact ref _ _ h
def K2 (t:TE):TT:=λσ H Q=>t σ H λx H'=>match x with| .bl k=>Q k H'|_=>False
theorem az {op:CmpOp}{r:R2}(ho:d8 X (compareOp op) r)(ha:PE X a ta)(hb:PE X b tb)(hm:behindInMarks op b=false):PT X (.Compare a [op] [b] pos) (K2 (M7 r ta tb)):=by
 intro pins s σ H Q I h
 refine wpAny_isTrue_Compare1 (b4 (ha pins s σ H _ I h) λv s1 ⟨x,H1,I1,r1,q1⟩=>b4 (hb pins s1 σ H1 _ I1 q1) λu s2 ⟨y,H2,I2,r2,q2⟩=>
  b4 (ho pins s2 σ H2 x y v u _ I2 r1 r2 q2) λcv s3 ⟨z,H3,I3,r3,q3⟩=> ?_) hm
 cases z with
 |bl k=>cases r3;exact wpAny_truthy_bool ⟨H3,I3,q3⟩
 |_=>exact False.elim q3
def qQ (K:Fg)(p:Addr)(H:Hp)(Q:Bool->Hp->Prop):Prop:=(∃xs,(aN K H p xs\/aK K H p xs)/\Q (!xs.isEmpty) H)\/∃kvs,H p=some (.dK kvs)/\Q (!kvs.isEmpty) H
def Nv (K:Fg)(ta:TE):TT:=λσ H Q=>ta σ H λx H'=>match x with
 | .bl k=>Q k H'
 | .non=>Q false H'
 | .int i=>Q (i != 0) H'
 | .str y=>y.length<=sizeLine/\Q ((y.length:Int) != 0) H'
 | .ref p=>qQ K p H' Q
 |_=>False
theorem bt (hK:X.K=K)(ha:PE X a ta)(hp:ur a=true:=by rfl):PT X a (Nv K ta):=by
 subst hK;intro pins s σ H Q I h;rwa[isTrue_plain (b4 (ha pins s σ H _ I h) λv s1 ⟨x,H1,I1,r1,q1⟩=> ?_) (Ea hp)]
 cases x with
 |bl k=>exact jJ pins s1 σ H1 _ v Q I1 r1 ⟨k,rfl,q1⟩
 |non=>exact jJ pins s1 σ H1 _ v Q I1 r1 ⟨false,rfl,q1⟩
 |int i=>exact jJ pins s1 σ H1 _ v Q I1 r1 ⟨_,rfl,q1⟩
 |str y=>exact jJ pins s1 σ H1 _ v Q I1 r1 ⟨_,⟨q1.1,rfl⟩,q1.2⟩
 |ref p=>
  rcases q1 with ⟨xs,hq|hq,q⟩|⟨kvs,hq,q⟩
  ·exact jJ pins s1 σ H1 _ v Q I1 r1 ⟨_,.inl ⟨xs,hq,rfl⟩,q⟩
  ·exact jJ pins s1 σ H1 _ v Q I1 r1 ⟨_,.inr (.inl ⟨xs,hq,rfl⟩),q⟩
  ·exact jJ pins s1 σ H1 _ v Q I1 r1 ⟨_,.inr (.inr ⟨kvs,hq,rfl⟩),q⟩
 |_=>exact False.elim q1
def NR (t u:TT):TT:=λσ H Q=>t σ H λc H1=>rY c (u σ H1 Q) (Q false H1)
def O6 (t u:TT):TT:=λσ H Q=>t σ H λc H1=>rY c (Q true H1) (u σ H1 Q)
theorem eR (ha:PT X a tA)(hb:PW X (.BoolOp .And (b::dG) pos) tB'):PW X (.BoolOp .And (a::b::dG) pos) (NR tA tB'):=IX ha hb
theorem cG (ha:PT X a tA)(hb:PW X (.BoolOp .Or (b::dG) pos) tB'):PW X (.BoolOp .Or (a::b::dG) pos) (O6 tA tB'):=LK ha hb
def Li (ta tb:TE):TE:=λσ H Q=>ta σ H λx H1=>match x with| .bl c=>rY c (tb σ H1 Q) (Q (.bl false) H1)|_=>False
def ND (ta tb:TE):TE:=λσ H Q=>ta σ H λx H1=>match x with| .bl c=>rY c (Q (.bl true) H1) (tb σ H1 Q)|_=>False
theorem ib (ha:PE X a ta)(hb:PE X (.BoolOp .And (b::dG) pos) tb):PE X (.BoolOp .And (a::b::dG) pos) (Li ta tb):=by
 intro pins s σ H Q I h;rwa[BoolOp_and (b4 (ha pins s σ H _ I h) λv s1 ⟨x,H1,I1,r1,q1⟩=> ?_)]
 cases x with
 |bl c=>
  cases r1;rwa[wpAny_truthy_bool ?_]
  cases c with
  |true=>exact hb pins s1 σ H1 Q I1 q1
  |false=>exact ⟨.bl false,H1,I1,rfl,q1⟩
 |_=>exact False.elim q1
theorem Hd (ha:PE X a ta)(hb:PE X (.BoolOp .Or (b::dG) pos) tb):PE X (.BoolOp .Or (a::b::dG) pos) (ND ta tb):=by
 intro pins s σ H Q I h;rwa[BoolOp_or (b4 (ha pins s σ H _ I h) λv s1 ⟨x,H1,I1,r1,q1⟩=> ?_)]
 cases x with
 |bl c=>
  cases r1;rwa[wpAny_truthy_bool ?_]
  cases c with
  |false=>exact hb pins s1 σ H1 Q I1 q1
  |true=>exact ⟨.bl true,H1,I1,rfl,q1⟩
 |_=>exact False.elim q1
def NE (K:Fg)(ta:TE):TE:=λσ H Q=>ta σ H λx H'=>match x with
 | .bl k=>Q (.bl (!k)) H'
 | .non=>Q (.bl true) H'
 | .int i=>Q (.bl (!(i != 0))) H'
 | .str y=>y.length<=sizeLine/\Q (.bl (!((y.length:Int) != 0))) H'
 | .ref p=>qQ K p H' λk H2=>Q (.bl (!k)) H2
 |_=>False
theorem B9 (hK:X.K=K)(ha:PE X a ta):PE X (.UnaryOp .Not a pos) (NE K ta):=by
 subst hK;intro pins s σ H Q I h;rwa[UnaryOp_ (b4 (ha pins s σ H _ I h) λv s1 ⟨x,H1,I1,r1,q1⟩=> ?_)]
 have go:(∃k,MN X.K x H1 k/\Q (.bl (!k)) H1)->wpAny ↑9 X.A (unaryOp .Not v) (EP X pins σ Q) X.xe s1:=λh=>
  not_of (b4 (jJ pins s1 σ H1 x v (λk H2=>Q (.bl (!k)) H2) I1 r1 h) λk s2 ⟨H2,I2,q2⟩=>⟨.bl (!k),H2,I2,rfl,q2⟩)
 cases x with
 |bl k=>exact go ⟨k,rfl,q1⟩
 |non=>exact go ⟨false,rfl,q1⟩
 |int i=>exact go ⟨_,rfl,q1⟩
 |str y=>exact go ⟨_,⟨q1.1,rfl⟩,q1.2⟩
 |ref p=>
  rcases q1 with ⟨xs,hq|hq,q⟩|⟨kvs,hq,q⟩
  ·exact go ⟨_,.inl ⟨xs,hq,rfl⟩,q⟩
  ·exact go ⟨_,.inr (.inl ⟨xs,hq,rfl⟩),q⟩
  ·exact go ⟨_,.inr (.inr ⟨kvs,hq,rfl⟩),q⟩
 |_=>exact False.elim q1
def NN (t:TT)(ta tb:TE):TE:=λσ H Q=>t σ H λc H1=>rY c (ta σ H1 Q) (tb σ H1 Q)
theorem fR (hc:PT X c tA)(ha:PE X a ta)(hb:PE X b tb):PE X (.IfExp c a b pos) (NN tA ta tb):=Dn hc ha hb
def NM (c:TT)(t u:TS):TS:=λD σ H=>c σ H λb H1=>rY b (t D σ H1) (u D σ H1)
theorem aJ {t u:TS}{p q:List Stmt}(hc:PT X c tA)(ha:tK X p t)(hb:tK X q u):PS X (.If c p q pos) (NM tA t u):=LL hc ha hb
def pK (K:Fg)(p:Addr)(lo hi:Option Int)(H:Hp)(Q:VK):Prop:=(∃xs,aN K H p xs/\∀l,H l=none->Q (.ref l) (upd H l (.lst (ff xs lo hi))))\/
 ∃xs,aK K H p xs/\ ¬(HT.sIx xs.length 0 lo=0/\HT.sIx xs.length xs.length hi=xs.length)/\∀l,H l=none->Q (.ref l) (upd H l (.tup (ff xs lo hi)))
def O5 (K:Fg):V->Option Int->Option Int->Hp->VK->Prop:=λx lo hi H Q=>match x with| .ref p=>pK K p lo hi H Q|_=>False
theorem Nt (hK:X.K=K):HM X (O5 K):=by
 subst hK;intro pins s σ H x v vl vu lo hi sl Q I rx hs pl pu h
 cases x with
 |ref p=>
  rcases h with ⟨xs,h1,h2⟩|⟨xs,h1,h2,h3⟩
  ·exact Fw pins s σ H _ v vl vu lo hi sl Q I rx hs pl pu ⟨p,xs,rfl,h1,h2⟩
  ·exact CK pins s σ H _ v vl vu lo hi sl Q I rx hs pl pu ⟨p,xs,rfl,h1,h2,h3⟩
 |_=>exact False.elim h
def K4 (t:TE):TO:=λσ H Q=>t σ H λx H1=>match x with| .int i=>Q (some i) H1|_=>False
theorem dA (h:PE X e te):PO X (some e) (K4 te):=by
 intro pins s σ H Q I hw;rw [evalPart_some];rwa[b4 (h pins s σ H _ I hw) λu s1 ⟨x,H1,I1,r1,q1⟩=> ?_]
 cases x with
 |int i=>obtain ⟨t,rfl⟩:=r1;exact ⟨some i,H1,I1,.int i t,q1⟩
 |_=>exact False.elim q1
def Cj (K:Fg)(T:String)(x:V)(H:Hp)(P:Prop):Prop:=match x with
 | .str _=>T="str"/\P
 | .int _=>T="int"/\P
 | .ref _=>M5 K T x H/\P
 |_=>False
def O9 (K:Fg)(T:String)(r:V->List V->Hp->VK->Prop)(to:TE)(t:TA):TE:=λσ H Q=>to σ H λx H1=>Cj K T x H1 (t σ H1 λxs H2=>r x xs H2 Q)
end
section
variable {X:Cx}{K:Fg}{o e:Expr}{es:List Expr}{to:TE}{t:TA}{name:Str}{apos cpos:Pos}{T id:String}{r:V->List V->Hp->VK->Prop}
theorem wV {x:V}{H:Hp}{P:Prop}(h:Cj K T x H P):M5 K T x H/\P:=by
 cases x with
 |str z=>exact h
 |int i=>exact h
 |ref p=>exact h
 |_=>exact False.elim h
theorem cz (hK:X.K=K)(pa:PlainAttrs T)(slot:Slot T name id)(hty:typeOf (.builtin id)=pure (.type "method_descriptor"))(hm:Au X id r)(ho:PE X o to)(ha:PA X (e::es) t)
(hb:fW o=true:=by rfl)(hp:bd (e::es)=true:=by rfl)(hl:(e::es).length<29:=by decide)(hline:(apos.endLine==cpos.line)=true:=by rfl):
 PE X (.Call (.Attribute o name apos) (e::es) [] cpos) (O9 K T r to t):=by
 subst hK;have h':(b5 e&&bd es)=true:=hp;rw [Bool.and_eq_true] at h';have hs:starEach (e::es) X.env=(false,eval e X.env)::starEach es X.env:=bq h'.1;have hplain:(backTo cpos (starEach es X.env)).any (·.1)=false:=bT h'.2
 have hfew:((backTo cpos (starEach (e::es) X.env)).all (λx=> !x.1)&&(backToKw cpos (keywordEach [] X.env)).all (λx=>x.1.isSome)
  &&decide ((e::es).length+([]:List Keyword).length+(if ([]:List Keyword).isEmpty then 0 else 1)<30))=true:=by
  rw [oA hp,arm_keywordEach_nil];show (true&&true&&decide ((e::es).length+0+0<30))=true;rw [decide_eq_true ↑5];rfl
 intro pins s σ H Q I h;rwa[wpAny_Call_method_late (tH hb) hfew hline rfl (b4 (ho pins s σ H _ I h) λv s1 ⟨x,H1,I1,r1,q1⟩=> ?_)];obtain ⟨ty,q1⟩:=wV q1;obtain ⟨h1,h2⟩:=Co I1 r1 ty;rwa[⟨T,id,pa,slot,hty,h1,h2,?_⟩];have hA:=ha cpos pins s1 σ H1 _ I1 q1;rw [hs] at hA ⊢;rwa[Calls.callWith_builtin (by show (false||(backTo cpos (starEach es X.env)).any (·.1))=false;rw [hplain]<;>rfl) (Calls.evalArgs_plain ?_)];exact b4 hA λus s2 ⟨vs,H2,I2,r2,q2⟩=>hm pins s2 σ H2 x vs v us Q I2 r1 r2 q2
def NQ (K:Fg)(T:String)(r:V->List V->Hp->VK->Prop)(to:TE):TE:=λσ H Q=>to σ H λx H1=>Cj K T x H1 (r x [] H1 Q)
theorem Ca (hK:X.K=K)(pa:PlainAttrs T)(slot:Slot T name id)(hty:typeOf (.builtin id)=pure (.type "method_descriptor"))(hm:Au X id r)(ho:PE X o to)
(hb:fW o=true:=by rfl)(hline:(apos.endLine==cpos.line)=true:=by rfl):PE X (.Call (.Attribute o name apos) [] [] cpos) (NQ K T r to):=by
 subst hK;intro pins s σ H Q I h;rwa[wpAny_Call_method0_late (tH hb) hline (b4 (ho pins s σ H _ I h) λv s1 ⟨x,H1,I1,r1,q1⟩=> ?_)];obtain ⟨ty,q1⟩:=wV q1;obtain ⟨h1,h2⟩:=Co I1 r1 ty;exact ⟨T,id,pa,slot,hty,h1,h2,Calls.callWith_builtin rfl (PySem.evalArgs_none (hm pins s1 σ H1 x [] v [] Q I1 r1 .nil q1))⟩
def Ek (z y:Str):Int:=match Builtin.Str.occurrences z y 0 z.length 1 with|i::_=>(i:Int)|[]=> -1
def Ab (K:Fg)(z:Str)(a:Addr)(H:Hp)(Q:VK):Prop:=∃ts:List Str,aN K H a (ts.map V.str)/\(ts.toArray.foldl (· + ·.length+z.length) 0)<=sizeLine/\(Builtin.Str.glued z ts).length<=sizeLine/\Q (.str (Builtin.Str.glued z ts)) H
def Lb (K:Fg):V->List V->Hp->VK->Prop:=λx xs H Q=>match x,xs with| .str z,[.ref a]=>Ab K z a H Q|_,_=>False
theorem Il (hK:X.K=K):Au X "str.join" (Lb K):=(DX hK).imp λx xs H Q h=>by
 match x,xs,h with
 | .str z,[.ref a],h=>obtain ⟨ts,h1⟩:=h;exact ⟨z,a,ts,rfl,rfl,h1⟩
def Lg:V->List V->Hp->VK->Prop:=λx xs H Q=>match x,xs with| .int i,[]=>Q (.int (Builtin.Int.intBits i)) H|_,_=>False
theorem Ch:Au X "int.bit_length" Lg:=Gr.imp λx xs H Q h=>by
 match x,xs,h with
 | .int i,[],h=>exact ⟨i,rfl,rfl,h⟩
def G2 (a:Addr)(y:V)(H:Hp)(Q:VK):Prop:=∃xs,H a=some (.lst xs)/\xs.length<sizeLine/\Q .non (upd H a (.lst (xs++[y])))
def Fk:V->List V->Hp->VK->Prop:=λx xs H Q=>match x,xs with| .ref a,[y]=>G2 a y H Q|_,_=>False
theorem bw:Au X "list.append" Fk:=by
 intro pins s σ H x xs v us Q I rx rs h
 match x,xs,h with
 | .ref a,[y],h=>
   obtain ⟨ys,h1,h2,h3⟩:=h;exact Bk pins s σ H _ _ v us Q I rx rs ⟨a,ys,y,rfl,rfl,h1,h2,h3⟩
def G5 (K:Fg)(a:Addr)(H:Hp)(Q:VK):Prop:=∃bs:List Bool,aN K H a (List.map V.bl bs)/\Q (.bl (bs.all _root_.id)) H
def NS (K:Fg):List V->Hp->VK->Prop:=λxs H Q=>match xs with|[.ref a]=>G5 K a H Q|_=>False
theorem Hh (hK:X.K=K)(hc:X.calm=true):b3 X (.builtin "all") (NS K):=(BR hK hc).imp λxs H Q h=>by
 match xs,h with
 |[.ref a],h=>obtain ⟨bs,h1⟩:=h;exact ⟨a,bs,rfl,h1⟩
def xF (K:Fg)(p:Addr)(H:Hp)(Q:VK):Prop:=∃ys,(aN K H p ys\/aK K H p ys)/\∀l,H l=none->Q (.ref l) (upd H l (.lst ys))
def K9 (K:Fg):List V->Hp->VK->Prop:=λxs H Q=>match xs with|[.ref a]=>xF K a H Q|_=>False
theorem lE (hK:X.K=K):b3 X (.type "list") (K9 K):=(zH hK).imp λxs H Q h=>by
 match xs,h with
 |[.ref a],h=>obtain ⟨ys,h1⟩:=h;exact ⟨a,ys,rfl,h1⟩
def Cr (K:Fg)(p:Addr)(H:Hp)(Q:VK):Prop:=∃ys,(aN K H p ys/\∀l,H l=none->Q (.ref l) (upd H l (.tup ys)))\/(aK K H p ys/\Q (.ref p) H)
def Io (K:Fg):List V->Hp->VK->Prop:=λxs H Q=>match xs with|[.ref a]=>Cr K a H Q|_=>False
theorem fh (hK:X.K=K):b3 X (.type "tuple") (Io K):=(xW hK).imp λxs H Q h=>by
 match xs,h with
 |[.ref a],h=>obtain ⟨ys,h1⟩:=h;exact ⟨a,ys,rfl,h1⟩
def rT (K:Fg)(p:Addr)(H:Hp)(R:It->Hp->Prop):Prop:=(∃xs,aN K H p xs/\R (B0 K p) H)\/∃xs,aK K H p xs/\R (BZ K p) H
def NB (K:Fg)(te:TE):TI:=λσ H R=>te σ H λx H1=>match x with| .str z=>R (Nd z) H1| .ref p=>rT K p H1 R|_=>False
end
theorem bg {X:Cx}{K:Fg}(hK:X.K=K){tg e:Expr}{te:TE}(he:PE X e te):PI X tg e (NB K te):=by
 subst hK;intro pins s σ H R I h;rwa[b4 (he pins s σ H _ I h) λv s1 ⟨x,H1,I1,r1,q⟩=> ?_];have one:∀ {t:TE},True:=λ{_}=>trivial
 have go:((∃z,x= .str z/\R (Nd z) H1)\/(∃a,x= .ref a/\(∃xs,aN X.K H1 a xs)/\R (B0 X.K a) H1)\/(∃a,x= .ref a/\(∃xs,aK X.K H1 a xs)/\R (BZ X.K a) H1))->
  wpAny ↑9 X.A (pyIter v) (OR X pins σ tg R) X.xe s1:=λq=>by
  rcases q with ⟨z,rfl,q⟩|⟨a,rfl,⟨xs,hq⟩,q⟩|⟨a,rfl,⟨xs,hq⟩,q⟩
  ·obtain ⟨t,rfl⟩:=r1
   have fp:∀b∈[s1.heap.objs.size],kz X pins H1 b:=λb hb=>by
    have e:b=s1.heap.objs.size:=by simpa using hb
    subst e;exact I1.fpOk ↑15 (I1.hok.fresh ↑15)
   cases ha:z.cps.all (· <128)
   ·exact wpAny_pyIter_wide ha ⟨s1.heap.objs.size,[s1.heap.objs.size],_,_,H1,rfl,I1.kept (t':=s1.toks) λb o e=>Heap.get?_push_of_some _ e,ud (.inr rfl),⟨Nat.zero_le _,_,Heap.get?_push_size _ rfl,rfl,rfl⟩,fp,q⟩
   ·exact wpAny_pyIter_ascii ha ⟨s1.heap.objs.size,[s1.heap.objs.size],_,_,H1,rfl,I1.kept (t':=s1.toks) λb o e=>Heap.get?_push_of_some _ e,ud (.inl rfl),⟨Nat.zero_le _,_,Heap.get?_push_size _ rfl,rfl,rfl⟩,fp,q⟩
  ·cases r1;obtain ⟨its,rv,p,hz⟩:=I1.list hq;rwa[wpAny_pyIter_list p.isList ?_];rwa[⟨s1.heap.objs.size,[s1.heap.objs.size],_,_,H1,rfl,I1.kept (t':=s1.toks) λb o e=>Heap.get?_push_of_some _ e,Ay a _,⟨_,Heap.get?_push_size _ rfl,rfl,rfl⟩,λb hb=> ?_,q⟩]
   have e:b=s1.heap.objs.size:=by simpa using hb
   subst e;exact I1.fpOk ↑15 (I1.hok.fresh ↑15)
  ·cases r1;obtain ⟨its,rv,p,hz⟩:=I1.tuple hq;rwa[wpAny_pyIter_tuple (show s1.heap.IsTuple a its.toArray from p) ?_];rwa[⟨s1.heap.objs.size,[s1.heap.objs.size],_,_,H1,rfl,I1.kept (t':=s1.toks) λb o e=>Heap.get?_push_of_some _ e,ym a _,⟨_,Heap.get?_push_size _ rfl,rfl,rfl⟩,λb hb=> ?_,q⟩]
   have e:b=s1.heap.objs.size:=by simpa using hb
   subst e;exact I1.fpOk ↑15 (I1.hok.fresh ↑15)
 cases x with
 |str z=>exact go (.inl ⟨z,rfl,q⟩)
 |ref p=>
  rcases q with ⟨xs,h1,h2⟩|⟨xs,h1,h2⟩
  ·exact go (.inr (.inl ⟨p,rfl,⟨xs,h1⟩,h2⟩))
  ·exact go (.inr (.inr ⟨p,rfl,⟨xs,h1⟩,h2⟩))
 |_=>exact False.elim q
section
variable {X:Cx}{tg:Expr}
def K3 (ta:TA):TI:=λσ H R=>ta σ H λvs H1=>match vs with|[.int j]=>(-4611686018427387904<=j/\j<4611686018427387904)/\R (G9 0 j.toNat) H1|_=>False
theorem cy {a:Expr}{ta:TA}{p pos:Pos}(hg:Gl X "range")(hm:X.mg "range"=none)(ha:PA X [a] ta)(hs:b5 a=true:=by rfl):PI X tg (.Call (.Name "range" p) [a] [] pos) (K3 ta):=by
 intro pins s σ H R I h;rwa[Call_ (mh I hg hm boot_range (PyProof.Rows.callWith_type1 (b4 (ha pos pins s σ H _ I h) λus s1 ⟨vs,H1,I1,r1,q1⟩=> ?_) (bq hs) rfl))]
 match vs,q1 with
 |[.int j],q1=>
  cases r1 with
  |cons r rr=>
   cases rr;obtain ⟨t,rfl⟩:=r;have h1: -4611686018427387904<=j:=q1.1.1;have h2:j<4611686018427387904:=q1.1.2;exact call_range_1 (Dc I1 ↑5 ↑5 ↑5 ↑5 (by simpa using q1.2))
def setL (p:Addr)(k:Int)(v:V)(H:Hp)(Q:Hp->Prop):Prop:=∃xs j,H p=some (.lst xs)/\xH xs.length k=some j/\Q (upd H p (.lst (xs.set j v)))
def Fi:V->V->V->Hp->(Hp->Prop)->Prop:=λo i v H Q=>match o,i with| .ref p,.int k=>setL p k v H Q|_,_=>False
theorem iq:EO X Fi:=by
 intro pins s σ H o i v ov iv u Q I ro ri rv h
 match o,i,h with
 | .ref p,.int k,h=>
   obtain ⟨xs,j,h1,h2,h3⟩:=h;exact CL pins s σ H _ _ v ov iv u Q I ro ri rv ⟨p,xs,k,j,rfl,rfl,h1,h2,h3⟩
def Cn (K:Fg)(n:Nat)(a:Addr)(H:Hp)(P:List V->Prop):Prop:=∃xs,aK K H a xs/\xs.length=n/\P xs
def Nu (K:Fg)(n:Nat)(t:At):TG:=λv σ H Q=>match v with| .ref a=>Cn K n a H λxs=>t xs σ H Q|_=>False
def Ik (t:TG)(u:At):At:=λvs σ H Q=>match vs with|v::r=>t v σ H λσ' H'=>u r σ' H' Q|[]=>False
def KM:At:=λvs σ H Q=>match vs with|[]=>Q σ H|_=>False
theorem eM:EQ X [] KM:=λpins s σ H vs us Q I r h=>by
 match vs,h with
 |[],h=>exact FS pins s σ H [] us Q I r ⟨rfl,h⟩
theorem aV {e:Expr}{es:List Expr}{t:TG}{u:At}(h1:PG X e t)(h2:EQ X es u)(hs:b5 e=true:=by rfl):EQ X (e::es) (Ik t u):=λpins s σ H vs us Q I r h=>by
 match vs,h with
 |v::vr,h=>exact Dl h1 h2 (by cases e<;>first|rfl|cases hs) pins s σ H _ us Q I r ⟨v,vr,rfl,h⟩
theorem ge {K:Fg}(hK:X.K=K){es:List Expr}{k:Nat}{t:At}{n:Nat}{pos:Pos}(hc:X.calm=true)(h:EQ X es t)
(hn:(assignEach es X.env).length=n:=by rfl)(hst:(assignEach es X.env).findIdx? (·.1)=none:=by rfl):PG X (.Tuple es k pos) (Nu K n t):=λpins s σ H v u Q I r q=>by
 match v,q with
 | .ref a,⟨xs,h1,h2,h3⟩=>exact FT hK hc h hn hst pins s σ H _ u Q I r ⟨a,xs,rfl,h1,h2,h3⟩
end
def Hj (pk:List (Option Nat))(wi:TI)(g:TG)(tt:TT)(te:TE):TE:=λσ H Q=>wi σ H λJ H1=>wy J pk g tt te σ H1 Q
def NO (wi:TI)(g:TG)(tb:TS):TS:=λD σ H=>wi σ H λJ H1=>zD J g tb D σ H1
section
variable {X:Cx}{scope:Scope}{N':List Str}{pk:List (Option Nat)}{tg elt iter:Expr}{ifs:List Expr}{pos:Pos}{wi:TI}{g:TG}{tt:TT}{te:TE}
def vY:Expr->Bool
 | .Set _ _ _=>false
 |_=>true
theorem kb {e:Expr}{env:Env}(h:vY e=true)(x:Value):foldedSetIterable e env x=pure x:=by
 unfold foldedSetIterable
 cases e<;>first|rfl|cases h
theorem bD (hc:X.calm=true)(S:d9 X scope N' pk)(hi:PI X tg iter wi)(hg:∀C s H ex,PG ↑40 tg g)(ht:∀C s H ex,E2 ↑40 ifs tt)
(he:∀C s H ex,PE ↑40 elt te)(hs:vY iter=true:=by rfl):PE X (.ListComp elt [⟨tg,iter,ifs,0⟩] scope pos) (Hj pk wi g tt te):=
 FV hc S hi hg ht he (kb hs)
theorem fM {i:Nat}{x:Str}{px spos:Pos}(hc:X.calm=true)(hN:X.N.Nodup)(hx:X.N[i]? =some x)(hl:KB X.env.scope x)(S:d9 X scope N' pk)(hi:PI X tg iter wi)(hg:∀C s H ex,PG ↑40 tg g)
(ht:∀C s H ex,E2 ↑40 ifs tt)(he:∀C s H ex,PE ↑40 elt te)(hs:vY iter=true:=by rfl)
(hsw:swapsWith (.ListComp elt [⟨tg,iter,ifs,0⟩] scope pos) (some (.Name x px)) spos.line X.env=pure true:=by rfl)(hf:X.fn x=true\/X.env.scope.names.lookup x=some .local:=by first|exact .inl rfl|exact .inr rfl|assumption):
 PS X (.Assign [.Name x px] (.ListComp elt [⟨tg,iter,ifs,0⟩] scope pos) spos) (Fq (Hj pk wi g tt te) (xL i)):=
 FP hc hN hx hl S hi hg ht he (kb hs) hsw hf
theorem du {body:List Stmt}{tb:TS}(hp:PassesOwn ↑9 X.A X.env X.xe)(hc:X.calm=true)(hi:PI X tg iter wi)(hg:PG X tg g)(hb:tK X body tb)
(hs:vY iter=true:=by rfl):PS X (.For tg iter body [] pos) (NO wi g tb):=IZ hp hc hi hg hb (kb hs)
end
def uX (c:TT)(tb:TS):TS:=λD σ H=>∃W:Nat->St->Hp->Prop,(∃m,W m σ H)/\∀m σ H,W m σ H->
 c σ H λb H1=>rY b (∃N:St->Hp->Prop,(∀σ' H',N σ' H'->∃m',m'<m/\W m' σ' H')/\tb {D with nx:=N,ct:=N,bk:=D.nx} σ H1) (D.nx σ H1)
theorem B8 {X:Cx}{pos:Pos}{c:Expr}{body:List Stmt}{tc:TT}{tb:TS}(hp:PassesOwn ↑9 X.A X.env X.xe)(hc:PT X c tc)(hb:tK X body tb):PS X (.While c body [] pos) (uX tc tb):=Di hp hc hb
def Fp (t u:TS):TS:=λD σ H=>∃M:St->Hp->Prop,t {D with nx:=M} σ H/\∀σ' H',M σ' H'->u D σ' H'
theorem fP {X:Cx}{st:Stmt}{dG:List Stmt}{t u:TS}(h1:PS X st t)(h2:tK X dG u):tK X (st::dG) (Fp t u):=by
 intro pins s σ H D I h;obtain ⟨M,ht,hM⟩:=h;rwa[wpAny_execs_cons (b4 (h1 pins s σ H {D with nx:=M} I ht) λf s1 q=> ?_)]
 cases f with
 |next=>
  obtain ⟨σ',H',I',q⟩:=q;exact h2 pins s1 σ' H' D I' (hM σ' H' q)
 |ret v=>exact q
 |brk=>exact q
 |cont=>exact q
theorem qc {t u:TS}{D:k7}{σ:St}{H:Hp}(M:St->Hp->Prop)(h1:t {D with nx:=M} σ H)(h2:∀σ' H',M σ' H'->u D σ' H'):Fp t u D σ H:=⟨M,h1,h2⟩
section
variable {K:Fg}{H:Hp}{p q:Addr}{xs ys:List V}{Q:VK}
theorem cr (h:aN K H p ys)(g:Q (.int ys.length) H):lJ K p H Q:=⟨ys,.inl h,g⟩
theorem cY (h:aK K H p ys)(g:Q (.int ys.length) H):lJ K p H Q:=⟨ys,.inr h,g⟩
theorem bi {i:Int}{v:V}(h:aN K H p xs)(e:ly xs i=some v)(g:Q v H):qR K p i H Q:=⟨xs,.inl h,v,e,g⟩
theorem ai {i:Int}{v:V}(h:aK K H p xs)(e:ly xs i=some v)(g:Q v H):qR K p i H Q:=⟨xs,.inr h,v,e,g⟩
theorem zX {z:Str}{i:Int}{c:Nat}(hz:z.length<=sizeLine)(e:ly z.cps.toList i=some c)(g:Q (.str ⟨#[c]⟩) H):vg z i H Q:=⟨hz,c,e,g⟩
theorem vh {x:V}(h:aN K H p xs)(h1:fc x=true)(h2:xs.all fc=true)(g:Q (.bl (xI x xs)) H):ui K false x p H Q:=⟨xs,.inl h,h1,h2,g⟩
theorem uh {x:V}(h:aN K H p xs)(h1:fc x=true)(h2:xs.all fc=true)(g:Q (.bl (!xI x xs)) H):ui K true x p H Q:=⟨xs,.inl h,h1,h2,g⟩
theorem ug {x:V}(h:aK K H p xs)(h1:fc x=true)(h2:xs.all fc=true)(g:Q (.bl (!xI x xs)) H):ui K true x p H Q:=⟨xs,.inr h,h1,h2,g⟩
theorem Fz {R:Bool->Hp->Prop}(h:aN K H p xs)(g:R (!xs.isEmpty) H):qQ K p H R:= .inl ⟨xs,.inl h,g⟩
theorem IM {lo hi:Option Int}(h:aN K H p xs)(g:∀l,H l=none->Q (.ref l) (upd H l (.lst (ff xs lo hi)))):pK K p lo hi H Q:= .inl ⟨xs,h,g⟩
theorem IL {lo hi:Option Int}(h:aK K H p xs)(hw: ¬(HT.sIx xs.length 0 lo=0/\HT.sIx xs.length xs.length hi=xs.length))(g:∀l,H l=none->Q (.ref l) (upd H l (.tup (ff xs lo hi)))):pK K p lo hi H Q:= .inr ⟨xs,h,hw,g⟩
theorem J2 {z:Str}{ts:List Str}(h:aN K H p (ts.map V.str))(h1:(ts.toArray.foldl (· + ·.length+z.length) 0)<=sizeLine)(h2:(Builtin.Str.glued z ts).length<=sizeLine)(g:Q (.str (Builtin.Str.glued z ts)) H):Ab K z p H Q:=⟨ts,h,h1,h2,g⟩
theorem dM {y:V}(h:H p=some (.lst xs))(hz:xs.length<sizeLine)(g:Q .non (upd H p (.lst (xs++[y])))):G2 p y H Q:=⟨xs,h,hz,g⟩
theorem HH {bs:List Bool}(h:aN K H p (List.map V.bl bs))(g:Q (.bl (bs.all id)) H):G5 K p H Q:=⟨bs,h,g⟩
theorem Lm (h:aN K H p ys)(g:∀l,H l=none->Q (.ref l) (upd H l (.tup ys))):Cr K p H Q:=⟨ys,.inl ⟨h,g⟩⟩
theorem cW {R:It->Hp->Prop}(h:aN K H p xs)(g:R (B0 K p) H):rT K p H R:= .inl ⟨xs,h,g⟩
theorem dj {R:It->Hp->Prop}(h:aK K H p xs)(g:R (BZ K p) H):rT K p H R:= .inr ⟨xs,h,g⟩
theorem gI {k:Int}{j:Nat}{v:V}{R:Hp->Prop}(h:H p=some (.lst xs))(hj:xH xs.length k=some j)(g:R (upd H p (.lst (xs.set j v)))):setL p k v H R:=⟨xs,j,h,hj,g⟩
theorem pH {n:Nat}{P:List V->Prop}(h:aK K H p xs)(hl:xs.length=n)(g:P xs):Cn K n p H P:=⟨xs,h,hl,g⟩
end
theorem fJ {i j:Int}(h1: -18446744073709551616<i)(h2:i<18446744073709551616):wN i j:= .inl ⟨h1,h2⟩
theorem jl {i j:Int}(h1: -18446744073709551616<j)(h2:j<18446744073709551616):wN i j:= .inr ⟨h1,h2⟩
theorem Hz {i j:Int}(h1:0<j)(h2:j<1073741824):BV i j:=⟨h1,h2⟩
theorem xU {i j:Int}(h1:0<=j)(h2:j<=1000000)(h3:i.natAbs<18446744073709551616):zR i j:=⟨h1,h2,h3⟩
theorem oJ (x:Str):x.cps.toList.length=x.length:=by simp [Str.length]
theorem zW {n:Nat}(h:n<=9000):n<sizeLine:=by rw [sizeLine_eq];omega
def OQ (K:Fg)(H:Hp)(a:Addr)(ns:List Int):Prop:=aN K H a (ns.map V.int)/\ns.length<=63
inductive D where
 |non|bl (b:Bool)|int (i:Int)|str (x:Str)|lst (ds:List D)|tup (ds:List D)
mutual
def sq:D->D->Bool
 | .non,.non=>true
 | .bl a,.bl b=>a==b
 | .bl a,.int b=>(if a then 1 else 0)==b
 | .int a,.bl b=>a==(if b then 1 else 0)
 | .int a,.int b=>a==b
 | .str a,.str b=>a==b
 | .lst xs,.lst ys=>eqDs xs ys
 | .tup xs,.tup ys=>eqDs xs ys
 |_,_=>false
def eqDs:List D->List D->Bool
 |[],[]=>true
 |x::xs,y::ys=>sq x y&&eqDs xs ys
 |_,_=>false
end
mutual
theorem nh:∀d:D,sq d d=true
 | .non=>rfl
 | .bl a=>by simp [sq]
 | .int a=>by simp [sq]
 | .str a=>by simp [sq]
 | .lst xs=>by rw [sq];exact eqDs_refl xs
 | .tup xs=>by rw [sq];exact eqDs_refl xs
theorem eqDs_refl:∀ds:List D,eqDs ds ds=true
 |[]=>rfl
 |d::ds=>by rw [eqDs,nh d,eqDs_refl ds];rfl
end
theorem gQ:∀ {xs ys:List D},xs.length≠ys.length->eqDs xs ys=false
 |[],[],h=>absurd rfl h
 |[],_::_,_=>by simp [eqDs]
 |_::_,[],_=>by simp [eqDs]
 |x::xs,y::ys,h=>by
  rw [eqDs,gQ (xs:=xs) (ys:=ys) (by simpa using h),Bool.and_false]
theorem gS:∀ {xs ys:List D},xs.length=ys.length->((List.range xs.length).all λj=>sq (xs.getD j .non) (ys.getD j .non))=eqDs xs ys
 |[],[],_=>rfl
 |[],_::_,h=>by simp at h
 |_::_,[],h=>by simp at h
 |x::xs,y::ys,h=>by
  have ih:=gS (xs:=xs) (ys:=ys) (by simpa using h);rw [eqDs,<-ih,List.length_cons,List.range_succ_eq_map,List.all_cons,List.all_map];rfl
inductive cI (K:Fg)(H:Hp):V->D->Prop
 |non:cI K H .non .non
 |bl (b:Bool):cI K H (.bl b) (.bl b)
 |int (i:Int):cI K H (.int i) (.int i)
 |str (x:Str):cI K H (.str x) (.str x)
 |lst {a:Addr} {xs:List V} {ds:List D} (h:aN K H a xs) (hl:xs.length=ds.length) (hi:∀(i:Nat) x d,xs[i]? =some x->ds[i]? =some d->cI K H x d):cI K H (.ref a) (.lst ds)
 |tup {a:Addr} {xs:List V} {ds:List D} (h:aK K H a xs) (hl:xs.length=ds.length) (hi:∀(i:Nat) x d,xs[i]? =some x->ds[i]? =some d->cI K H x d):cI K H (.ref a) (.tup ds)
mutual
def jF:D->Nat
 | .lst ds=>deps ds+1
 | .tup ds=>deps ds+1
 |_=>0
def deps:List D->Nat
 |[]=>0
 |d::ds=>max (jF d) (deps ds)
end
theorem ms:∀ {ds:List D} {i:Nat} {d:D},ds[i]? =some d->jF d<=deps ds
 |[],_,_,h=>by simp at h
 |d::ds,0,_,h=>by simp at h;subst h;rw [deps];exact Nat.le_max_left _ _
 |d::ds,i+1,e,h=>by
  have:=ms (ds:=ds) (i:=i) (d:=e) (by simpa using h);rw [deps];exact Nat.le_trans this (Nat.le_max_right _ _)
section
variable {X:Cx}{pins:List ↑20}{σ:St}{H:Hp}{s:Shared}
theorem xC {a:Addr}{xs ys:List V}(I:aL X pins σ H s)(h:aN X.K H a xs)(h':aK X.K H a ys):False:=by
 obtain ⟨its,_,p,_⟩:=I.list h;obtain ⟨its2,_,p2,_⟩:=I.tuple h';obtain ⟨o,e,c,_⟩:=p.isList;obtain ⟨o',e',c',_⟩:=p2;rw [e] at e';cases e';rw [c] at c';injection c' with c2;exact absurd c2 ↑1
theorem cI.inj (I:aL X pins σ H s){x:V}{d e:D}(h:cI X.K H x d)(h':cI X.K H x e):d=e:=by
 induction h generalizing e with
 |non=>cases h';rfl
 |bl b=>cases h';rfl
 |int i=>cases h';rfl
 |str z=>cases h';rfl
 | @lst a xs ds hq hl hi ih=>
   cases h' with
   | @lst _ ys es hq' hl' hi'=>
     have exy:=I.list_inj hq hq';subst exy;congr 1;rwa[List.ext_getElem ↑5 λi h1 h2=> ?_];exact ih i xs[i] _ ↑27 (by simp [h1]) (hi' i xs[i] _ ↑27 (by simp [h2]))
   |tup hq' _ _=>exact (xC I hq hq').elim
 | @tup a xs ds hq hl hi ih=>
   cases h' with
   | @tup _ ys es hq' hl' hi'=>
     have exy:=I.tuple_inj hq hq';subst exy;congr 1;rwa[List.ext_getElem ↑5 λi h1 h2=> ?_];exact ih i xs[i] _ ↑27 (by simp [h1]) (hi' i xs[i] _ ↑27 (by simp [h2]))
   |lst hq' _ _=>exact (xC I hq' hq).elim
open PySem.SeqAt in
theorem nj (I:aL X pins σ H s){x:V}{d:D}(h:cI X.K H x d):∀ {y:V} {e:D} {u v:Value} {A:Around},cI X.K H y e->bp x u->bp y v->A.units+jF d<cLine->EqAt A s u v (sq d e):=by
 have flat:∀ {x y:V} {u v:Value} {A:Around},fc x=true->fc y=true->bp x u->bp y v->EqAt A s u v (GU x y):=λf1 f2 r1 r2=>En r1 r2 f1 f2
 induction h with
 |non=>
  intro y e u v A hy ru rv hu
  cases hy with
  |non=>exact flat (x:= .non) (y:= .non) rfl rfl ru rv
  |bl b=>exact flat (x:= .non) (y:= .bl b) rfl rfl ru rv
  |int i=>exact flat (x:= .non) (y:= .int i) rfl rfl ru rv
  |str z=>exact flat (x:= .non) (y:= .str z) rfl rfl ru rv
  |lst hq _ _=>cases ru;cases rv;obtain ⟨_,_,p,_⟩:=I.list hq;exact EqAt.none_list p.isList ↑5
  |tup hq _ _=>cases ru;cases rv;obtain ⟨_,_,p,_⟩:=I.tuple hq;exact EqAt.none_tuple p ↑5
 |bl b=>
  intro y e u v A hy ru rv hu
  cases hy with
  |non=>exact flat (x:= .bl b) (y:= .non) rfl rfl ru rv
  |bl c=>exact flat (x:= .bl b) (y:= .bl c) rfl rfl ru rv
  |int i=>exact flat (x:= .bl b) (y:= .int i) rfl rfl ru rv
  |str z=>exact flat (x:= .bl b) (y:= .str z) rfl rfl ru rv
  |lst hq _ _=>cases ru;cases rv;obtain ⟨_,_,p,_⟩:=I.list hq;exact EqAt.bool_list b p.isList ↑5
  |tup hq _ _=>cases ru;cases rv;obtain ⟨_,_,p,_⟩:=I.tuple hq;exact EqAt.bool_tuple b p ↑5
 |int i=>
  intro y e u v A hy ru rv hu
  cases hy with
  |non=>exact flat (x:= .int i) (y:= .non) rfl rfl ru rv
  |bl c=>exact flat (x:= .int i) (y:= .bl c) rfl rfl ru rv
  |int j=>exact flat (x:= .int i) (y:= .int j) rfl rfl ru rv
  |str z=>exact flat (x:= .int i) (y:= .str z) rfl rfl ru rv
  |lst hq _ _=>obtain ⟨t,rfl⟩:=ru;cases rv;obtain ⟨_,_,p,_⟩:=I.list hq;exact EqAt.int_list i t p.isList ↑5
  |tup hq _ _=>obtain ⟨t,rfl⟩:=ru;cases rv;obtain ⟨_,_,p,_⟩:=I.tuple hq;exact EqAt.int_tuple i t p ↑5
 |str z=>
  intro y e u v A hy ru rv hu
  cases hy with
  |non=>exact flat (x:= .str z) (y:= .non) rfl rfl ru rv
  |bl c=>exact flat (x:= .str z) (y:= .bl c) rfl rfl ru rv
  |int j=>exact flat (x:= .str z) (y:= .int j) rfl rfl ru rv
  |str z'=>exact flat (x:= .str z) (y:= .str z') rfl rfl ru rv
  |lst hq _ _=>obtain ⟨t,rfl⟩:=ru;cases rv;obtain ⟨_,_,p,_⟩:=I.list hq;exact EqAt.str_list z t p.isList ↑5
  |tup hq _ _=>obtain ⟨t,rfl⟩:=ru;cases rv;obtain ⟨_,_,p,_⟩:=I.tuple hq;exact EqAt.str_tuple z t p ↑5
 | @lst a xs ds hq hl hi ih=>
   intro y e u v A hy ru rv hu
   have hd0:jF (.lst ds)=deps ds+1:=by rw [jF]
   cases ru
   obtain ⟨its,r1,p1,z1⟩:=I.list hq
   cases hy with
   |non=>cases rv;exact EqAt.list_none p1.isList ↑5
   |bl b=>cases rv;exact EqAt.list_bool b p1.isList ↑5
   |int j=>obtain ⟨t,rfl⟩:=rv;exact EqAt.list_int j t p1.isList ↑5
   |str z=>obtain ⟨t,rfl⟩:=rv;exact EqAt.list_str z t p1.isList ↑5
   | @lst b ys es hq' hl' hi'=>
     cases rv
     by_cases hab:a=b
     ·subst hab
      have e:=cI.inj I (.lst hq hl hi) (.lst hq' hl' hi')
      rw [<-e,nh]
      exact EqAt.same _
     obtain ⟨its2,r2,p2,z2⟩:=I.list hq'
     rw [sq]
     have l1:=r1.length
     have l2:=r2.length
     by_cases hlen:ds.length=es.length
     ·rw [<-gS hlen]
      have es1:ds.length=its.toArray.size:=by rw [List.size_toArray];omega
      rw [es1]
      rwa[EqAt.of_refs hab (RcAt.lists p1.isList p2.isList (by simp only [List.size_toArray];omega) ↑5 λj h1 h2=> ?_)]
      have j1:j<xs.length:=by rw [List.size_toArray] at h1;omega
      have j2:j<ys.length:=by rw [List.size_toArray] at h2;omega
      obtain ⟨w1,e1,q1⟩:=r1.get (i:=j) (x:=xs[j]) ↑27
      obtain ⟨w2,e2,q2⟩:=r2.get (i:=j) (x:=ys[j]) ↑27
      have k1:its.toArray[j]=w1:=by
       have:its[j]? =some its.toArray[j]:=by simp
       rw [this] at e1;exact Option.some.inj e1
      have k2:its2.toArray[j]=w2:=by
       have:its2[j]? =some its2.toArray[j]:=by simp
       rw [this] at e2;exact Option.some.inj e2
      rw [k1,k2]
      have d1:ds[j]? =some (ds.getD j .non):=by simp [List.getD,List.getElem?_eq_getElem (show j<ds.length by omega)]
      have d2:es[j]? =some (es.getD j .non):=by simp [List.getD,List.getElem?_eq_getElem (show j<es.length by omega)]
      have hdj:=ms d1
      rwa[ih j xs[j] _ ↑27 d1 (hi' j ys[j] _ ↑27 d2) q1 q2 ?_]
      have:A.in1.units=A.units+1:=rfl
      omega
     ·rw [gQ hlen]
      exact EqAt.of_refs hab (RcAt.lists_lengths p1.isList p2.isList (by simp only [List.size_toArray];rw [bne_iff_ne];omega) ↑5)
   |tup hq' _ _=>cases rv;obtain ⟨_,_,p2,_⟩:=I.tuple hq';exact EqAt.list_tuple p1.isList p2 ↑5
 | @tup a xs ds hq hl hi ih=>
   intro y e u v A hy ru rv hu
   have hd0:jF (.tup ds)=deps ds+1:=by rw [jF]
   cases ru
   obtain ⟨its,r1,p1,z1⟩:=I.tuple hq
   cases hy with
   |non=>cases rv;exact EqAt.tuple_none p1 ↑5
   |bl b=>cases rv;exact EqAt.tuple_bool b p1 ↑5
   |int j=>obtain ⟨t,rfl⟩:=rv;exact EqAt.tuple_int j t p1 ↑5
   |str z=>obtain ⟨t,rfl⟩:=rv;exact EqAt.tuple_str z t p1 ↑5
   |lst hq' _ _=>cases rv;obtain ⟨_,_,p2,_⟩:=I.list hq';exact EqAt.tuple_list p1 p2.isList ↑5
   | @tup b ys es hq' hl' hi'=>
     cases rv
     by_cases hab:a=b
     ·subst hab
      have e:=cI.inj I (.tup hq hl hi) (.tup hq' hl' hi')
      rw [<-e,nh]
      exact EqAt.same _
     obtain ⟨its2,r2,p2,z2⟩:=I.tuple hq'
     rw [sq]
     have l1:=r1.length
     have l2:=r2.length
     have res:eqDs ds es=((List.range (min its.toArray.size its2.toArray.size)).all (λj=>sq (ds.getD j .non) (es.getD j .non))&&its.toArray.size==its2.toArray.size):=by
      by_cases hlen:ds.length=es.length
      ·have e1:its.toArray.size=ds.length:=by rw [List.size_toArray];omega
       have e2:its2.toArray.size=ds.length:=by rw [List.size_toArray];omega
       rw [e1,e2,Nat.min_self,gS hlen];simp
      ·rw [gQ hlen]
       have:(its.toArray.size==its2.toArray.size)=false:=beq_eq_false_iff_ne.mpr (by simp only [List.size_toArray];omega)
       rw [this,Bool.and_false]
     rw [res]
     rwa[EqAt.of_refs hab (RcAt.tuples p1 p2 ↑5 λj h1 h2=> ?_)]
     have j1:j<xs.length:=by rw [List.size_toArray] at h1;omega
     have j2:j<ys.length:=by rw [List.size_toArray] at h2;omega
     obtain ⟨w1,e1,q1⟩:=r1.get (i:=j) (x:=xs[j]) ↑27
     obtain ⟨w2,e2,q2⟩:=r2.get (i:=j) (x:=ys[j]) ↑27
     have k1:its.toArray[j]=w1:=by
      have:its[j]? =some its.toArray[j]:=by simp
      rw [this] at e1;exact Option.some.inj e1
     have k2:its2.toArray[j]=w2:=by
      have:its2[j]? =some its2.toArray[j]:=by simp
      rw [this] at e2;exact Option.some.inj e2
     rw [k1,k2]
     have d1:ds[j]? =some (ds.getD j .non):=by simp [List.getD,List.getElem?_eq_getElem (show j<ds.length by omega)]
     have d2:es[j]? =some (es.getD j .non):=by simp [List.getD,List.getElem?_eq_getElem (show j<es.length by omega)]
     have hdj:=ms d1
     rwa[ih j xs[j] _ ↑27 d1 (hi' j ys[j] _ ↑27 d2) q1 q2 ?_]
     have:A.in1.units=A.units+1:=rfl
     omega
end
def uG (K:Fg)(x y:V)(H:Hp)(P:Bool->Prop):Prop:=∃d e,cI K H x d/\cI K H y e/\jF d<=60/\P (sq d e)
theorem Ke {K:Fg}{x y:V}{H:Hp}{P:Bool->Prop}{d e:D}(h1:cI K H x d)(h2:cI K H y e)(hd:jF d<=60)(g:P (sq d e)):uG K x y H P:=⟨d,e,h1,h2,hd,g⟩
theorem oQ {K:Fg}{x y:V}{H:Hp}{P:Bool->Prop}{d:D}(h1:cI K H x d)(h2:cI K H y d)(hd:jF d<=60)(g:P true):uG K x y H P:=⟨d,d,h1,h2,hd,by rw [nh];exact g⟩
def Le (K:Fg):R2:=λx y H Q=>match Mv x y with|some b=>Q (.bl b) H|none=>uG K x y H λb=>Q (.bl b) H
def K5 (K:Fg):R2:=λx y H Q=>match Mv x y with|some b=>Q (.bl (!b)) H|none=>uG K x y H λb=>Q (.bl (!b)) H
section
variable {X:Cx}{K:Fg}{m:Nat}
theorem wZ {d:D}(hr:dH m X.A)(hd:jF d<=60):X.A.units+jF d<cLine:=by have:=hr.un;omega
open PySem.SeqAt in
theorem aR (hK:X.K=K)(hr:dH m X.A):d8 X (compareOp .Eq) (Le K):=by
 subst hK
 intro pins s σ H x y v u Q I rx ry h
 unfold Le at h
 cases e:Mv x y with
 |some b=>
  rw [e] at h
  obtain ⟨h1,h2⟩:=Em e
  exact LU pins s σ H x y v u Q I rx ry ⟨h1,by rw [h2];exact h⟩
 |none=>
  rw [e] at h
  obtain ⟨d,e',h1,h2,hd,q⟩:=h
  have fin:EP X pins σ Q (.bool (sq d e')) s:=⟨.bl _,H,I,rfl,q⟩
  have hu:=wZ (X:=X) hr hd
  have hu0:X.A.units<cLine:=by omega
  cases h1 with
  | @lst a xs ds hq hl hi=>
    have D1:cI X.K H (.ref a) (.lst ds):= .lst hq hl hi
    cases rx
    obtain ⟨its,r1,p1,z1⟩:=I.list hq
    cases h2 with
    |non=>cases ry;exact RcAt.list_none p1.isList hu0 _ _ _ _ fin
    |bl b=>cases ry;exact RcAt.list_bool b p1.isList hu0 _ _ _ _ fin
    |int j=>obtain ⟨t,rfl⟩:=ry;exact RcAt.list_int j t p1.isList hu0 _ _ _ _ fin
    |str z=>obtain ⟨t,rfl⟩:=ry;exact RcAt.list_str z t p1.isList hu0 _ _ _ _ fin
    |tup hq' _ _=>cases ry;obtain ⟨_,_,p2,_⟩:=I.tuple hq';exact RcAt.list_tuple p1.isList p2 hu0 _ _ _ _ fin
    | @lst b ys es hq' hl' hi'=>
      cases ry
      obtain ⟨its2,r2,p2,z2⟩:=I.list hq'
      have hd0:jF (.lst ds)=deps ds+1:=by rw [jF]
      rw [sq] at fin
      have l1:=r1.length
      have l2:=r2.length
      by_cases hlen:ds.length=es.length
      ·rw [<-gS hlen,show ds.length=its.toArray.size by rw [List.size_toArray];omega] at fin
       rwa[RcAt.lists p1.isList p2.isList (by simp only [List.size_toArray];omega) hu0 (λj g1 g2=> ?_) _ _ _ _ fin]
       have j1:j<xs.length:=by rw [List.size_toArray] at g1;omega
       have j2:j<ys.length:=by rw [List.size_toArray] at g2;omega
       obtain ⟨w1,e1,q1⟩:=r1.get (i:=j) (x:=xs[j]) ↑27
       obtain ⟨w2,e2,q2⟩:=r2.get (i:=j) (x:=ys[j]) ↑27
       have k1:its.toArray[j]=w1:=by
        have:its[j]? =some its.toArray[j]:=by simp
        rw [this] at e1;exact Option.some.inj e1
       have k2:its2.toArray[j]=w2:=by
        have:its2[j]? =some its2.toArray[j]:=by simp
        rw [this] at e2;exact Option.some.inj e2
       rw [k1,k2]
       have d1:ds[j]? =some (ds.getD j .non):=by simp [List.getD,List.getElem?_eq_getElem (show j<ds.length by omega)]
       have d2:es[j]? =some (es.getD j .non):=by simp [List.getD,List.getElem?_eq_getElem (show j<es.length by omega)]
       have hdj:=ms d1
       rwa[nj I (hi j xs[j] _ ↑27 d1) (hi' j ys[j] _ ↑27 d2) q1 q2 ?_]
       have:X.A.in1.units=X.A.units+1:=rfl
       omega
      ·rw [gQ hlen] at fin
       exact RcAt.lists_lengths p1.isList p2.isList (by simp only [List.size_toArray];rw [bne_iff_ne];omega) hu0 _ _ _ _ fin
  | @tup a xs ds hq hl hi=>
    cases rx
    obtain ⟨its,r1,p1,z1⟩:=I.tuple hq
    cases h2 with
    |non=>cases ry;exact RcAt.tuple_none p1 hu0 _ _ _ _ fin
    |bl b=>cases ry;exact RcAt.tuple_bool b p1 hu0 _ _ _ _ fin
    |int j=>obtain ⟨t,rfl⟩:=ry;exact RcAt.tuple_int j t p1 hu0 _ _ _ _ fin
    |str z=>obtain ⟨t,rfl⟩:=ry;exact RcAt.tuple_str z t p1 hu0 _ _ _ _ fin
    |lst hq' _ _=>cases ry;obtain ⟨_,_,p2,_⟩:=I.list hq';exact RcAt.tuple_list p1 p2.isList hu0 _ _ _ _ fin
    | @tup b ys es hq' hl' hi'=>
      cases ry
      obtain ⟨its2,r2,p2,z2⟩:=I.tuple hq'
      have hd0:jF (.tup ds)=deps ds+1:=by rw [jF]
      rw [sq] at fin
      have l1:=r1.length
      have l2:=r2.length
      have res:eqDs ds es=((List.range (min its.toArray.size its2.toArray.size)).all (λj=>sq (ds.getD j .non) (es.getD j .non))&&its.toArray.size==its2.toArray.size):=by
       by_cases hlen:ds.length=es.length
       ·have e1:its.toArray.size=ds.length:=by rw [List.size_toArray];omega
        have e2:its2.toArray.size=ds.length:=by rw [List.size_toArray];omega
        rw [e1,e2,Nat.min_self,gS hlen];simp
       ·rw [gQ hlen]
        have:(its.toArray.size==its2.toArray.size)=false:=beq_eq_false_iff_ne.mpr (by simp only [List.size_toArray];omega)
        rw [this,Bool.and_false]
      rw [res] at fin
      rwa[RcAt.tuples p1 p2 hu0 (λj g1 g2=> ?_) _ _ _ _ fin]
      have j1:j<xs.length:=by rw [List.size_toArray] at g1;omega
      have j2:j<ys.length:=by rw [List.size_toArray] at g2;omega
      obtain ⟨w1,e1,q1⟩:=r1.get (i:=j) (x:=xs[j]) ↑27
      obtain ⟨w2,e2,q2⟩:=r2.get (i:=j) (x:=ys[j]) ↑27
      have k1:its.toArray[j]=w1:=by
       have:its[j]? =some its.toArray[j]:=by simp
       rw [this] at e1;exact Option.some.inj e1
      have k2:its2.toArray[j]=w2:=by
       have:its2[j]? =some its2.toArray[j]:=by simp
       rw [this] at e2;exact Option.some.inj e2
      rw [k1,k2]
      have d1:ds[j]? =some (ds.getD j .non):=by simp [List.getD,List.getElem?_eq_getElem (show j<ds.length by omega)]
      have d2:es[j]? =some (es.getD j .non):=by simp [List.getD,List.getElem?_eq_getElem (show j<es.length by omega)]
      have hdj:=ms d1
      rwa[nj I (hi j xs[j] _ ↑27 d1) (hi' j ys[j] _ ↑27 d2) q1 q2 ?_]
      have:X.A.in1.units=X.A.units+1:=rfl
      omega
  |non=>cases h2 with
   |lst hq _ _=>cases rx;cases ry;obtain ⟨_,_,p,_⟩:=I.list hq;exact RcAt.none_list p.isList hu0 _ _ _ _ fin
   |tup hq _ _=>cases rx;cases ry;obtain ⟨_,_,p,_⟩:=I.tuple hq;exact RcAt.none_tuple p hu0 _ _ _ _ fin
   |_=>cases e
  |bl b=>cases h2 with
   |lst hq _ _=>cases rx;cases ry;obtain ⟨_,_,p,_⟩:=I.list hq;exact RcAt.bool_list b p.isList hu0 _ _ _ _ fin
   |tup hq _ _=>cases rx;cases ry;obtain ⟨_,_,p,_⟩:=I.tuple hq;exact RcAt.bool_tuple b p hu0 _ _ _ _ fin
   |int j=>cases rx;obtain ⟨t,rfl⟩:=ry;exact RcAt.bool_int b j t _ _ _ _ fin
   |_=>cases e
  |int i=>cases h2 with
   |lst hq _ _=>obtain ⟨t,rfl⟩:=rx;cases ry;obtain ⟨_,_,p,_⟩:=I.list hq;exact RcAt.int_list i t p.isList hu0 _ _ _ _ fin
   |tup hq _ _=>obtain ⟨t,rfl⟩:=rx;cases ry;obtain ⟨_,_,p,_⟩:=I.tuple hq;exact RcAt.int_tuple i t p hu0 _ _ _ _ fin
   |bl b=>obtain ⟨t,rfl⟩:=rx;cases ry;exact RcAt.int_bool i t b _ _ _ _ fin
   |_=>cases e
  |str z=>cases h2 with
   |lst hq _ _=>obtain ⟨t,rfl⟩:=rx;cases ry;obtain ⟨_,_,p,_⟩:=I.list hq;exact RcAt.str_list z t p.isList hu0 _ _ _ _ fin
   |tup hq _ _=>obtain ⟨t,rfl⟩:=rx;cases ry;obtain ⟨_,_,p,_⟩:=I.tuple hq;exact RcAt.str_tuple z t p hu0 _ _ _ _ fin
   |_=>cases e
open PySem.SeqAt in
theorem gv (hK:X.K=K)(hr:dH m X.A):d8 X (compareOp .NotEq) (K5 K):=by
 subst hK
 intro pins s σ H x y v u Q I rx ry h
 unfold K5 at h
 cases e:Mv x y with
 |some b=>
  rw [e] at h
  obtain ⟨h1,h2⟩:=Em e
  exact LP pins s σ H x y v u Q I rx ry ⟨h1,by rw [h2];exact h⟩
 |none=>
  rw [e] at h
  obtain ⟨d,e',h1,h2,hd,q⟩:=h
  have fin:EP X pins σ Q (.bool (!sq d e')) s:=⟨.bl _,H,I,rfl,q⟩
  have hu:=wZ (X:=X) hr hd
  have hu0:X.A.units<cLine:=by omega
  cases h1 with
  | @lst a xs ds hq hl hi=>
    have D1:cI X.K H (.ref a) (.lst ds):= .lst hq hl hi
    cases rx
    obtain ⟨its,r1,p1,z1⟩:=I.list hq
    cases h2 with
    |non=>cases ry;exact RcNeAt.list_none p1.isList hu0 _ _ _ _ fin
    |bl b=>cases ry;exact RcNeAt.list_bool b p1.isList hu0 _ _ _ _ fin
    |int j=>obtain ⟨t,rfl⟩:=ry;exact RcNeAt.list_int j t p1.isList hu0 _ _ _ _ fin
    |str z=>obtain ⟨t,rfl⟩:=ry;exact RcNeAt.list_str z t p1.isList hu0 _ _ _ _ fin
    |tup hq' _ _=>cases ry;obtain ⟨_,_,p2,_⟩:=I.tuple hq';exact RcNeAt.list_tuple p1.isList p2 hu0 _ _ _ _ fin
    | @lst b ys es hq' hl' hi'=>
      cases ry
      obtain ⟨its2,r2,p2,z2⟩:=I.list hq'
      have hd0:jF (.lst ds)=deps ds+1:=by rw [jF]
      rw [sq] at fin
      have l1:=r1.length
      have l2:=r2.length
      by_cases hlen:ds.length=es.length
      ·rw [<-gS hlen,show ds.length=its.toArray.size by rw [List.size_toArray];omega] at fin
       rwa[RcNeAt.lists p1.isList p2.isList (by simp only [List.size_toArray];omega) hu0 (λj g1 g2=> ?_) _ _ _ _ fin]
       have j1:j<xs.length:=by rw [List.size_toArray] at g1;omega
       have j2:j<ys.length:=by rw [List.size_toArray] at g2;omega
       obtain ⟨w1,e1,q1⟩:=r1.get (i:=j) (x:=xs[j]) ↑27
       obtain ⟨w2,e2,q2⟩:=r2.get (i:=j) (x:=ys[j]) ↑27
       have k1:its.toArray[j]=w1:=by
        have:its[j]? =some its.toArray[j]:=by simp
        rw [this] at e1;exact Option.some.inj e1
       have k2:its2.toArray[j]=w2:=by
        have:its2[j]? =some its2.toArray[j]:=by simp
        rw [this] at e2;exact Option.some.inj e2
       rw [k1,k2]
       have d1:ds[j]? =some (ds.getD j .non):=by simp [List.getD,List.getElem?_eq_getElem (show j<ds.length by omega)]
       have d2:es[j]? =some (es.getD j .non):=by simp [List.getD,List.getElem?_eq_getElem (show j<es.length by omega)]
       have hdj:=ms d1
       rwa[nj I (hi j xs[j] _ ↑27 d1) (hi' j ys[j] _ ↑27 d2) q1 q2 ?_]
       have:X.A.in1.units=X.A.units+1:=rfl
       omega
      ·rw [gQ hlen] at fin
       exact RcNeAt.lists_lengths p1.isList p2.isList (by simp only [List.size_toArray];rw [bne_iff_ne];omega) hu0 _ _ _ _ fin
  | @tup a xs ds hq hl hi=>
    cases rx
    obtain ⟨its,r1,p1,z1⟩:=I.tuple hq
    cases h2 with
    |non=>cases ry;exact RcNeAt.tuple_none p1 hu0 _ _ _ _ fin
    |bl b=>cases ry;exact RcNeAt.tuple_bool b p1 hu0 _ _ _ _ fin
    |int j=>obtain ⟨t,rfl⟩:=ry;exact RcNeAt.tuple_int j t p1 hu0 _ _ _ _ fin
    |str z=>obtain ⟨t,rfl⟩:=ry;exact RcNeAt.tuple_str z t p1 hu0 _ _ _ _ fin
    |lst hq' _ _=>cases ry;obtain ⟨_,_,p2,_⟩:=I.list hq';exact RcNeAt.tuple_list p1 p2.isList hu0 _ _ _ _ fin
    | @tup b ys es hq' hl' hi'=>
      cases ry
      obtain ⟨its2,r2,p2,z2⟩:=I.tuple hq'
      have hd0:jF (.tup ds)=deps ds+1:=by rw [jF]
      rw [sq] at fin
      have l1:=r1.length
      have l2:=r2.length
      have res:eqDs ds es=((List.range (min its.toArray.size its2.toArray.size)).all (λj=>sq (ds.getD j .non) (es.getD j .non))&&its.toArray.size==its2.toArray.size):=by
       by_cases hlen:ds.length=es.length
       ·have e1:its.toArray.size=ds.length:=by rw [List.size_toArray];omega
        have e2:its2.toArray.size=ds.length:=by rw [List.size_toArray];omega
        rw [e1,e2,Nat.min_self,gS hlen];simp
       ·rw [gQ hlen]
        have:(its.toArray.size==its2.toArray.size)=false:=beq_eq_false_iff_ne.mpr (by simp only [List.size_toArray];omega)
        rw [this,Bool.and_false]
      rw [res] at fin
      rwa[RcNeAt.tuples p1 p2 hu0 (λj g1 g2=> ?_) _ _ _ _ fin]
      have j1:j<xs.length:=by rw [List.size_toArray] at g1;omega
      have j2:j<ys.length:=by rw [List.size_toArray] at g2;omega
      obtain ⟨w1,e1,q1⟩:=r1.get (i:=j) (x:=xs[j]) ↑27
      obtain ⟨w2,e2,q2⟩:=r2.get (i:=j) (x:=ys[j]) ↑27
      have k1:its.toArray[j]=w1:=by
       have:its[j]? =some its.toArray[j]:=by simp
       rw [this] at e1;exact Option.some.inj e1
      have k2:its2.toArray[j]=w2:=by
       have:its2[j]? =some its2.toArray[j]:=by simp
       rw [this] at e2;exact Option.some.inj e2
      rw [k1,k2]
      have d1:ds[j]? =some (ds.getD j .non):=by simp [List.getD,List.getElem?_eq_getElem (show j<ds.length by omega)]
      have d2:es[j]? =some (es.getD j .non):=by simp [List.getD,List.getElem?_eq_getElem (show j<es.length by omega)]
      have hdj:=ms d1
      rwa[nj I (hi j xs[j] _ ↑27 d1) (hi' j ys[j] _ ↑27 d2) q1 q2 ?_]
      have:X.A.in1.units=X.A.units+1:=rfl
      omega
  |non=>cases h2 with
   |lst hq _ _=>cases rx;cases ry;obtain ⟨_,_,p,_⟩:=I.list hq;exact RcNeAt.none_list p.isList hu0 _ _ _ _ fin
   |tup hq _ _=>cases rx;cases ry;obtain ⟨_,_,p,_⟩:=I.tuple hq;exact RcNeAt.none_tuple p hu0 _ _ _ _ fin
   |_=>cases e
  |bl b=>cases h2 with
   |lst hq _ _=>cases rx;cases ry;obtain ⟨_,_,p,_⟩:=I.list hq;exact RcNeAt.bool_list b p.isList hu0 _ _ _ _ fin
   |tup hq _ _=>cases rx;cases ry;obtain ⟨_,_,p,_⟩:=I.tuple hq;exact RcNeAt.bool_tuple b p hu0 _ _ _ _ fin
   |int j=>cases rx;obtain ⟨t,rfl⟩:=ry;exact RcNeAt.bool_int b j t _ _ _ _ fin
   |_=>cases e
  |int i=>cases h2 with
   |lst hq _ _=>obtain ⟨t,rfl⟩:=rx;cases ry;obtain ⟨_,_,p,_⟩:=I.list hq;exact RcNeAt.int_list i t p.isList hu0 _ _ _ _ fin
   |tup hq _ _=>obtain ⟨t,rfl⟩:=rx;cases ry;obtain ⟨_,_,p,_⟩:=I.tuple hq;exact RcNeAt.int_tuple i t p hu0 _ _ _ _ fin
   |bl b=>obtain ⟨t,rfl⟩:=rx;cases ry;exact RcNeAt.int_bool i t b _ _ _ _ fin
   |_=>cases e
  |str z=>cases h2 with
   |lst hq _ _=>obtain ⟨t,rfl⟩:=rx;cases ry;obtain ⟨_,_,p,_⟩:=I.list hq;exact RcNeAt.str_list z t p.isList hu0 _ _ _ _ fin
   |tup hq _ _=>obtain ⟨t,rfl⟩:=rx;cases ry;obtain ⟨_,_,p,_⟩:=I.tuple hq;exact RcNeAt.str_tuple z t p hu0 _ _ _ _ fin
   |_=>cases e
end
structure EZ (h:Heap)(a T:Addr)(cls:Value)(dd:Option Addr)(fl:Value):Prop where
 ex:∃oe vs oT ts,h.get? a=some oe/\oe.cls=cls/\oe.dict=dd/\oe.data= .fields vs/\vs[1]? =some (.ref T)/\vs[2]? =some .none/\T≠a/\h.get? T=some oT/\oT.data= .fields ts/\ts[3]? =some fl
structure Pass (fs:List Addr)(ch:List Addr)(h h':Heap):Prop where
 keep:∀b o,b∉ch->b∉fs->h.get? b=some o->h'.get? b=some o
 slot:∀b o,b∉ch->h.get? b=some o->∃sl,h'.get? b=some {o with slots:=sl}
theorem z9 {o:Obj}{vs:Array Value}(hd:o.data= .fields vs)(f:Array Value->Array Value):Obj.mapFields f o= {o with data:= .fields (f vs)}:=by
 obtain ⟨c,d,dt,sl⟩:=o;cases hd;rfl
section
variable {M:Model}{A:Around}{E:Value->Shared->Prop}{s:Shared}
theorem uH {base:Heap}{env:Env}{outer:List Env}{L e:Addr}{oe:Obj}{vs:Array Value}{head:Value}{hadNext:Bool}{Q:Unit->Shared->Prop}
(hfr:A.frames=some (env::outer))(hl:s.heap.FunFrames base (env::outer))(hf:env.frame=some L)(he:s.heap.get? e=some oe)(hd:oe.data= .fields vs)(hsz:1<vs.size)(h2:vs[2]? =some .none)
(h:∀h' T,Pass (wP (env::outer)) [e] s.heap h'->s.heap.get? T=none->EZ h' e T oe.cls oe.dict (rawInt L)->Q () {s with heap:=h'}):
 wpAny M A (do let a<-frameOf env;let pl<-entryPlaceOf L hadNext;let b<-EntryCells.newEntry head a .none (rawInt L) .none pl;setField (.ref e) 1 b) Q E s:=by
 have hene:e∉(env::outer).filterMap (·.frame):=λhm=>by
  obtain ⟨_,o,ho,hnf⟩:=hl.mem hm;rw [he] at ho;cases ho;exact hnf vs hd
 rwa[wpAny_bind (wpAny_frameOf_fun hfr hl hf λh₁ hs₁=>wpAny_bind (wpAny_entryPlaceOf λpl hpl=> ?_))];unfold EntryCells.newEntry newFields;rwa[wpAny_bind (wpAny_newObj_type ?_ (hpl.sizeOk5 _ _ _ _ _))];have he₁:h₁.get? e=some oe:=(hs₁.2.1 e hene).trans he;generalize ho:({cls:= .type "traceback",dict:=none,data:= .fields ([head,.ref L,.none,rawInt L,.none]++(if pl.isEmpty then List.replicate 6 Value.none else pl)).toArray}:Obj)=o
 have hdo:o.data= .fields ([head,.ref L,.none,rawInt L,.none]++(if pl.isEmpty then List.replicate 6 Value.none else pl)).toArray:=by rw [<-ho]
 have hfo:o.isFreed=false:=by rw [<-ho];rfl
 have he₂:=Heap.get?_push_of_some (h:=h₁) o he₁;rwa[wpAny_setField he₂ hd hsz ?_];have hTe:h₁.objs.size≠e:=Nat.ne_of_gt (Heap.lt_size he₁);have hd₃:=Obj.data_mapFields hd (·.setIfInBounds 1 (Value.ref h₁.objs.size));have he₃:=Heap.get?_update_self (Obj.mapFields (·.setIfInBounds 1 (Value.ref h₁.objs.size))) he₂ (Obj.isFreed_of_fields hd₃);have hT₃:=(Heap.get?_update_other (h₁.push o) (Obj.mapFields (·.setIfInBounds 1 (Value.ref h₁.objs.size))) (Ne.symm hTe)).trans (Heap.get?_push_size h₁ hfo)
 have keep:∀b u,b≠e->h₁.get? b=some u->((h₁.push o).update e (Obj.mapFields (·.setIfInBounds 1 (Value.ref h₁.objs.size)))).get? b=some u:=λb u hbe hb=>by
  rw [Heap.get?_update_other _ _ (Ne.symm hbe)];exact Heap.get?_push_of_some _ hb
 rwa[h _ h₁.objs.size ⟨λb u hb hbf hbo=> ?_,λb u hb hbo=> ?_⟩ (Heap.get?_none_of_le (by rw [hs₁.1];exact Nat.le_refl _)) ⟨_,_,o,_,he₃,?_,?_,hd₃,by simp [hsz],by rw [Array.getElem?_setIfInBounds_ne ↑1];exact h2,hTe,hT₃,hdo,?_⟩]
 ·exact keep b u (λz=>hb (by simp [z])) ((hs₁.2.1 b hbf).trans hbo)
 ·obtain ⟨sl,hs⟩:=hs₁.2.2 b u hbo;exact ⟨sl,keep b _ (λz=>hb (by simp [z])) hs⟩
 ·exact Obj.cls_mapFields _ _
 ·rw [z9 hd]
 ·first|(simp;done)|(rcases hpl with rfl|⟨_,_,_,_,_,_,_,rfl⟩<;>simp)
theorem sf {a T:Addr}{cls fl:Value}{dd:Option Addr}{f:Option Addr}{Q:Unit->Shared->Prop}(x:EZ s.heap a T cls dd fl)
(h:∀h',Pass [] [T] s.heap h'->EZ h' a T cls dd (f.elim .none λf=>rawInt f)->Q () {s with heap:=h'}):wpAny M A (setFlight (.ref a) f) Q E s:=by
 obtain ⟨oe,vs,oT,ts,h1,h2,h3,h4,h5,h5',h6,h7,h8,h9⟩:=x.ex;have hsz:3<ts.size:=(Array.getElem?_eq_some_iff.mp h9).1;unfold setFlight;rwa[wpAny_bind (wpAny_field h1 h4 h5 ?_)];rw [if_pos (show (Value.ref T != Value.none)=true from by simp)];have other:∀b,b≠T->∀g,(s.heap.update T g).get? b=s.heap.get? b:=λb hb g=>Heap.get?_update_other _ _ (Ne.symm hb);rwa[wpAny_setField h7 h8 hsz (h _ ⟨λb o hb _ hbo=>(other b (λz=>hb (by simp [z])) _).trans hbo,λb o hb hbo=>⟨o.slots,(other b (λz=>hb (by simp [z])) _).trans hbo⟩⟩ ?_)];exact ⟨oe,vs,_,_,(other a (Ne.symm h6) _).trans h1,h2,h3,h4,h5,h5',h6,Heap.get?_update_self _ h7 (Obj.isFreed_of_fields (Obj.data_mapFields h8 _)),Obj.data_mapFields h8 _,by simp [hsz]⟩
end
theorem Pass.more {fs fs' ch:List Addr}{h h1:Heap}(a:Pass fs ch h h1)(hs:∀b∈fs,b∈fs'):Pass fs' ch h h1:=⟨λb o hb hf e=>a.keep b o hb (λz=>hf (hs b z)) e,a.slot⟩
def Nw (X:Cx)(pins:List ↑20)(H:Hp)(b:Addr):Prop:=H b=none/\b≠X.env.locals/\b∉X.fs/\(b∈X.ex\/X.s₀.heap.get? b=none)/\(∀x c,X.env.cells.lookup x=some c->c≠b)/\∀p∈X.pn++pins,p.1≠b
theorem bS.here {P:Program}{w:World}{H:Hp}{h:Heap}{a:Addr}{o:HO}(x:bS P w H h a o):∃u,h.get? a=some u:=by
 cases o with
 |lst xs=>obtain ⟨_,_,_,_,e⟩:=x;exact ⟨_,e⟩
 |tup xs=>obtain ⟨_,_,_,o,e,_⟩:=x;exact ⟨_,e⟩
 |dK kvs=>obtain ⟨_,_,_,_,o,_,_,e,_⟩:=x;exact ⟨_,e⟩
 |dT kvs=>obtain ⟨_,_,_,_,o,_,_,e,_⟩:=x;exact ⟨_,e⟩
 |set S n=>obtain ⟨o,_,_,_,e,_⟩:=x;exact ⟨_,e⟩
 |ins C dx fs=>obtain ⟨_,_,_,e,_⟩:=x;exact ⟨_,e⟩
 |own y=>obtain ⟨_,e⟩:=x;exact ⟨_,e⟩
 |xd fs=>obtain ⟨_,⟨_,_,_,e,_⟩,_⟩:=x;exact ⟨_,e⟩
 |rng lo hi=>obtain ⟨_,_,_,e⟩:=x;exact ⟨_,e⟩
 |frz ob u=>obtain ⟨e,_⟩:=x;exact ⟨_,e⟩
 |tbl ps=>exact ⟨_,show h.get? a=some _ from x⟩
 |met f y=>exact ⟨_,show h.get? a=some _ from x⟩
 |ext φ=>obtain ⟨_,e,_⟩:=x;exact e
theorem io.none_of {P:Program}{w:World}{H:Hp}{h:Heap}{a:Addr}(x:io P w H h)(e:h.get? a=none):H a=none:=by
 cases q:H a with
 |none=>rfl
 |some o=>obtain ⟨u,z⟩:=(x a o q).here;rw [e] at z;cases z
section
variable {X:Cx}{pins:List ↑20}{σ:St}{H:Hp}{s:Shared}
theorem aL.nw {H':Hp}{b:Addr}(I:aL X pins σ H s)(hb:s.heap.get? b=none)(hn:H' b=none):Nw X pins H' b:=by
 rwa[⟨hn,λz=> ?_,λz=> ?_,?_,λx c e z=> ?_,λp hp z=> ?_⟩]
 ·obtain ⟨m,⟨o,_,_,ho,_⟩,_⟩:=I.loc;rw [<-z,hb] at ho;cases ho
 ·obtain ⟨_,o,ho,_⟩:=I.funs.mem z;rw [hb] at ho;cases ho
 ·by_cases hx:b∈X.ex
  ·exact .inl hx
  ·rwa[.inr ?_]
   cases q:X.s₀.heap.get? b with
   |none=>rfl
   |some o=>obtain ⟨o',e⟩:=I.base.there b o q hx;rw [hb] at e;cases e
 ·obtain ⟨v,o,ho,_⟩:=I.cell x c e;rw [z,hb] at ho;cases ho
 ·have e:=(I.pin p hp).1;rw [z,hb] at e;cases e
theorem aL.pass {ch:List Addr}{h':Heap}(I:aL X pins σ H s)(p:Pass (wP X.stack) ch s.heap h')(hc:∀b∈ch,Nw X pins H b):aL X pins σ H {s with heap:=h'}:=by
 have nch:∀b u,H b=some u->b∉ch:=λb u e z=>by rw [(hc b z).1] at e;cases e
 have nfr:∀b u,H b=some u->b∉wP X.stack:=λb u e z=>by rw [I.stkFree b z] at e;cases e
 have neC:∀b o,X.s₀.heap.get? b=some o->b∉X.ex->b∉ch:=λb o e hx hb=>by
  rcases (hc b hb).2.2.2.1 with z|z
  ·exact hx z
  ·rw [e] at z;cases z
 have neL:∀b o,X.s₀.heap.get? b=some o->b≠X.env.locals:=λb o e=>Nat.ne_of_lt ↑41
 have nst:∀b o,X.s₀.heap.get? b=some o->b∉X.fs->b∉wP X.stack:=λb o e hb z=>by
  rcases List.mem_cons.mp (I.stkSub b z) with q|q
  ·exact neL b o e q
  ·exact hb q
 have lch:X.env.locals∉ch:=λz=>(hc _ z).2.1 rfl;have cch:∀x c,X.env.cells.lookup x=some c->c∉ch:=λx c e z=>(hc c z).2.2.2.2.1 x c e rfl
 have cellK:∀x c,X.env.cells.lookup x=some c->∀v,s.heap.IsCell c v->h'.IsCell c v:=λx c e v ⟨o,ho,hd⟩=>by
  obtain ⟨sl,q⟩:=p.slot c o (cch x c e) ho;exact ⟨_,q,hd⟩
 rwa[⟨I.ok,I.os,I.bare,⟨λb o e n hb hx=> ?_,λb o e n hb hx=> ?_,I.base.free,λb o e hx=> ?_,I.base.tups,I.base.frzs,I.base.tbls⟩,?_,λx c e=> ?_,I.free,I.freeC,λq hq=> ?_,λb u e=> ?_,I.len⟩]
 ·exact p.keep b o (neC b o e hx) (nst b o e hb) (I.base.keep b o e n hb hx)
 ·obtain ⟨sl,e1⟩:=I.base.slot b o e n hb hx;obtain ⟨sl',e2⟩:=p.slot b _ (neC b o e hx) e1;exact ⟨sl',e2⟩
 ·obtain ⟨o',e1⟩:=I.base.there b o e hx;obtain ⟨sl',e2⟩:=p.slot b _ (neC b o e hx) e1;exact ⟨_,e2⟩
 ·obtain ⟨m,⟨o,es,ep,ho,r⟩,hl⟩:=I.loc;obtain ⟨sl,hL⟩:=p.slot _ o lch ho;rwa[⟨m,⟨_,es,ep,hL,r⟩,λi x v e1 e2 e3=> ?_⟩];obtain ⟨u,rv,l⟩:=hl i x v e1 e2 e3;rwa[⟨u,rv,?_⟩]
  rcases l with l|⟨k,c,e,z⟩
  ·exact .inl l
  ·exact .inr ⟨k,c,e,cellK x c e _ z⟩
 ·obtain ⟨v,z⟩:=I.cell x c e;exact ⟨v,cellK x c e v z⟩
 ·obtain ⟨e,n,ne,nf,d⟩:=I.pin q hq;rwa[⟨p.keep q.1 q.2 (λz=>(hc _ z).2.2.2.2.2 q hq rfl) (λz=> ?_) e,n,ne,nf,d⟩]
  rcases List.mem_cons.mp (I.stkSub _ z) with y|y
  ·exact ne y
  ·exact nf y
 ·rwa[(I.hok b u e).stay (λc v hcv q=>p.keep c v ?_ ?_ q) (λ_ q=>q) λ_ _ q=>q]
  ·rcases hcv with z|z
   ·rw [z];exact nch b u e
   ·exact nch c _ z
  ·rcases hcv with z|z
   ·rw [z];exact nfr b u e
   ·exact nfr c _ z
def G7 (X:Cx)(pins:List ↑20)(H:Hp)(h:Heap)(a:Addr)(cls:Value)(dd:Option Addr):Prop:=Nw X pins H a/\
 ((∃oe vs,h.get? a=some oe/\oe.cls=cls/\oe.dict=dd/\oe.data= .fields vs/\vs[1]? =some .none/\vs[2]? =some .none)\/∃T fl,EZ h a T cls dd fl/\Nw X pins H T/\(fl= .none\/∃L,X.env.frame=some L/\fl=rawInt L))
theorem xB {A:Around}{M:Model}{E:Value->Shared->Prop}{a:Addr}{cls:Value}{dd:Option Addr}{Q:Unit->Shared->Prop}{L:Addr}(I:aL X pins σ H s)(x:G7 X pins H s.heap a cls dd)
(hA:A.frames=some X.stack)(hst:X.stack=X.env::X.outer)(hf:X.env.frame=some L)
(h:∀h' T,aL X pins σ H {s with heap:=h'}->Nw X pins H T->EZ h' a T cls dd (rawInt L)->Q () {s with heap:=h'}):wpAny M A (noteFrame (.ref a) X.env) Q E s:=by
 obtain ⟨fa,x⟩:=x
 have hfr:A.frames=some (X.env::X.outer):=by rw [<-hst];exact hA
 have hl:s.heap.FunFrames X.base (X.env::X.outer):=by rw [<-hst];exact I.stack
 unfold noteFrame;simp only [hf]
 rcases x with ⟨oe,vs,h1,h2,h3,h4,h5,h5'⟩|⟨T,fl,x,fT,hfl⟩
 ·rwa[wpAny_bind (wpAny_field h1 h4 h5 ?_)];rw [if_neg ↑1];rwa[uH hfr hl hf h1 h4 (Array.getElem?_eq_some_iff.mp h5).1 h5' λh' T p hT x=> ?_];rw [<-hst] at p;have J:=I.pass p (by simpa using fa);exact h h' T J (I.nw hT (I.hok.none_of hT)) (by rw [<-h2,<-h3];exact x)
 ·obtain ⟨oe,vs,oT,ts,h1,h2,h3,h4,h5,h5',h6,h7,h8,h9⟩:=id x.ex;rwa[wpAny_bind (wpAny_field h1 h4 h5 ?_)];rw [if_pos (show (Value.ref T != Value.none)=true from by simp)];rwa[wpAny_bind (wpAny_field h7 h8 h9 ?_)]
  rcases hfl with rfl|⟨L',hL',rfl⟩
  ·rw [if_neg (show ¬((Value.none==rawInt L)=true) from by simp [rawInt])];have hsz:3<ts.size:=(Array.getElem?_eq_some_iff.mp h9).1;rwa[wpAny_bind (wpAny_setField h7 h8 hsz ?_)];have other:∀b,b≠T->∀g,(s.heap.update T g).get? b=s.heap.get? b:=λb hb g=>Heap.get?_update_other _ _ (Ne.symm hb)
   have p1:Pass (wP X.stack) [T] s.heap (s.heap.update T (Obj.mapFields (·.setIfInBounds 3 Value.none))):=
    ⟨λb o hb _ hbo=>(other b (λz=>hb (by simp [z])) _).trans hbo,λb o hb hbo=>⟨o.slots,(other b (λz=>hb (by simp [z])) _).trans hbo⟩⟩
   have J1:=I.pass p1 (by simpa using fT);rwa[uH (s:= {s with heap:=s.heap.update T (Obj.mapFields (·.setIfInBounds 3 Value.none))}) hfr (base:=X.base) (by rw [<-hst];exact J1.stack) hf ((other a (Ne.symm h6) _).trans h1) h4 (Array.getElem?_eq_some_iff.mp h5).1 h5' λh' T' p hT x'=> ?_];rw [<-hst] at p;have J:=J1.pass p (by simpa using fa);exact h h' T' J (J1.nw hT (J1.hok.none_of hT)) (by rw [<-h2,<-h3];exact x')
  ·rw [hf] at hL';cases hL';rw [if_pos (show (rawInt L==rawInt L)=true from by simp)];exact wpAny_pure (h s.heap T I fT x)
theorem Bn {A:Around}{M:Model}{E:Value->Shared->Prop}{a:Addr}{cls:Value}{dd:Option Addr}{Q:Unit->Shared->Prop}{L:Addr}(I:aL X pins σ H s)(x:G7 X pins H s.heap a cls dd)
(hA:A.frames=some X.stack)(hst:X.stack=X.env::X.outer)(hf:X.env.frame=some L)
(h:∀h' T,aL X pins σ H {s with heap:=h'}->Nw X pins H T->EZ h' a T cls dd .none->Q () {s with heap:=h'}):wpAny M A (leaving X.env (.ref a)) Q E s:=by
 unfold leaving;rwa[wpAny_bind (xB I x hA hst hf λh1 T J fT x1=>sf (s:= {s with heap:=h1}) x1 λh2 p x2=> ?_)];exact h h2 T (J.pass (p.more λ_ z=>nomatch z) (by simpa using fT)) fT x2
end
def nK (P:Program)(w:World):qw:=λouter H s E e s'=>∃(a T:Addr) (cls:Value) (dd:Option Addr) (H':Hp),e= .ref a/\s'.os=s.os/\AllBare s'.gens/\Un (wP outer) [] H H' s.heap s'.heap/\io P w H' s'.heap/\
 s.heap.get? a=none/\s.heap.get? T=none/\H' a=none/\H' T=none/\EZ s'.heap a T cls dd .none/\E cls dd H'
def Fl (X:Cx)(E:XK):Prop:=∀(pins:List ↑20) (σ:St) (H:Hp) (s:Shared) (a:Addr) (cls:Value) (dd:Option Addr),aL X pins σ H s->G7 X pins H s.heap a cls dd->E cls dd H->X.xe (.ref a) s
theorem aL.afterE {X:Cx}{pins:List ↑20}{σ:St}{H:Hp}{s s':Shared}{E:XK}{e:Value}(I:aL X pins σ H s)(h:nK X.prog X.w X.stack H s E e s'):
 ∃a cls dd H',e= .ref a/\aL X pins σ H' s'/\G7 X pins H' s'.heap a cls dd/\E cls dd H':=by
 obtain ⟨a,T,cls,dd,H',rfl,os,bare,un,hok,ha,hT,na,nT,x,q⟩:=h;rwa[⟨a,cls,dd,H',rfl,I.call' os un hok bare (λb z=>nomatch z),⟨I.nw ha na,.inr ⟨T,_,x,I.nw hT nT,.inl rfl⟩⟩,q⟩]
theorem Fl.passes {X:Cx}{E:XK}(f:Fl X E):ju (nK X.prog X.w) X E:=λpins σ H s e s' I h=>by
 obtain ⟨a,cls,dd,H',rfl,J,x,q⟩:=I.afterE h;exact f pins σ H' s' a cls dd J x q
section
variable {P:Program}{w:World}{K:Fg}{mg:Str->Option Value}{base:Heap}{N:List Str}{qual:Str}{scope:Scope}{f:Addr}{cd:Value}{A:Around}{outer:List Env}{s:Shared}{H:Hp}{E:XK}
theorem fq:Fl (sr (nK P w) P w K mg base N qual scope f cd A outer s H E) E:=by
 intro pins σ H' s' a cls dd I x q;show wpAny _ _ _ _ _ _;rwa[Bn I x I.ok.frames rfl rfl λh' T J fT x'=> ?_];have fa:=x.1;rwa[⟨a,T,cls,dd,H',rfl,J.os,J.bare,J.base,J.hok,?_,?_,fa.1,fT.1,x',q⟩]
 ·rcases fa.2.2.2.1 with z|z
  ·exact absurd (show a∈([]:List Addr) from z) ↑27
  ·exact z
 ·rcases fT.2.2.2.1 with z|z
  ·exact absurd (show T∈([]:List Addr) from z) ↑27
  ·exact z
theorem rF:PassesOwn (model P w) (sr (nK P w) P w K mg base N qual scope f cd A outer s H E).A (sr (nK P w) P w K mg base N qual scope f cd A outer s H E).env (sr (nK P w) P w K mg base N qual scope f cd A outer s H E).xe:=by
 intro e s' h;have h':wpAny (model P w) (A.deeper (envOfC qual scope s.heap.objs.size f cd)) (leaving (envOfC qual scope s.heap.objs.size f cd) e) (λ_ s''=>nK P w outer H s E e s'') (λe' s''=>nK P w outer H s E e' s'') s':=h;exact PassesOwn.leaving (Q₁:=λe s''=>nK P w outer H s E e s'') (E₁:=λe' s''=>nK P w outer H s E e' s'') e s' h'
end
theorem bY.okX {P:Program}{w:World}{K:Fg}{mg:Str->Option Value}{base:Heap}{x qual:Str}{st:Stmt}{f:Addr}{fd:FuncData}{N ps:List Str}{k:Nat}{sp:Sp}(F:bY K x qual st f fd)(S:ay N ps (ap st))(len:∀vs H Q E,sp vs H Q E->vs.length=ps.length)
(hbody:∀(cdv:Value) (A:Around) (outer:List Env) (s:Shared) (H:Hp) (vs:List V) (Q:VK) (E:XK),dH k (A.deeper (envOfC qual (ap st) s.heap.objs.size f cdv))->sp vs H Q E->
   ∃t,tK (sr (nK P w) P w K mg base N qual (ap st) f cdv A outer s H E) (fQ st) t/\t {nx:=λ_ H'=>Q .non H',rt:=Q} (start N vs) H):aQ P w K mg base (nK P w) (k+1) f fd ps sp:=by
 obtain ⟨oc,od,kV,doc,pm,an,cdv,ct,osl,rfl,lk,hcd⟩:=F.ex;exact Hw lk hcd S len λA outer s H vs Q E hr hsp=>hbody cdv A outer s H vs Q E hr hsp
structure yd (P:Program)(w:World)(K:Fg)(mg:Str->Option Value)(base:Heap)(n:Nat)(x:Str)(ps:List Str)(sp:Sp):Prop where
 ex:∃f fd,aQ P w K mg base (nK P w) n f fd ps sp/\gd K fd ps []/\W.keepIn K (.ref f)=true/\mg x=some (.ref f)
section
variable {X:Cx}{x:Str}{p pos:Pos}{e:Expr}{es:List Expr}{t:TA}{ps:List Str}{sp:Sp}{n m:Nat}{E:XK}
theorem oB (fl:Fl X E)(c:yd X.prog X.w X.K X.mg X.base n x ps sp)(hr:dH m X.A)(hn:n<=m)(hg:Gl X x)(ha:PA X (e::es) t)(hdb:↑36=false:=by decide)
(hp:bd (e::es)=true:=by rfl):PE X (.Call (.Name x p) (e::es) [] pos) (zV sp [] E t):=by
 obtain ⟨f,fd,F,b,k,hm⟩:=c.ex;have h':(b5 e&&bd es)=true:=hp;rw [Bool.and_eq_true] at h';exact zZ (F.mono hn) hr hg hm k b .nil fl.passes ha hdb (bq h'.1) (bT h'.2)
end
theorem GP {K:Fg}{h:Heap}{C:Addr}{bmB:List Value}{newId:String}(X:K.In h)(q:W.excIn K C bmB newId=true):
 ∃bm N nm q bs hdct sn sub ab col dd k0 k1 k2 k3 k5 mN,h.get? C=some (excClassObj nm q C N bs bm hdct sn sub ab col dd k0 k1 k2 k3 k5 newId)/\h.Ns N mN/\mN "__init__"=none/\OwnTail h bmB bm:=by
 unfold W.excIn at q;split at q
 case h_2=>cases q
 case h_1 dd cd sl ho=>
  split at q
  case h_2=>cases q
  case h_1 C' bm k0 k1 k2 k3 n k5 hm hs=>
   simp only [Bool.and_eq_true,beq_iff_eq,Bool.not_eq_true'] at q;obtain ⟨⟨⟨⟨⟨e1,e2⟩,hdel⟩,ht⟩,hok⟩,hni⟩:=q;subst e1 e2;obtain ⟨nm,bs,mro,ns,qn,hd,sn,sub,ab,col,del⟩:=cd;dsimp only at hm hdel hok hni;subst hm hdel;obtain ⟨l⟩:=sl;simp only at hs;subst hs;exact ⟨bm,ns,nm,qn,bs,hd,sn,sub,ab,col,dd,k0,k1,k2,k3,k5,_,X _ _ ho,.of_isNs (W.isNs_of_in X hok),W.nsMap_none_of_in X hok hni,W.tail_of_in X ht⟩
def IC (C:Addr)(E:XK)(t:TA):TS:=λ_ σ H=>t σ H λvs H1=>vs.length<=sizeLine/\E (.ref C) none H1
section
variable {X:Cx}{C:Addr}{bmB:List Value}{B newId initId:String}{x:Str}{np cpos pos:Pos}{e:Expr}{es:List Expr}{t:TA}{E:XK}
theorem aL.made' {pins:List ↑20}{σ:St}{H:Hp}{s:Shared}{h':Heap}{a:Addr}{vs:List Value}(I:aL X pins σ H s)(m:Heap.MadeExcOf s.heap h' a (.ref C) vs):
 aL X pins σ H {s with heap:=h'}/\G7 X pins H h' a (.ref C) none:=by
 obtain ⟨t,h1,_⟩:=m.there;exact ⟨I.kept (t':=s.toks) m.keeps,I.nw m.new (I.hok.none_of m.new),.inl ⟨_,_,h1,rfl,rfl,rfl,rfl,rfl⟩⟩
theorem xx (fl:Fl X E)(hc:X.calm=true)(O:W.excIn X.K C bmB newId=true)(FB:ExcBaseFacts B newId initId bmB)(hg:Gl X x)(hm:X.mg x=some (.ref C))(ha:PA X (e::es) t)
(hp:bd (e::es)=true:=by rfl)(hdb:↑36=false:=by decide):PS X (.Raise (some (.Call (.Name x np) (e::es) [] cpos)) none pos) (IC C E t):=by
 intro pins s σ H D I h;have h':(b5 e&&bd es)=true:=hp;rw [Bool.and_eq_true] at h';have he:=bq (env:=X.env) (es:=es) h'.1;have hpl:(backTo cpos (starEach es X.env)).any (·.1)=false:=bT h'.2;obtain ⟨bm,N,nm,q,bs,hdct,sn,sub,ab,col,dd,k0,k1,k2,k3,k5,mN,hC,hN,hni,T⟩:=GP I.ok.mod.kin O
 refine wpAny_Raise_call_subT (C:=C) (nm:=nm) (q:=q) (N:=N) (bs:=bs) (bm:=bm) (hdct:=hdct) (sn:=sn) (sub:=sub) (ab:=ab) (col:=col) (dd:=dd) (k0:=k0) (k1:=k1) (k2:=k2) (k3:=k3) (k5:=k5)
  FB (mN:=mN) (T.hasType FB.hasBase) (I.ok.hd hc) (by rw [he];show (false||(backTo cpos (starEach es X.env)).any (·.1))=false;rw [hpl];rfl) hni (jg I hg hm ⟨rfl,?_⟩ hdb)
 have hA:=ha cpos pins s σ H _ I h;rw [he] at hA ⊢;rwa[Calls.evalArgs_plain (b4 hA λus s2 ⟨vs,H2,I2,r,z,q2⟩=>⟨rfl,by rw [<-r.length];exact z,I2.bk _ _ hC,hN.keeps I2.bk,T.keeps I2.bk,λh' a m=> ?_⟩)];obtain ⟨J,x⟩:=I2.made' m;exact fl pins σ H2 _ a _ _ J x q2
end
theorem sj {K:Fg}{h:Heap}{C:Addr}{bmB:List Value}{newId:String}(X:K.In h)(q:W.excIn K C bmB newId=true):
 ∃bm N nm q bs hdct sn sub ab col dd k0 k1 k2 k3 k5,h.get? C=some (excClassObj nm q C N bs bm hdct sn sub ab col dd k0 k1 k2 k3 k5 newId)/\OwnTail h bmB bm/\∀v b,W.mroIn K C v=some b->(Value.ref C::bm).contains v=b:=by
 unfold W.excIn at q;split at q
 case h_2=>cases q
 case h_1 dd cd sl ho=>
  split at q
  case h_2=>cases q
  case h_1 C' bm k0 k1 k2 k3 n k5 hm hs=>
   simp only [Bool.and_eq_true,beq_iff_eq,Bool.not_eq_true'] at q;obtain ⟨⟨⟨⟨⟨e1,e2⟩,hdel⟩,ht⟩,hok⟩,hni⟩:=q;subst e1 e2;obtain ⟨nm,bs,mro,ns,qn,hd,sn,sub,ab,col,del⟩:=cd;dsimp only at hm hdel hok hni;subst hm hdel;obtain ⟨l⟩:=sl;simp only at hs;subst hs;rwa[⟨bm,ns,nm,qn,bs,hd,sn,sub,ab,col,dd,k0,k1,k2,k3,k5,X _ _ ho,W.tail_of_in X ht,λv b e=> ?_⟩];unfold W.mroIn W.clsIn at e;rw [ho] at e;simpa using e
section
variable {M:Model}{A:Around}{E:Value->Shared->Prop}
variable {nm q nm' q':Str}{C N C' N':Addr}{bs bm bs' bm':List Value}{hdct hdct':Bool}{sn sn':List Str}{sub sub':List Value}{ab ab':Bool}{col col':Option Bool}{dd dd':Option Addr}{k0 k1 k2 k3 k5 l0 l1 l2 l3 l5:Option Value}{newId newId':String}
theorem pV {s:Shared}{e:Addr}{oe:Obj}{b:Bool}{Q:Bool->Shared->Prop}
(hC:s.heap.get? C=some (excClassObj nm q C N bs bm hdct sn sub ab col dd k0 k1 k2 k3 k5 newId))(hD:s.heap.get? C'=some (excClassObj nm' q' C' N' bs' bm' hdct' sn' sub' ab' col' dd' l0 l1 l2 l3 l5 newId'))
(he:s.heap.get? e=some oe)(hcls:oe.cls= .ref C')(hcB:(Value.ref C::bm).contains (.type "BaseException")=true)(hb:(Value.ref C'::bm').contains (.ref C)=b)
(hq:Q b s):wpAny M A (excMatches (.ref e) (.ref C)) Q E s:=by
 obtain ⟨h,g,d,t,os⟩:=s;have f:=tc_notTuple;unfold excMatches
 repeat (first|(with_reducible refine wpAny_loadPart_at he ?_;rw [hcls])|with_reducible refine wpAny_loadPart_at hC ?_|(with_reducible refine wpAny_isSubtype_exc hC ?_;rw [hcB])|(with_reducible refine wpAny_isSubtype_exc hD ?_;rw [hb])|wp_step)
 cases b<;>(wp_walk;exact hq)
end
structure zQ (K:Fg)(C:Addr):Prop where
 ex:∃bmB newId,W.excIn K C bmB newId=true/\bmB.contains (.type "BaseException")=true
def Av (K:Fg)(cls:Value)(C:Addr)(b:Bool):Prop:=∃D,cls= .ref D/\zQ K D/\W.mroIn K D (.ref C)=some b
theorem Ez {K:Fg}{M:Model}{A:Around}{E:Value->Shared->Prop}{s:Shared}{C a:Addr}{cls:Value}{oe:Obj}{b:Bool}{Q:Bool->Shared->Prop}(X:K.In s.heap)(hC:zQ K C)(c:Av K cls C b)
(he:s.heap.get? a=some oe)(hcls:oe.cls=cls)(hq:Q b s):wpAny M A (excMatches (.ref a) (.ref C)) Q E s:=by
 obtain ⟨D,rfl,hD,hm⟩:=c;obtain ⟨bmB,newId,q1,hbase⟩:=hC.ex;obtain ⟨bmB',newId',q2,_⟩:=hD.ex;obtain ⟨bm,N,nm,q,bs,hdct,sn,sub,ab,col,dd,k0,k1,k2,k3,k5,hC1,T,_⟩:=sj X q1;obtain ⟨bm',N',nm',q',bs',hdct',sn',sub',ab',col',dd',l0,l1,l2,l3,l5,hD1,_,hmro⟩:=sj X q2;exact pV hC1 hD1 he hcls (by rw [List.contains_cons,T.hasType hbase,Bool.or_true]) (hmro _ _ hm) hq
def Cx.mk' (X:Cx)(a:Addr):Cx:= {X with A:=X.A.mark (some (.ref a)),calm:=false,xe:=λ_ _=>False}
section
variable {X:Cx}{pins:List ↑20}{σ:St}{H:Hp}{s:Shared}{a:Addr}
theorem aL.mark (I:aL X pins σ H s):aL (X.mk' a) pins σ H s:=
 ⟨⟨I.ok.mod,I.ok.kind,I.ok.glob,I.ok.blt,I.ok.above,I.ok.inj,I.ok.has,I.ok.cab,(λz=>nomatch (show false=true from z)),I.ok.frames,I.ok.stk,I.ok.exf,I.ok.bs,I.ok.bsz,I.ok.noex,I.ok.exfs,I.ok.funs,I.ok.frf⟩,
   I.os,I.bare,I.base,I.loc,I.cell,I.free,I.freeC,I.pin,I.hok,I.len⟩
theorem aL.unmark (ok:X.Ok)(I:aL (X.mk' a) pins σ H s):aL X pins σ H s:=⟨ok,I.os,I.bare,I.base,I.loc,I.cell,I.free,I.freeC,I.pin,I.hok,I.len⟩
end
def XP (X:Cx)(pins:List ↑20)(σ:St)(E:XK)(e:Value)(s':Shared):Prop:=∃a cls dd H',e= .ref a/\aL X pins σ H' s'/\G7 X pins H' s'.heap a cls dd/\E cls dd H'
def PX (X:Cx)(e:Expr)(t:XK->TE):Prop:=
 ∀(E:XK) (pins:List ↑20) (s:Shared) (σ:St) (H:Hp) (Q:VK),aL X pins σ H s->t E σ H Q->wpAny ↑9 X.A (eval e X.env) (EP X pins σ Q) (XP X pins σ E) s
def O0 (X:Cx)(st:Stmt)(t:XK->TS):Prop:=
 ∀(E:XK) (pins:List ↑20) (s:Shared) (σ:St) (H:Hp) (D:k7),aL X pins σ H s->t E D σ H->wpAny ↑9 X.A (exec st X.env) (SP X pins D) (XP X pins σ E) s
section
variable {X:Cx}{x:Str}{p pos:Pos}{e:Expr}{es:List Expr}{t:TA}{ps:List Str}{sp:Sp}{n m:Nat}{E:XK}
theorem Ao {α:Type}{M:Model}{A:Around}{E E':Value->Shared->Prop}{s:Shared}{c:Sem α}{Q:α->Shared->Prop}(hx:E'=λ_ _=>False)(h:wpAny M A c Q E' s):wpAny M A c Q E s:=by
 subst hx;exact wpAny_noRaise h
theorem FH {pins:List ↑20}{σ:St}{H:Hp}{s:Shared}{Q:VK}{us:List Value}{vs:List V}{f:Addr}{fd:FuncData}{k:Nat}(F:aQ X.prog X.w X.K X.mg X.base (nK X.prog X.w) k f fd ps sp)(hr:dH k X.A)(hb:gd X.K fd ps [])
(I:aL X pins σ H s)(r:bo vs us)(h:sp (vs++[]) H Q E):wpAny ↑9 X.A (call (.ref f) us) (EP X pins σ Q) (XP X pins σ E) s:=by
 have r2:bo (vs++[]) (us++[]):=r.append .nil
 have hl:(us++[]).length=ps.length:=by rw [<-r2.length];exact F.len _ _ _ _ h
 rwa[wpAny_call (codeAny_mono (F.run X.A X.stack s H ⟨us,[]⟩ (us++[]) (vs++[]) Q E hr I.env0 (hb s us I.kIn hl) r2 h) λr s' hq=> ?_)]
 cases r with
 |error e=>exact I.afterE hq
 |ok fl=>
  cases fl with
  |ret u=>exact I.after hq
  |next=>exact False.elim hq
  |brk=>exact False.elim hq
  |cont=>exact False.elim hq
def Nq (t:XK->TE):XK->TS:=λE D σ H=>t E σ H λ_ H1=>D.nx σ H1
theorem Dh {te:XK->TE}(he:PX X e te)(hs:swapsWith e none pos.line X.env=pure false:=by rfl):O0 X (.Expr e pos) (Nq te):=by
 intro E pins s σ H D I h;exact wpAny_Expr_any (b4 (he E pins s σ H _ I h) λv s1 ⟨x,H1,I1,r1,q1⟩=>⟨σ,H1,I1,q1⟩) I.quiet hs
theorem G7.land {X:Cx}{pins:List ↑20}{σ:St}{H:Hp}{s:Shared}{a T:Addr}{cls:Value}{dd:Option Addr}{fl:Value}{M:Model}{A:Around}{E:Value->Shared->Prop}{Q:Unit->Shared->Prop}(I:aL X pins σ H s)(x:EZ s.heap a T cls dd fl)(fT:Nw X pins H T)
(h:∀h',aL X pins σ H {s with heap:=h'}->EZ h' a T cls dd .none->Q () {s with heap:=h'}):wpAny M A (setFlight (.ref a) none) Q E s:=
 sf x λh' p x'=>h h' (I.pass (p.more λ_ z=>nomatch z) (by simpa using fT)) x'
end
open PySem.W
section
variable {prog:Program}{w:World}{A:Around}{E:Value->Shared->Prop}{s:Shared}{K:Frag}{x D:Addr}{ox:Obj}{odo:Option Obj}{name:Str}
theorem Kd {R:Result->Shared->Prop}{tk:Tok}(X:K.In s.heap)(I:PySem.W.InstAt s.heap x ox D odo)
(hcl:findIn K (.ref D) "__class__"=some (some (.builtin "object.__class__")))(hmB:mroIn K D (.type "BaseException")=some true)(hmO:mroIn K D (.type "object")=some true)
(h:R (.ok (.ret (.ref D))) s):codeAny ↑38 A (.call (.builtin "BaseException.__getattribute__") ⟨[.ref x,.str (Str.ofString "__class__") tk],[]⟩) R s:=by
 obtain ⟨hh,g,d,t,os⟩:=s;have L0:=I.type (M:=model prog w);have L3:=looks_findIn (M:=model prog w) X hcl;have L4:=looks_mroIn (M:=model prog w) X hmB;rwa[codeAny_call_builtin PySem.F.attr_ValueError.ga.plain PySem.F.entry_bexc_ga ?_]
 have hk:builtinKind "BaseException.__getattribute__"=some .slot:=by decide+kernel
 have hsplit:splitId "BaseException.__getattribute__"=some ("BaseException","__getattribute__"):=by decide+kernel
 have ha:=PySem.F.args_bexc_ga (.ref x) (.str (Str.ofString "__class__") tk);simp only [checkBuiltinCall,hk,hsplit];rwa[wpAny_bind ?_];unfold isInstance;rwa[wpAny_bind (L0.at (L4.at ?_))];have f5:=KF.type_class;have f6:=PySem.F.slot_gs_get.lookup;have f7:=PySem.F.slot_gs_set.lookup
 repeat (any_goals (first|assumption|with_reducible refine L0.at ?_|with_reducible refine L3.at ?_|wp_step))
 rwa[class_get (s:=⟨hh,g,d,t,os⟩) (ox:=ox) (od:=odo) X I hmO ?_]
 repeat (any_goals (first|assumption|wp_step))
theorem GS {Q:Option Value->Shared->Prop}(X:K.In s.heap)(I:PySem.W.InstAt s.heap x ox D odo)(hga:findIn K (.ref D) "__getattribute__"=some (some (.builtin "BaseException.__getattribute__")))
(hgr:findIn K (.ref D) "__getattr__"=some none)(hcl:findIn K (.ref D) "__class__"=some (some (.builtin "object.__class__")))(hmB:mroIn K D (.type "BaseException")=some true)(hmO:mroIn K D (.type "object")=some true)
(h:Q (some (.ref D)) {s with toks:=s.toks+1}):wpAny ↑38 A (getAttr? (.ref x) "__class__") Q E s:=by
 obtain ⟨hh,g,d,t,os⟩:=s;have L0:=I.type (M:=model prog w);have L1:=looks_findIn (M:=model prog w) X hga;have L2':=looks_findIn (M:=model prog w) X hgr;have L3:=looks_findIn (M:=model prog w) X hcl;have L4:=looks_mroIn (M:=model prog w) X hmB;have f3:=PySem.F.attr_ValueError.ga.bind (.ref x);unfold getAttr? getAttrBy? getAttrBy;rwa[wpAny_bind (wpAny_mkText (wpAny_bind (wpAny_attempt (wpAny_holding (wpAny_bind (L0.at (wpAny_bind (L1.at ?_))))))))]
 have hx2:(Value.builtin "BaseException.__getattribute__"==Value.builtin "object.__getattribute__")=false:=by decide+kernel
 repeat (any_goals (first|assumption|wp_step))
 rwa[L2'.at ?_]
 repeat (any_goals (first|assumption|wp_step))
 rwa[Kd X I hcl hmB hmO ?_];exact handed_on rfl (wpAny_pure h)
end
def ji (a:Addr)(cls:Value)(dd:Option Addr):HO:= .ext λh=>∃oe vs,h.get? a=some oe/\oe.cls=cls/\oe.dict=dd/\oe.data= .fields vs/\vs[2]? =some .none
theorem GT {P:Program}{w:World}{H:Hp}{h:Heap}{a T:Addr}{cls fl:Value}{dd:Option Addr}(x:EZ h a T cls dd fl):bS P w H h a (ji a cls dd):=by
 obtain ⟨oe,vs,oT,ts,h1,h2,h3,h4,h5,h5',_⟩:=x.ex;exact ⟨⟨oe,vs,h1,h2,h3,h4,h5'⟩,⟨_,h1⟩,λg1 g2 ⟨oe,vs,k1,k2⟩ st=>⟨oe,vs,st _ k1,k2⟩⟩
structure yb (K:Frag)(D:Addr):Prop where
 ga:findIn K (.ref D) "__getattribute__"=some (some (.builtin "BaseException.__getattribute__"))
 gr:findIn K (.ref D) "__getattr__"=some none
 cl:findIn K (.ref D) "__class__"=some (some (.builtin "object.__class__"))
 mB:mroIn K D (.type "BaseException")=some true
 mO:mroIn K D (.type "object")=some true
theorem xG {K:Frag}{x D:Addr}{ox:Obj}{odo:Option Obj}(k:yb K D):KitX K (.ref x) (.ref D) (λh=>PySem.W.InstAt h x ox D odo) where
 ty:=λ_ _ _ I=>I.type
 it:=λM h X _=>by
  obtain ⟨cd,hc,_⟩:=Option.bind_eq_some_iff.mp k.mO;unfold clsIn at hc;split at hc
  ·rename_i c' d' cd' sl' ho;intro A' Q' E' s' kk q;unfold isType loadHead;exact wpAny_bind (wpAny_loadPart (kk _ _ (X _ _ ho)) (wpAny_pure q))
  ·cases hc
 ne:=λh tp dd its n sl X htp=>by
  obtain ⟨cd,hc,_⟩:=Option.bind_eq_some_iff.mp k.mO;rwa[Bool.eq_false_iff.mpr λq=> ?_];have e:D=tp:=Value.ref.inj (beq_iff_eq.mp q);subst e;unfold clsIn at hc;split at hc
  ·rename_i c' d' cd' sl' ho;have z:=(X _ _ ho).symm.trans htp;cases z
  ·cases hc
 ca:=λX I q=>GS X I k.ga k.gr k.cl k.mB k.mO q
section
variable {X:Cx}{pins:List ↑20}{σ:St}{H:Hp}{s:Shared}{a:Addr}{o:HO}
theorem aL.track (I:aL X pins σ H s)(n:Nw X pins H a)(ok:bS X.prog X.w (upd H a o) s.heap a o):aL X pins σ (upd H a o) s:=by
 obtain ⟨n1,n2,n3,n4,n5,n6⟩:=n
 have old:∀b u,H b=some u->upd H a o b=some u:=λb u e=>by rw [am (bQ e n1)];exact e
 rwa[⟨I.ok,I.os,I.bare,⟨I.base.keep,I.base.slot,λb u e n hx=> ?_,I.base.there,λb xs e=>old _ _ (I.base.tups b xs e),λb u v e=>old _ _ (I.base.frzs b u v e),λb ps e=> ?_⟩,I.loc,I.cell,?_,λx c e=> ?_,λp hp=> ?_,λb u e=> ?_,I.len⟩]
 ·have hb:b≠a:=λz=>by
   subst z
   rcases n4 with q|q
   ·exact hx q
   ·rw [e] at q;cases q
  rw [am hb];exact I.base.free b u e n hx
 ·obtain ⟨m,q⟩:=I.base.tbls b ps e;exact ⟨m,old _ _ q⟩
 ·rw [am (Ne.symm n2)];exact I.free
 ·rw [am (n5 x c e)];exact I.freeC x c e
 ·obtain ⟨e,n,r⟩:=I.pin p hp;exact ⟨e,by rw [am (n6 p hp)];exact n,r⟩
 ·by_cases hb:b=a
  ·subst hb;rw [aj] at e;cases e;exact ok
  ·rw [am hb] at e;exact (I.hok b u e).stay (λ_ _ _ q=>q) (λc q=>old _ _ q) λc xs q=>old _ _ q
theorem qo {M:Model}{A:Around}{E:Value->Shared->Prop}{j:Nat}{n:Str}{pos:Pos}{Q:Unit->Shared->Prop}(I:aL X pins σ H s)(hN:X.N.Nodup)(hj:X.N[j]? =some n)(hk:X.env.scope.names.lookup n=some .local)
(h:∀s',aL X pins (σ.set j none) H s'->Q () s'):wpAny M A (do bindName X.env n .none;unbindBehindTheSuite X.env n pos) Q E s:=by
 obtain ⟨m,hn,hl⟩:=id I.loc
 have hcls:(X.env.scope.kind== .class||(X.env.scope.kind== .module&&X.env.locals != X.env.globals))=false:=by rw [I.ok.kind];rfl
 have hjσ:j<σ.length:=by rw [I.len];exact (List.getElem?_eq_some_iff.mp hj).1
 rwa[wpAny_nameGoes_keeps hk hn hcls λh' v hn' hs=>h _ ?_];obtain ⟨oL,_,_,hoL,_⟩:=id hn;rwa[⟨I.ok,I.os,I.bare,⟨λb o e n hb hx=> ?_,λb o e n hb hx=> ?_,I.base.free,λb o e hx=> ?_,I.base.tups,I.base.frzs,I.base.tbls⟩,⟨_,hn',λi y v' e1 e2 e3=> ?_⟩,λy c e=> ?_,I.free,I.freeC,λp hp=> ?_,λb ob e=> ?_,by simpa using I.len⟩]
 ·exact (hs.2 b (Nat.ne_of_lt ↑41)).trans (I.base.keep b o e n hb hx)
 ·obtain ⟨sl,e1⟩:=I.base.slot b o e n hb hx;exact ⟨sl,(hs.2 b (Nat.ne_of_lt ↑41)).trans e1⟩
 ·obtain ⟨o',e1⟩:=I.base.there b o e hx;exact ⟨o',(hs.2 b (Nat.ne_of_lt ↑41)).trans e1⟩
 ·by_cases hij:i=j
  ·subst hij;rw [List.getElem?_set_self hjσ] at e2;cases e2
  ·rw [List.getElem?_set_ne (Ne.symm hij)] at e2;obtain ⟨u',r',q⟩:=hl i y v' e1 e2 e3;rwa[⟨u',r',?_⟩]
   rcases q with ⟨k,e⟩|⟨k,c,e,z⟩
   ·rwa[.inl ⟨k,?_⟩];have:y≠n:=λe=>hij (rK hN e1 (e▸hj));simp [this,e]
   ·exact .inr ⟨k,c,e,z.sameBut hs (I.cne y c e)⟩
 ·obtain ⟨w',z⟩:=I.cell y c e;exact ⟨w',z.sameBut hs (I.cne y c e)⟩
 ·obtain ⟨e,n,ne,nf,d⟩:=I.pin p hp;exact ⟨(hs.2 p.1 ne).trans e,n,ne,nf,d⟩
 ·rwa[(I.hok b ob e).stay (λc w' hc q=>(hs.2 c ?_).trans q) (λ_ q=>q) λ_ _ q=>q];rintro rfl
  rcases hc with hc|hc
  ·have z:=I.free;rw [hc,e] at z;cases z
  ·rw [I.free] at hc;cases hc
end
def L6 (D:k7)(j:Nat):k7:= {nx:=λσ H=>D.nx (σ.set j none) H,rt:=D.rt,bk:=λσ H=>D.bk (σ.set j none) H,ct:=λσ H=>D.ct (σ.set j none) H}
section
variable {X:Cx}
def zx (K:Fg)(a:Addr)(c:V)(H:Hp)(Q:VK):Prop:=∃D dd cv b,H a=some (ji a (.ref D) dd)/\yb K D/\(dd=none\/∃d fs,dd=some d/\H d=some (.xd fs))/\cV c=some cv/\W.kitOne K (.ref D) cv=some b/\Q (.bl b) H
end
structure MO (k:Nat)(A:Around)(a:Addr):Prop where
 hd:A.handled=some (.ref a)
 dp:A.depth+3*k+5<recursionLimit
 un:A.units+16*k+200<cLine
structure MY (P:Program)(w:World)(K:Fg)(mg:Str->Option Value)(base:Heap)(k:Nat)(f:Addr)(fd:FuncData)(ps:List Str)(sp:Addr->Sp):Prop where
 len:∀a vs H Q E,sp a vs H Q E->vs.length=ps.length
 run:∀(a:Addr) (A:Around) (outer:List Env) (s:Shared) (H:Hp) (args:Args) (us:List Value) (vs:List V) (Q:VK) (E:XK),MO k A a->wM P w K mg base A outer s H->BindsTo s fd args (ps.zip us)->bo vs us->sp a vs H Q E->
  codeAny (model P w) A (.call (.ref f) args) (CR b8 outer P w H s Q E) s
structure CalH (P:Program)(w:World)(K:Fg)(mg:Str->Option Value)(base:Heap)(n:Nat)(x:Str)(ps:List Str)(sp:Addr->Sp):Prop where
 ex:∃f fd,MY P w K mg base n f fd ps sp/\gd K fd ps []/\W.keepIn K (.ref f)=true/\mg x=some (.ref f)
def j5 (K:Fg)(a:Addr)(c:V)(H:Hp)(Q:VK):Prop:=mm K (.ref a) c H Q\/zx K a c H Q
def Ck (K:Fg):List V->Hp->VK->Prop:=λxs H Q=>match xs with
 |[.ref a,c]=>j5 K a c H Q
 |xs=>Ip K xs H Q
theorem eh {X:Cx}{K:Fg}(hK:X.K=K):b3 X (.builtin "isinstance") (Ck K):=by
 intro pins s σ H xs us Q I r h;have old:Ip K xs H Q->wpAny ↑9 X.A (call (.builtin "isinstance") us) (EP X pins σ Q) X.xe s:=λh=>KU hK pins s σ H xs us Q I r h
 match xs,h with
 |[.ref a,c],h=>
  rcases h with h|⟨D,dd,cv,b,e,k,hdd,hc,hk,q⟩
  ·subst hK;obtain ⟨cv,t,b,h1,h2,h3,h4⟩:=h;exact xX pins s σ H _ us Q I r ⟨.ref a,c,cv,t,b,rfl,h1,h2,h3,h4⟩
  ·subst hK;obtain ⟨u,w',rfl,r1,r2⟩:=wW r;cases ED hc r2;obtain rfl:u=Value.ref a:=r1;obtain ⟨⟨oe,vs,k1,k2,k3,k4,k5⟩,_,_⟩:=I.hok a _ e
   rcases hdd with rfl|⟨d,fs,rfl,ed⟩
   ·rwa[W.kia_one (xG (ox:=oe) (odo:=none) k) I.kIn ⟨k1,k2,?_,?_⟩ hk (λz=>nomatch z) λtk=>⟨.bl b,H,I.tok _,rfl,q⟩]
    ·unfold W.notCls;rw [k4]
    ·rw [k3];trivial
   ·obtain ⟨mA,⟨od,es,ep,e',_⟩,_⟩:=I.hok d _ ed;rwa[W.kia_one (xG (ox:=oe) (odo:=some od) k) I.kIn ⟨k1,k2,?_,?_⟩ hk (λz=>nomatch z) λtk=>⟨.bl b,H,I.tok _,rfl,q⟩]
    ·unfold W.notCls;rw [k4]
    ·rw [k3];exact e'
 |[],h=>exact old h
 |[.non],h=>exact old h
 |[.bl _],h=>exact old h
 |[.int _],h=>exact old h
 |[.str _],h=>exact old h
 |[.byt _],h=>exact old h
 |[.flt _],h=>exact old h
 |[.ty _],h=>exact old h
 |[.ref _],h=>exact old h
 |[.non,c],h=>exact old h
 |[.bl _,c],h=>exact old h
 |[.int _,c],h=>exact old h
 |[.str _,c],h=>exact old h
 |[.byt _,c],h=>exact old h
 |[.flt _,c],h=>exact old h
 |[.ty _,c],h=>exact old h
 |x::y::z::r,h=>exact old (by cases x<;>exact h)
theorem wa {K:Fg}{H:Hp}{a:Addr}{c:V}{cv t:Value}{b:Bool}{Q:VK}(h1:cV c=some cv)(h2:jC K H (.ref a) t)(h3:W.kitOne K t cv=some b)(g:Q (.bl b) H):j5 K a c H Q:= .inl ⟨cv,t,b,h1,h2,h3,g⟩
theorem d3 {K:Fg}{H:Hp}{a D:Addr}{c:V}{cv:Value}{b:Bool}{Q:VK}(e:H a=some (ji a (.ref D) none))(k:yb K D)(h1:cV c=some cv)(h3:W.kitOne K (.ref D) cv=some b)(g:Q (.bl b) H):j5 K a c H Q:= .inr ⟨D,none,cv,b,e,k,.inl rfl,h1,h3,g⟩
theorem aS {K:Fg}{H:Hp}{a D d:Addr}{fs:List (Str×V)}{c:V}{cv:Value}{b:Bool}{Q:VK}(e:H a=some (ji a (.ref D) (some d)))(ed:H d=some (.xd fs))(k:yb K D)(h1:cV c=some cv)(h3:W.kitOne K (.ref D) cv=some b)(g:Q (.bl b) H):j5 K a c H Q:= .inr ⟨D,some d,cv,b,e,k,.inr ⟨d,fs,rfl,ed⟩,h1,h3,g⟩
theorem oF {M:Model}{A:Around}{E:Value->Shared->Prop}{s:Shared}{env:Env}{o:Expr}{m:Str}{apos pos:Pos}{es:List Expr}{Q:Value->Shared->Prop}(hb:fW o=true)(hp:bd es=true)(hl:es.length<29)(hline:(apos.endLine==pos.line)=true)
(h:wpAny M A (eval o env) (λov s₁=>wpAny M A (getMethod ov m (do return (<-importBound o env).getD true)) (λfx s₂=>wpAny M A (callWith pos fx.1 fx.2 (backTo pos (starEach es env)) (backToKw pos (keywordEach [] env))) Q E s₂) E s₁) E s):
 wpAny M A (eval (.Call (.Attribute o m apos) es [] pos) env) Q E s:=by
 have hfew:methodCallForm (es.length+([]:List Keyword).length) (backTo pos (starEach es env)) (backToKw pos (keywordEach [] env))=true:=by
  unfold methodCallForm;rw [oA hp,arm_keywordEach_nil];show (true&&true&&decide (es.length+0+0<30))=true;rw [decide_eq_true ↑5];rfl
 rw [arm_eval_Call,tH hb];rwa[wpAny_bind (b4 h λov s1 h1=>wpAny_bind (wpAny_standAt ?_))];unfold methodCall;rw [hfew];rwa[wpAny_bind (wpAny_holding ?_)];unfold calleeOf;rw [if_pos rfl];rwa[b4 h1 λfx s2 h2=> ?_];rwa[wpAny_bind ?_];unfold methodCallPos;rw [hline];exact wpAny_pure h2
structure pD (P:Program)(w:World)(K:Fg)(mg:Str->Option Value)(base:Heap)(CX:qw)(n:Nat)(m:Str)(C:Addr)(sp:Sp):Prop where
 ex:∃f fd ps,ua K C/\ER K C m f/\aQ P w K mg base CX n f fd ps sp/\gd K fd ps []
def v0 (P:Program)(w:World)(K:Fg)(mg:Str->Option Value)(base:Heap)(CX:qw)(n:Nat)(m:Str)(a:Addr)(E:XK)(H:Hp)(k:Sp->Prop):Prop:=∃C dx fs sp,H a=some (.ins C dx fs)/\fs.lookup m=none/\pD P w K mg base CX n m C sp/\k sp
def Hi (P:Program)(w:World)(K:Fg)(mg:Str->Option Value)(base:Heap)(CX:qw)(n:Nat)(m:Str)(E:XK)(to:TE)(t:TA):TE:=λσ H Q=>to σ H λx H1=>match x with
 | .ref a=>v0 P w K mg base CX n m a E H1 λsp=>t σ H1 λvs H2=>sp (.ref a::vs) H2 Q E
 |_=>False
section
variable {X:Cx}{CX:qw}{o e:Expr}{es:List Expr}{to:TE}{t:TA}{m:Str}{apos pos:Pos}{n k:Nat}{E:XK}
theorem qg (hx:ju CX X E)(hr:dH k X.A)(hn:n<=k)(ho:PE X o to)(ha:PA X (e::es) t)(hb:fW o=true:=by rfl)(hp:bd (e::es)=true:=by rfl)(hl:(e::es).length<29:=by decide)
(hline:(apos.endLine==pos.line)=true:=by rfl):PE X (.Call (.Attribute o m apos) (e::es) [] pos) (Hi X.prog X.w X.K X.mg X.base CX n m E to t):=by
 have h':(b5 e&&bd es)=true:=hp;rw [Bool.and_eq_true] at h';intro pins s σ H Q I h;rwa[oF hb hp hl hline (b4 (ho pins s σ H _ I h) λu s1 ⟨x,H1,I1,rx,q⟩=> ?_)]
 match x,q with
 | .ref a,⟨C,dx,fs,sp,ea,l,c,q⟩=>
   obtain rfl:u=Value.ref a:=rx;obtain ⟨f,fd,ps,cl,hm,F,b⟩:=c.ex;rwa[r9 I1 ea cl hm l ?_];rwa[W.callWith_K (first:=[.ref a]) (h₀:=X.base) I.ok.mod.kin hm.kp (b4 (ha pos pins s1 σ H1 _ I1 q) λus s2 ⟨vs,H2,I2,r,q2⟩=>⟨I2.kIn,?_⟩) (bq h'.1) (bT h'.2)];exact C6 (us:= .ref a::us) (vs:= .ref a::vs) (F.mono hn) hr b .nil hx I2 (.cons rfl r) (by rw [List.append_nil];exact q2)
def pU (K:Fg)(f:Str)(a:Addr)(H:Hp)(Q:VK):Prop:=∃C dx fs v,H a=some (.ins C dx fs)/\ua K C/\bV K C f/\fs.lookup f=some v/\Q v H
def NP (K:Fg)(f:Str)(to:TE):TE:=λσ H Q=>to σ H λx H1=>match x with| .ref a=>pU K f a H1 Q|_=>False
theorem aW {K:Fg}{f:Str}(hK:X.K=K)(ho:PE X o to)(hb:fW o=true:=by rfl):PE X (.Attribute o f pos) (NP K f to):=by
 subst hK;intro pins s σ H Q I h;rwa[Aq (tH hb) (b4 (ho pins s σ H _ I h) λu s1 ⟨x,H1,I1,rx,q⟩=> ?_)]
 match x,q with
 | .ref a,⟨C,dx,fs,v,ea,c,n,l,q⟩=>
   obtain rfl:u=Value.ref a:=rx;exact zz I1 ea c n l λu' s2 I2 ru=>⟨v,H1,I2,ru,q⟩
def putAt (K:Fg)(f:Str)(a:Addr)(y:V)(H:Hp)(R:Hp->Prop):Prop:=∃C dx fs,H a=some (.ins C dx fs)/\ua K C/\bV K C f/\fs.length<1000/\R (upd H a (.ins C dx (putF f y fs)))
def NC (K:Fg)(f:Str)(to tv:TE):TS:=λD σ H=>tv σ H λy H1=>to σ H1 λx H2=>match x with| .ref a=>putAt K f a y H2 λH3=>D.nx σ H3|_=>False
theorem dz {K:Fg}{f:Str}{value:Expr}{tv:TE}{pos':Pos}(hK:X.K=K)(ho:PE X o to)(hv:PE X value tv)(hs:swapsWith value (some (.Attribute o f pos')) pos.line X.env=pure false:=by rfl):PS X (.Assign [.Attribute o f pos'] value pos) (NC K f to tv):=by
 subst hK;intro pins s σ H D I h;rwa[plainObj_wpAny_Assign_Attribute (b4 (hv pins s σ H _ I h) λu s1 ⟨y,H1,I1,ry,q⟩=>b4 (ho pins s1 σ H1 _ I1 q) λov s2 ⟨x,H2,I2,rx,q2⟩=> ?_) hs]
 match x,q2 with
 | .ref a,⟨C,dx,fs,ea,c,n,l,q⟩=>
   obtain rfl:ov=Value.ref a:=rx;exact yH I2 ea c n l ry λs3 I3=>⟨σ,_,I3,q⟩
theorem mY {P:Program}{w:World}{K:Fg}{mg:Str->Option Value}{base:Heap}{a C dx:Addr}{fs:List (Str×V)}{sp:Sp}{H:Hp}{kk:Sp->Prop}(h1:H a=some (.ins C dx fs))(h2:fs.lookup m=none)(h3:pD P w K mg base CX n m C sp)(g:kk sp):v0 P w K mg base CX n m a E H kk:=⟨C,dx,fs,sp,h1,h2,h3,g⟩
theorem ik {K:Fg}{f:Str}{a C dx:Addr}{fs:List (Str×V)}{v:V}{H:Hp}{Q:VK}(h1:H a=some (.ins C dx fs))(h2:ua K C)(h3:bV K C f)(h4:fs.lookup f=some v)(g:Q v H):pU K f a H Q:=⟨C,dx,fs,v,h1,h2,h3,h4,g⟩
theorem dB {K:Fg}{f:Str}{a C dx:Addr}{fs:List (Str×V)}{y:V}{H:Hp}{R:Hp->Prop}(h1:H a=some (.ins C dx fs))(h2:ua K C)(h3:bV K C f)(h4:fs.length<1000)(g:R (upd H a (.ins C dx (putF f y fs)))):putAt K f a y H R:=⟨C,dx,fs,h1,h2,h3,h4,g⟩
end
structure nJ (P:Program)(w:World)(K:Fg)(mg:Str->Option Value)(base:Heap)(CX:qw)(n:Nat)(x:Str)(C:Addr)(sp:Sp):Prop where
 ex:∃f fd ps,Mk K C f/\aQ P w K mg base CX n f fd ps sp/\gd K fd ps []/\mg x=some (.ref C)
section
variable {X:Cx}{CX:qw}{e:Expr}{es:List Expr}{t:TA}{x:Str}{p pos:Pos}{n k:Nat}{E:XK}{C:Addr}{sp:Sp}
def jV (C:Addr)(sp:Sp)(E:XK)(vs:List V)(H:Hp)(Q:VK):Prop:=∀a dx,H a=none->H dx=none->dx≠a->sp (.ref a::(vs++[])) (upd (upd H dx (.own a)) a (.ins C dx [])) (λv H2=>v= .non/\Q (.ref a) H2) E
def K7 (C:Addr)(sp:Sp)(E:XK)(t:TA):TE:=λσ H Q=>t σ H λvs H1=>jV C sp E vs H1 Q
theorem kB (c:nJ X.prog X.w X.K X.mg X.base CX n x C sp)(hx:ju CX X E)(hr:dH k X.A)(hn:n+1<=k)(hg:Gl X x)(ha:PA X (e::es) t)(hdb:↑36=false:=by decide)(hp:bd (e::es)=true:=by rfl):
 PE X (.Call (.Name x p) (e::es) [] pos) (K7 C sp E t):=by
 obtain ⟨f,fd,ps,M,F,b,hm⟩:=c.ex;have h':(b5 e&&bd es)=true:=hp;rw [Bool.and_eq_true] at h';rwa[(FU M F (hr.mono hn) hg hm b .nil hx ha hdb (bq h'.1) (bT h'.2)).imp λσ H Q h=> ?_];exact h
end
section
variable {X:Cx}{K:Fg}{a b c:Expr}{ta tb tc:TE}{pos:Pos}
def BI (K:Fg)(p q:Addr)(H:Hp)(Q:VK):Prop:=G1 p q H Q\/∃xs ys,aK K H p xs/\aK K H q ys/\xs≠[]/\xs.length+ys.length<=sizeLine/\(ys=[]->Q (.ref p) H)/\(ys≠[]->∀l,H l=none->Q (.ref l) (upd H l (.tup (xs++ys))))
def Lj (K:Fg):R2:=λx y H Q=>match x,y with
 | .int i,.int j=>Q (.int (i+j)) H
 | .str a,.str b=>a.length+b.length<=sizeLine/\Q (.str (a++b)) H
 | .ref p,.ref q=>BI K p q H Q
 |_,_=>False
theorem Im (hK:X.K=K):d8 X (binaryOp .Add) (Lj K):=by
 subst hK;rwa[(KY.or FZ).imp λx y H Q h=> ?_]
 cases x with
 |int i=>cases y with
  |int j=>exact .inl h
  |_=>exact False.elim h
 |str a=>cases y with
  |str b=>exact .inl h
  |_=>exact False.elim h
 |ref p=>cases y with
  |ref q=>
   rcases h with h|⟨xs,ys,h1,h2,h3,h4,h5,h6⟩
   ·exact .inl h
   ·exact .inr ⟨p,q,xs,ys,rfl,rfl,h1,h2,h3,h4,h5,h6⟩
  |_=>exact False.elim h
 |_=>exact False.elim h
theorem ME {p q:Addr}{H:Hp}{Q:VK}{xs ys:List V}(h1:H p=some (.lst xs))(h2:H q=some (.lst ys))(hz:xs.length+ys.length<=sizeLine)(g:∀l,H l=none->Q (.ref l) (upd H l (.lst (xs++ys)))):BI K p q H Q:= .inl ⟨xs,ys,h1,h2,hz,g⟩
theorem MD {p q:Addr}{H:Hp}{Q:VK}{xs ys:List V}(h1:aK K H p xs)(h2:aK K H q ys)(hx:xs≠[])(hy:ys≠[])(hz:xs.length+ys.length<=sizeLine)(g:∀l,H l=none->Q (.ref l) (upd H l (.tup (xs++ys)))):BI K p q H Q:=
 .inr ⟨xs,ys,h1,h2,hx,hz,λz=>absurd z hy,λ_=>g⟩
def Fh (r r':R2)(ta tb tc:TE):TT:=λσ H Q=>ta σ H λx H1=>tb σ H1 λy H2=>r x y H2 λz H3=>match z with| .bl k=>rY k (tc σ H3 λw' H4=>r' y w' H4 λv H5=>match v with| .bl c=>Q c H5|_=>False) (Q false H3)|_=>False
theorem wU {op op':CmpOp}{r r':R2}(ho:d8 X (compareOp op) r)(ho':d8 X (compareOp op') r')(ha:PE X a ta)(hb:PE X b tb)(hc:PE X c tc)
(hm:lastMarks [op,op'] [b,c]=false:=by with_unfolding_all rfl):PT X (.Compare a [op,op'] [b,c] pos) (Fh r r' ta tb tc):=by
 intro pins s σ H Q I h
 refine isTrue_chain (b4 (ha pins s σ H _ I h) λv s1 ⟨x,H1,I1,r1,q1⟩=>test_link (b4 (hb pins s1 σ H1 _ I1 q1) λu s2 ⟨y,H2,I2,r2,q2⟩=>
  b4 (ho pins s2 σ H2 x y v u _ I2 r1 r2 q2) λd s3 ⟨z,H3,I3,r3,q3⟩=> ?_)) hm
 match z,q3 with
 | .bl k,q3=>
   cases r3;rwa[wpAny_truthy_bool ?_]
   cases k with
   |false=>exact ite_ff ⟨H3,I3,q3⟩
   |true=>
    rwa[ite_tt (test_last (b4 (hc pins s3 σ H3 _ I3 q3) λw' s4 ⟨z',H4,I4,r4,q4⟩=>b4 (ho' pins s4 σ H4 y z' u w' _ I4 r2 r4 q4) λd' s5 ⟨z2,H5,I5,r5,q5⟩=> ?_))]
    match z2,q5 with
    | .bl c,q5=>
      cases r5;exact wpAny_truthy_bool ⟨H5,I5,q5⟩
def GO (a b:Addr)(H:Hp)(Q:VK):Prop:=∃xs zs,H a=some (.lst xs)/\H b=some (.lst zs)/\xs.length+zs.length<=sizeLine/\Q .non (upd H a (.lst (xs++zs)))
def Fj:V->List V->Hp->VK->Prop:=λx xs H Q=>match x,xs with| .ref a,[.ref b]=>GO a b H Q|_,_=>False
theorem iw:Au X "list.extend" Fj:=by
 intro pins s σ H x xs v us Q I rx rs h
 match x,xs,h with
 | .ref a,[.ref b],⟨ys,zs,h1,h2,h3,h4⟩=>exact Bj pins s σ H _ _ v us Q I rx rs ⟨a,b,ys,zs,rfl,rfl,h1,h2,h3,h4⟩
theorem uE {a b:Addr}{H:Hp}{Q:VK}{xs zs:List V}(h:H a=some (.lst xs))(h2:H b=some (.lst zs))(hz:xs.length+zs.length<=sizeLine)(g:Q .non (upd H a (.lst (xs++zs)))):GO a b H Q:=⟨xs,zs,h,h2,hz,g⟩
def NK:List V->Hp->VK->Prop:=λxs H Q=>match xs with|[.int i,.int j]=>Q (.int (if j>i then j else i)) H|_=>False
theorem KR (hc:X.calm=true):b3 X (.builtin "max") NK:=(BK hc).imp λxs H Q h=>by
 match xs,h with
 |[.int i,.int j],h=>exact ⟨i,j,rfl,h⟩
def NJ:List V->Hp->VK->Prop:=λxs H Q=>match xs with|[.int i,.int j]=>Q (.int (if j<i then j else i)) H|_=>False
theorem KQ (hc:X.calm=true):b3 X (.builtin "min") NJ:=(BJ hc).imp λxs H Q h=>by
 match xs,h with
 |[.int i,.int j],h=>exact ⟨i,j,rfl,h⟩
end
open Builtin Builtin.Str
section
variable {X:Cx}{K:Fg}
def Ny (K:Fg):V->Option Int->Option Int->Hp->VK->Prop:=λx lo hi H Q=>match x with
 | .ref p=>pK K p lo hi H Q
 | .str z=>z.length<=sizeLine/\Q (.str (Txt.slice z lo hi)) H
 |_=>False
theorem jw (hK:X.K=K):HM X (Ny K):=by
 intro pins s σ H x v vl vu lo hi sl Q I rx hs pl pu h
 cases x with
 |ref p=>exact Nt hK pins s σ H _ v vl vu lo hi sl Q I rx hs pl pu h
 |str z=>
  obtain ⟨t,rfl⟩:=rx;obtain ⟨hz,q⟩:=h;rwa[⟨"str",_,F.slot_str_getitem.lookup,typeIs_str _ _ _,?_⟩];have fin:∀t' k,EP X pins σ Q (.str (Txt.slice z lo hi) t') {s with toks:=k}:=λt' k=>⟨.str _,H,I.tok k,⟨t',rfl⟩,q⟩
  cases pl with
  |none=>cases pu with
   |none=>exact wpAny_getItem_str_slice (l:=none) (u:=none) (st:=none) hs rfl (post_val_or_str ⟨Nat.le_trans (Txt.slice_le z _ _) hz,fin⟩)
   |int j tj=>exact wpAny_getItem_str_slice (l:=none) (u:=some (j,tj)) (st:=none) hs rfl (post_val_or_str ⟨Nat.le_trans (Txt.slice_le z _ _) hz,fin⟩)
  |int i ti=>cases pu with
   |none=>exact wpAny_getItem_str_slice (l:=some (i,ti)) (u:=none) (st:=none) hs rfl (post_val_or_str ⟨Nat.le_trans (Txt.slice_le z _ _) hz,fin⟩)
   |int j tj=>exact wpAny_getItem_str_slice (l:=some (i,ti)) (u:=some (j,tj)) (st:=none) hs rfl (post_val_or_str ⟨Nat.le_trans (Txt.slice_le z _ _) hz,fin⟩)
 |_=>exact False.elim h
theorem dU {x:Str}{C:Addr}{pos:Pos}(hg:Gl X x)(hm:X.mg x=some (.ref C))(hdb:↑36=false:=by decide):PE X (.Name x pos) (tC (.ref C)):=eQ (v:=V.ref C) hg hm rfl hdb
end
theorem ar.seqT {K:Fg}{H H':Hp}{a:Addr}{xs:List V}(e:ar H H')(h:aK K H a xs):aK K H' a xs:=by
 rcases h with (h|⟨o,h⟩)|h
 ·exact .inl (.inl (e _ _ h))
 ·exact .inl (.inr ⟨o,e _ _ h⟩)
 ·exact .inr h
theorem ar.upd {H:Hp}{p:Addr}{o:HO}(hp:H p=none):ar H (upd H p o):=λb u z=>by rw [am (bQ z hp)];exact z
section
variable {K:Fg}{H H':Hp}{x:V}
theorem Hu {α β:Type}{F:α->β->Prop}:∀ {xs:List α} {ds:List β} {i:Nat} {x:α},Paired F xs ds->xs[i]? =some x->∃d,ds[i]? =some d/\F x d
 |_,_,0,_,.cons r _,h=>⟨_,rfl,by simp at h;exact h▸r⟩
 |_,_,i+1,_,.cons _ t,h=>by simpa using Hu t (by simpa using h)
 |_,_,i,_,.nil,h=>by simp at h
theorem Ht {α β:Type}{F:α->β->Prop}:∀ {xs:List α} {ds:List β} {i:Nat} {d:β},Paired F xs ds->ds[i]? =some d->∃x,xs[i]? =some x/\F x d
 |_,_,0,_,.cons r _,h=>⟨_,rfl,by simp at h;exact h▸r⟩
 |_,_,i+1,_,.cons _ t,h=>by simpa using Ht t (by simpa using h)
 |_,_,i,_,.nil,h=>by simp at h
theorem _root_.PySem.Paired.len {α β:Type}{F:α->β->Prop}{xs:List α}{ds:List β}(h:Paired F xs ds):xs.length=ds.length:=by
 induction h with
 |nil=>rfl
 |cons _ _ ih=>simp [ih]
theorem OY {α β:Type}{F:α->β->Prop}:∀ {xs:List α} {ds:List β},xs.length=ds.length->(∀(i:Nat) x d,xs[i]? =some x->ds[i]? =some d->F x d)->Paired F xs ds
 |[],[],_,_=> .nil
 |x::xs,d::ds,hl,h=> .cons (h 0 x d rfl rfl) (OY (by simpa using hl) λi y e h1 h2=>h (i+1) y e (by simpa using h1) (by simpa using h2))
 |[],_::_,hl,_=>by simp at hl
 |_::_,[],hl,_=>by simp at hl
theorem _root_.PySem.Paired.get1 {α β:Type}{F:α->β->Prop}{xs:List α}{ds:List β}{i:Nat}{x:α}(h:Paired F xs ds)(e:xs[i]? =some x):∃d,ds[i]? =some d/\F x d:=Hu h e
theorem _root_.PySem.Paired.get2 {α β:Type}{F:α->β->Prop}{xs:List α}{ds:List β}{i:Nat}{d:β}(h:Paired F xs ds)(e:ds[i]? =some d):∃x,xs[i]? =some x/\F x d:=Ht h e
theorem _root_.PySem.Paired.of {α β:Type}{F:α->β->Prop}{xs:List α}{ds:List β}(hl:xs.length=ds.length)(h:∀(i:Nat) x d,xs[i]? =some x->ds[i]? =some d->F x d):Paired F xs ds:=OY hl h
theorem _root_.PySem.Paired.app {α β:Type}{F:α->β->Prop}{xs xs':List α}{ds ds':List β}(h:Paired F xs ds)(h':Paired F xs' ds'):Paired F (xs++xs') (ds++ds'):=by
 induction h with
 |nil=>exact h'
 |cons r _ ih=>exact .cons r ih
theorem _root_.PySem.Paired.drop {α β:Type}{F:α->β->Prop}{xs:List α}{ds:List β}(h:Paired F xs ds)(n:Nat):Paired F (xs.drop n) (ds.drop n):=by
 rwa[.of (by simp [h.len]) λi x d h1 h2=> ?_];rw [List.getElem?_drop] at h1 h2;obtain ⟨e,h3,r⟩:=h.get1 h1;rw [h2] at h3;cases h3;exact r
theorem _root_.PySem.Paired.take {α β:Type}{F:α->β->Prop}{xs:List α}{ds:List β}(h:Paired F xs ds)(n:Nat):Paired F (xs.take n) (ds.take n):=by
 rwa[.of (by simp [h.len]) λi x d h1 h2=> ?_];rw [List.getElem?_take] at h1 h2;split at h1
 ·rename_i hn;rw [if_pos hn] at h2;obtain ⟨e,h3,r⟩:=h.get1 h1;rw [h2] at h3;cases h3;exact r
 ·cases h1
abbrev aO (K:Fg)(H:Hp):List V->List D->Prop:=Paired (cI K H)
theorem ez {a:Addr}{xs:List V}{ds:List D}(h:aK K H a xs)(p:aO K H xs ds):cI K H (.ref a) (.tup ds):=
 .tup h p.len λi x d h1 h2=>by obtain ⟨e,h3,r⟩:=p.get1 h1;rw [h2] at h3;cases h3;exact r
theorem xR {a:Addr}{xs:List V}{ds:List D}(h:aN K H a xs)(p:aO K H xs ds):cI K H (.ref a) (.lst ds):=
 .lst h p.len λi x d h1 h2=>by obtain ⟨e,h3,r⟩:=p.get1 h1;rw [h2] at h3;cases h3;exact r
theorem cI.outT {ds:List D}(h:cI K H x (.tup ds)):∃a xs,x= .ref a/\aK K H a xs/\aO K H xs ds:=by
 cases h with
 |tup h hl hi=>exact ⟨_,_,rfl,h,PySem.Paired.of hl hi⟩
theorem cI.isInt {i:Int}(h:cI K H x (.int i)):x= .int i:=by cases h;rfl
theorem cI.isStr {i:Str}(h:cI K H x (.str i)):x= .str i:=by cases h;rfl
theorem cI.same {d:D}(h:cI K H x d)(s:ar H H'):cI K H' x d:=by
 induction h with
 |non=>exact .non
 |bl b=>exact .bl b
 |int i=>exact .int i
 |str z=>exact .str z
 |lst h hl hi ih=>exact .lst (s.seq h) hl ih
 |tup h hl hi ih=>exact .tup (s.seqT h) hl ih
theorem aO.same {xs:List V}{ds:List D}(h:aO K H xs ds)(s:ar H H'):aO K H' xs ds:=Paired.imp' (λ_ _ z=>cI.same z s) h
mutual
def noL:D->Bool
 | .lst _=>false
 | .tup ds=>noLs ds
 |_=>true
def noLs:List D->Bool
 |[]=>true
 |d::ds=>noL d&&noLs ds
end
theorem gO:∀ {ds:List D} {i:Nat} {d:D},noLs ds=true->ds[i]? =some d->noL d=true
 |[],_,_,_,h=>by simp at h
 |e::ds,0,d,hn,h=>by
  rw [noLs,Bool.and_eq_true] at hn;simp at h;exact h▸hn.1
 |e::ds,i+1,d,hn,h=>by
  rw [noLs,Bool.and_eq_true] at hn;exact gO hn.2 (by simpa using h)
theorem aK.noL {a p:Addr}{xs zs:List V}{o:HO}(h:aK K H a xs)(hp:H p=some (.lst zs)):aK K (upd H p o) a xs:=by
 rcases h with (h|⟨u,h⟩)|h
 ·exact .inl (.inl (by rw [am (λz=>by rw [z,hp] at h;cases h)];exact h))
 ·exact .inl (.inr ⟨u,by rw [am (λz=>by rw [z,hp] at h;cases h)];exact h⟩)
 ·exact .inr h
theorem cI.noL {d:D}{p:Addr}{zs:List V}{o:HO}(h:cI K H x d)(hn:L2.noL d=true)(hp:H p=some (.lst zs)):cI K (L2.upd H p o) x d:=by
 induction h with
 |non=>exact .non
 |bl b=>exact .bl b
 |int i=>exact .int i
 |str z=>exact .str z
 |lst h hl hi ih=>rw [L2.noL] at hn;cases hn
 |tup h hl hi ih=>
  rw [L2.noL] at hn;exact .tup (h.noL hp) hl λi x d h1 h2=>ih i x d h1 h2 (gO hn h2)
theorem cj {xs zs:List V}{ds:List D}{p:Addr}{o:HO}(h:aO K H xs ds)(hn:noLs ds=true)(hp:H p=some (.lst zs)):aO K (upd H p o) xs ds:=
 PySem.Paired.of h.len λi x d h1 h2=>by
  obtain ⟨e,h3,r⟩:=h.get1 h1;rw [h2] at h3;cases h3;exact r.noL (gO hn h2) hp
theorem qj {p:Addr}{ys:List V}{Q:VK}(h:aN K H p ys\/aK K H p ys)(g:Q (.int ys.length) H):lJ K p H Q:=⟨ys,h,g⟩
theorem IO {p:Addr}{ys:List V}{Q:VK}{i:Int}{v:V}(h:aN K H p ys\/aK K H p ys)(e:ly ys i=some v)(g:Q v H):qR K p i H Q:=⟨ys,h,v,e,g⟩
theorem J6 {p:Addr}{ys:List V}{R:It->Hp->Prop}(h:aN K H p ys\/aK K H p ys)(g1:aN K H p ys->R (B0 K p) H)(g2:aK K H p ys->R (BZ K p) H):rT K p H R:=by
 rcases h with h|h
 ·exact .inl ⟨ys,h,g1 h⟩
 ·exact .inr ⟨ys,h,g2 h⟩
theorem JO {p:Addr}{ys:List V}{Q:VK}(h:aN K H p ys\/aK K H p ys)(g:∀l,H l=none->Q (.ref l) (upd H l (.lst ys))):xF K p H Q:=⟨ys,h,g⟩
end
section
variable {K:Fg}{H H':Hp}{x:V}{Q:VK}
theorem ar.get {b:Addr}{o:HO}(s:ar H H')(h:H b=some o):H' b=some o:=s b o h
def DZ (xs:List V)(H:Hp)(Q:VK):Prop:=xs.length<=sizeLine/\∀p,H p=none->Q (.ref p) (upd H p (.tup xs))
def Nb (xs:List V)(H:Hp)(Q:VK):Prop:=xs.length<=sizeLine/\∀p,H p=none->Q (.ref p) (upd H p (.lst xs))
def K1 (t:TA):TE:=λσ H Q=>t σ H λxs H1=>DZ xs H1 Q
def K8 (t:TA):TE:=λσ H Q=>t σ H λxs H1=>Nb xs H1 Q
theorem aP {X:Cx}{es:List Expr}{t:TA}{pos:Pos}{x1}(h:PA X es t):PE X (.Tuple es x1 pos) (K1 t):=Je h
theorem cZ {X:Cx}{es:List Expr}{t:TA}{pos:Pos}(h:PA X es t):PE X (.List es pos) (K8 t):=Jf h
theorem bK {xs:List V}(hz:xs.length<=sizeLine)(g:∀p H',ar H H'->H p=none->H' p=some (.tup xs)->Q (.ref p) H'):DZ xs H Q:=
 ⟨hz,λp n=>g p _ (.upd n) n aj⟩
theorem iI {xs:List V}(hz:xs.length<=sizeLine)(g:∀p H',ar H H'->H p=none->H' p=some (.lst xs)->Q (.ref p) H'):Nb xs H Q:=
 ⟨hz,λp n=>g p _ (.upd n) n aj⟩
theorem gH {p:Addr}{ys:List V}(h:aN K H p ys)(g:∀p H',ar H H'->H p=none->H' p=some (.tup ys)->Q (.ref p) H'):Cr K p H Q:=Lm h λp n=>g p _ (.upd n) n aj
theorem jf {p:Addr}{ys:List V}(h:aN K H p ys\/aK K H p ys)(g:∀p H',ar H H'->H p=none->H' p=some (.lst ys)->Q (.ref p) H'):xF K p H Q:=JO h λp n=>g p _ (.upd n) n aj
theorem mU {p:Addr}{xs:List V}{lo hi:Option Int}(h:aN K H p xs)(g:∀p H',ar H H'->H p=none->H' p=some (.lst (ff xs lo hi))->Q (.ref p) H'):pK K p lo hi H Q:=IM h λp n=>g p _ (.upd n) n aj
theorem hI {p:Addr}{xs:List V}{lo hi:Option Int}(h:aK K H p xs)(hw: ¬(HT.sIx xs.length 0 lo=0/\HT.sIx xs.length xs.length hi=xs.length))(g:∀p H',ar H H'->H p=none->H' p=some (.tup (ff xs lo hi))->Q (.ref p) H'):pK K p lo hi H Q:=IL h hw λp n=>g p _ (.upd n) n aj
theorem aO.via {xs:List V}{ds:List D}(s:ar H H')(h:aO K H xs ds):aO K H' xs ds:=aO.same h s
theorem bB {n:Nat}(h:n<=1000000):n<=sizeLine:=by rw [sizeLine_eq];omega
theorem aT {α:Type}{f:α->D}{xs:List V}{as:List α}(h:aO K H xs (as.map f)):xs.length=as.length:=by rw [h.len];simp
theorem b6 {α:Type}{f:α->D}{xs:List V}{as:List α}{i:Nat}{x:V}(h:aO K H xs (as.map f))(e:xs[i]? =some x):∃a,as[i]? =some a/\cI K H x (f a):=by
 obtain ⟨d,hd,dx⟩:=h.get1 e;rw [List.getElem?_map] at hd
 cases z:as[i]? with
 |none=>rw [z] at hd;cases hd
 |some l=>rw [z] at hd;exact ⟨l,rfl,Option.some.inj hd▸dx⟩
end
end L2
local macro_rules | `(tactic| walk_at "l3sq") => `(tactic| first
  | assumption
  | (show L2.aK _ _ _ _; first | exact L2.aK.of (by assumption) | exact L2.ar.seqT (by assumption) (by walk_at "l3sq"))
  | (show L2.aN _ _ _ _; first | exact L2.aN.of (by assumption) | exact L2.ar.seq (by assumption) (by walk_at "l3sq"))
  | (show L2.OQ _ _ _ _; exact L2.OQ.via (by assumption) (by walk_at "l3sq"))
  | (show L2.aO _ _ _ _; exact L2.aO.via (by assumption) (by walk_at "l3sq"))
  | (show L2.cI _ _ _ _; exact L2.cI.via (by assumption) (by walk_at "l3sq"))
  | (show _ = some _; exact L2.ar.get (by assumption) (by walk_at "l3sq")))
namespace L2
theorem OE {c:Prop}[Decidable c]{A B:Prop}(hc: ¬c)(h:A):rY (!decide c) A B:=OZ (λ_=>h) (λz=>absurd z hc)
theorem OF {c:Prop}[Decidable c]{A B:Prop}(hc:c)(h:B):rY (!decide c) A B:=OZ (λz=>absurd hc z) (λ_=>h)
end L2
local macro_rules | `(tactic| walk_at "l3gs") => `(tactic| ((conv => whnf); first
  | (show L2.qR _ _ _ _ _; first | refine L2.ai (by walk_at "l3sq") rfl ?_ | refine L2.bi (by walk_at "l3sq") rfl ?_)
  | (show L2.lJ _ _ _ _; first | refine L2.cY (by walk_at "l3sq") ?_ | refine L2.cr (by walk_at "l3sq") ?_)
  | (show L2.Cn _ _ _ _ _; refine L2.pH (by walk_at "l3sq") rfl ?_)
  | (show L2.spDraw _ _ _ _ _; refine L2.drawI (by walk_at "l3sq") (by omega) (by omega) (by omega) ?_)
  | (show L2.j5 _ _ _ _ _; first | refine L2.wa rfl (.tup (by walk_at "l3sq")) rfl ?_ | refine L2.wa rfl (.lst (by walk_at "l3sq")) rfl ?_)
  | (show L2.rY _ _ _; first | refine L2.j6 (by first | assumption | decide | omega) ?_ | refine L2.bz (by first | assumption | decide | omega) ?_ | refine L2.OE (by first | assumption | decide | omega) ?_ | refine L2.OF (by first | assumption | decide | omega) ?_ | refine L2.bj (by first | assumption | decide) ?_ | refine L2.aB (by first | assumption | decide) ?_)
  | (show L2.M5 _ _ _ _ ∧ _; refine ⟨.inl ⟨rfl, _, by walk_at "l3sq"⟩, ?_⟩)
  | (show L2.BV _ _ ∧ _; refine ⟨L2.Hz (by decide) (by decide), ?_⟩)
  | (show L2.wN _ _ ∧ _; refine ⟨L2.fJ (by first | decide | omega) (by first | decide | omega), ?_⟩)))
local macro_rules | `(tactic| walk_at "l3go") => `(tactic| ((repeat (walk_at "l3gs")); conv => whnf))
local macro_rules | `(tactic| walk_at "l3gc") => `(tactic| (walk_at "l3go"; refine L2.cutE (by walk_at "l3go"; exact ⟨rfl, rfl⟩) ?_))
local macro_rules | `(tactic| walk_at "l3gr") => `(tactic| first | refine L2.aB rfl ?_ | refine L2.bj rfl ?_)
namespace L2
open PySem PySem.Spec PyProof.Rows
section
variable {X:Cx}{K:Fg}{H:Hp}{Q:VK}
theorem EA {prog:Program}{w:World}{A:Around}{E:Value->Shared->Prop}{s:Shared}{t b:Addr}{ws:List Value}{Q:Value->Shared->Prop}(ht:IsTup s.heap t (#[]:Array Value))(hb:IsTup s.heap b ws.toArray)(h:Q (.ref b) s):wpAny ↑38 A (binaryOp .Add (.ref t) (.ref b)) Q E s:=by
 obtain ⟨⟨cls,dd,data,sl⟩,ho,hc,n,hd⟩:=id ht;obtain ⟨⟨cls2,dd2,data2,sl2⟩,ho2,hc2,n2,hd2⟩:=id hb;simp only at hc hd hc2 hd2;subst hc hd hc2 hd2;exact concat_meets ⟨_,ho,rfl⟩ ⟨_,ho2,rfl⟩ noFill_tuple_add seq_tuple_add PySem.F.slot_tuple_add PySem.F.entry_tuple_add (PySem.F.args_tuple_add_2 _ _) (tuple_addW0 t b #[] ws.toArray n n2 dd dd2 sl sl2 ↑27) ⟨ho,ho2,h⟩
def LH (K:Fg):R2:=λx y H Q=>∃a b ys,x= .ref a/\y= .ref b/\aK K H a []/\aK K H b ys/\Q (.ref b) H
theorem F0:d8 X (binaryOp .Add) (LH X.K):=by
 intro pins s σ H x y v u Q I rx ry h;obtain ⟨a,b,ys,rfl,rfl,ha,hb,q⟩:=h;cases rx;cases ry;obtain ⟨its,r1,p1,_⟩:=I.tuple ha;obtain ⟨its2,r2,p2,_⟩:=I.tuple hb;cases r1;exact EA p1 p2 ⟨.ref b,H,I,rfl,q⟩
def zG (K:Fg)(p q:Addr)(H:Hp)(Q:VK):Prop:=BI K p q H Q\/∃ys,aK K H p []/\aK K H q ys/\Q (.ref q) H
def Cl (K:Fg):R2:=λx y H Q=>match x,y with
 | .int i,.int j=>Q (.int (i+j)) H
 | .str a,.str b=>a.length+b.length<=sizeLine/\Q (.str (a++b)) H
 | .ref p,.ref q=>zG K p q H Q
 |_,_=>False
theorem aY (hK:X.K=K):d8 X (binaryOp .Add) (Cl K):=by
 subst hK;rwa[((Im rfl).or F0).imp λx y H Q h=> ?_]
 cases x with
 |int i=>cases y with
  |int j=>exact .inl h
  |_=>exact False.elim h
 |str a=>cases y with
  |str b=>exact .inl h
  |_=>exact False.elim h
 |ref p=>cases y with
  |ref q=>
   rcases h with h|⟨ys,h1,h2,h3⟩
   ·exact .inl h
   ·exact .inr ⟨p,q,ys,rfl,rfl,h1,h2,h3⟩
  |_=>exact False.elim h
 |_=>exact False.elim h
theorem An {p q:Addr}{xs ys:List V}(h1:H p=some (.lst xs))(h2:H q=some (.lst ys))(hz:xs.length+ys.length<=sizeLine)(g:∀l H',ar H H'->H l=none->H' l=some (.lst (xs++ys))->Q (.ref l) H'):zG K p q H Q:= .inl (ME h1 h2 hz λl n=>g l _ (.upd n) n aj)
theorem uM {p q:Addr}{xs ys:List V}(h1:aK K H p xs)(h2:H q=some (.tup ys))(hy:ys≠[])(hz:xs.length+ys.length<=sizeLine)(g:∀l H',ar H H'->H' l=some (.tup (xs++ys))->Q (.ref l) H'):zG K p q H Q:=by
 by_cases hx:xs=[]
 ·subst hx;exact .inr ⟨ys,h1,aK.of h2,g q H (.refl _) h2⟩
 ·exact .inl (MD h1 (aK.of h2) hx hy hz λl n=>g l _ (.upd n) aj)
theorem BF (x:V)(xs:List V):ff (x::xs) (some 1) none=xs:=by
 unfold ff
 have e:HT.sIx (x::xs).length 0 (some 1)=1:=by
  rw [show (some (1:Int))=some ((1:Nat):Int) from rfl,HT.sIx_nat,List.length_cons];omega
 rw [e,HT.sIx_none,List.length_cons];simp
theorem iy {pk:List (Option Nat)}{σ:St}{x y:V}:wL (eU (none::none::pk) σ) (((eU (none::none::pk) σ).set 0 (some x)).set 1 (some y)):=
 wL.cons (.inl rfl) (.cons (.inl rfl) (.refl _))
theorem mJ {pk:List (Option Nat)}{σ:St}{x y z u:V}:wL (eU (none::none::none::none::pk) σ) (((((eU (none::none::none::none::pk) σ).set 0 (some x)).set 1 (some y)).set 2 (some z)).set 3 (some u)):=
 wL.cons (.inl rfl) (.cons (.inl rfl) (.cons (.inl rfl) (.cons (.inl rfl) (.refl _))))
end
abbrev TJ:=Str->St->Hp->(Str->Hp->Prop)->Prop
section
variable {X:Cx}{es:List Expr}{t:TJ}{te:TE}{e:Expr}{pos:Pos}
def PJ (X:Cx)(es:List Expr)(t:TJ):Prop:=∀(pins:List ↑20) (s:Shared) (σ:St) (H:Hp) (acc:Str) (Q:Str->Hp->Prop),aL X pins σ H s->t acc σ H Q->
 Joins ↑9 X.A X.xe (evalEach es X.env) acc (λout s1=>∃H1,aL X pins σ H1 s1/\Q out H1) s
def OC:TJ:=λacc σ H Q=>Q acc H
theorem Jc:PJ X [] OC:=λpins s σ H acc Q I h=>⟨H,I,h⟩
def OA (c:Str)(t:TJ):TJ:=λacc σ H Q=>(acc++c).length<=sizeLine/\t (acc++c) σ H Q
theorem Ja {c:Str}{k:Nat}(h:PJ X es t):PJ X (.Constant (.str c) k pos::es) (OA c t):=λpins s σ H acc Q I ⟨hz,q⟩=>
 Joins_cons (Calls.Constant_str ⟨c,_,rfl,hz,h pins _ σ H _ Q (I.tok _) q⟩)
def OB (te:TE)(t:TJ):TJ:=λacc σ H Q=>te σ H λx H1=>match x with
 | .str y=>(reprText y).length<=sizeLine/\(acc++reprText y).length<=sizeLine/\t (acc++reprText y) σ H1 Q
 |_=>False
theorem Jb (he:PE X e te)(h:PJ X es t):PJ X (.FormattedValue e 114 none pos::es) (OB te t):=λpins s σ H acc Q I q=>by
 rwa[Joins_cons (wpAny_FormattedValue_repr (b4 (he pins s σ H _ I q) λv s1 ⟨x,H1,I1,r1,q1⟩=> ?_))]
 cases x with
 |str y=>
  obtain ⟨tk,rfl⟩:=r1;obtain ⟨z1,z2,q2⟩:=q1;rwa[wpAny_pyReprObj_str ?_ z1];exact wpAny_formatField_str ⟨_,_,rfl,z2,h pins _ σ H1 _ Q (I1.tok _) q2⟩ ⟨_,_,rfl,z2,h pins _ σ H1 _ Q ((I1.tok _).tok _) q2⟩ z1
 |_=>exact False.elim q1
def Lr (t:TJ):TE:=λσ H Q=>t Str.empty σ H λout H1=>out.length<=sizeLine/\Q (.str out) H1
theorem rR {M:Model}{A:Around}{E:Value->Shared->Prop}{Q Q':Str->Shared->Prop}(i:∀o s,Q o s->Q' o s):∀(ps:List (Sem Value)) (acc:Str) (s:Shared),Joins M A E ps acc Q s->Joins M A E ps acc Q' s
 |[],acc,s,h=>i acc s h
 |x::dG,acc,s,h=>b4 (show wpAny M A x _ E s from h) λv s1 ⟨y,t,e,z,r⟩=>⟨y,t,e,z,rR i dG (acc++y) s1 r⟩
theorem Ax {v1 v2:Expr}(h:PJ X (v1::v2::es) t):PE X (.JoinedStr (v1::v2::es) pos) (Lr t):=λpins s σ H Q I q=>
 wpAny_JoinedStr (rR (λo s1 ⟨H1,I1,z,q1⟩=>⟨z,.str o,H1,I1.tok _,⟨_,rfl⟩,q1⟩) _ _ _ (h pins s σ H Str.empty _ I q))
end
def M4 (x:Str):Prop:=∀c∈x.cps.toList,c<128
theorem Db:∀c,c<128->(Builtin.Str.reprChar 39 c).length<=4/\(Builtin.Str.reprChar 34 c).length<=4:=by decide+kernel
theorem IU (x:Str):reprQuote x=39\/reprQuote x=34:=by
 unfold reprQuote;split
 ·exact .inr rfl
 ·exact .inl rfl
theorem uq (q:Nat)(h:∀c,c<128->(Builtin.Str.reprChar q c).length<=4):∀(cs:List Nat) (n:Nat),(∀c∈cs,c<128)->cs.foldl (λn c=>n+(Builtin.Str.reprChar q c).length) n<=n+4*cs.length
 |[],n,_=>Nat.le_refl _
 |c::cs,n,hc=>by
  have h1:=h c (hc c (.head _));have h2:=uq q h cs (n+(Builtin.Str.reprChar q c).length) λd hd=>hc d (.tail _ hd);rw [List.foldl_cons,List.length_cons];omega
theorem Da {x:Str}(h:M4 x):(reprText x).length<=4*x.length+2:=by
 rw [<-reprLen_eq,<-Array.foldl_toList];have h2:=uq (reprQuote x) (λc hc=>by rcases IU x with e|e<;>rw [e];exact (Db c hc).1;exact (Db c hc).2) x.cps.toList 2 h
 have:x.cps.toList.length=x.length:=by simp [Str.length]
 omega
section
variable {X:Cx}{K:Fg}
theorem AL (bs:List Bool):((List.range bs.length).any λi=>(bs[i]?).getD true)=bs.any id:=by
 rw [Bool.eq_iff_iff,List.any_eq_true,List.any_eq_true];constructor
 ·rintro ⟨i,hi,e⟩;have hi:=List.mem_range.mp hi;rw [List.getElem?_eq_getElem hi] at e;exact ⟨_,List.getElem_mem hi,e⟩
 ·rintro ⟨b,hb,e⟩;obtain ⟨i,hi,rfl⟩:=List.mem_iff_getElem.mp hb;exact ⟨i,List.mem_range.mpr hi,by rw [List.getElem?_eq_getElem hi];exact e⟩
theorem BQ (hc:X.calm=true):b3 X (.builtin "any") (λxs H Q=>∃(a:Addr) (bs:List Bool),xs=[.ref a]/\aN X.K H a (List.map V.bl bs)/\Q (.bl (bs.any id)) H):=by
 intro pins s σ H xs us Q I r h;obtain ⟨a,bs,rfl,hq,q⟩:=h;obtain ⟨u,rfl,rx⟩:=pG r;cases rx;obtain ⟨its,rv,pl,hz⟩:=I.list hq;have hl:s.heap.IsList a its.toArray:=pl.isList;have hb:=xY rv
 have hlt:a<s.heap.objs.size:=by obtain ⟨_,e,_⟩:=hl;exact Heap.lt_size e
 rwa[call_any_walk (wpAny_pyIter_list hl ?_)]
 refine ⟨s.heap.objs.size,[s.heap.objs.size,a],[s.heap.objs.size],its.toArray.size,_,_,λi=>(bs[i]?).getD true,rfl,Walks.list (A:=X.A.in1) (I.ok.hd hc) _ a (Nat.ne_of_lt hlt) its.toArray,
  ⟨⟨_,Heap.get?_push_size _ rfl,rfl,rfl⟩,hl.push _⟩,λi v s' Q' E' hP hQ=> ?_,λh' tk hk=> ?_⟩
 ·obtain ⟨b,e,rfl⟩:=hb.get i v (by simpa using hP);simp only [e,Option.getD_some] at hQ;exact wpAny_truthy_bool hQ
 ·have e:((List.range its.toArray.size).any λi=>(bs[i]?).getD true)=bs.any id:=by
   rw [List.size_toArray,hb.length];exact AL bs
  rw [e];exact ⟨.bl _,H,I.kept (LSm.kept_iter hk),rfl,q⟩
def G3 (K:Fg)(a:Addr)(H:Hp)(Q:VK):Prop:=∃bs:List Bool,aN K H a (List.map V.bl bs)/\Q (.bl (bs.any _root_.id)) H
def Lh (K:Fg):List V->Hp->VK->Prop:=λxs H Q=>match xs with|[.ref a]=>G3 K a H Q|_=>False
theorem KW (hK:X.K=K)(hc:X.calm=true):b3 X (.builtin "any") (Lh K):=by
 subst hK;rwa[(BQ hc).imp λxs H Q h=> ?_];unfold Lh at h;split at h
 ·obtain ⟨bs,h1,h2⟩:=h;exact ⟨_,bs,rfl,h1,h2⟩
 ·exact h.elim
theorem MK {K:Fg}{p:Addr}{H:Hp}{Q:VK}{bs:List Bool}(h:aN K H p (List.map V.bl bs))(g:Q (.bl (bs.any id)) H):G3 K p H Q:=⟨bs,h,g⟩
end
def jz:Stmt->Nat->Stmt
 | .ClassDef _ _ _ body _ _ _ _ _ _ _,j=>body.getD j (.Pass ⟨0,0,0,0⟩)
 |s,_=>s
structure tY (K:Fg)(C:Addr):Prop where
 cl:ua K C
 ha:W.findIn K (.ref C) "__class__"=some (some (.builtin "object.__class__"))
 hn:W.specialIn K (.builtin "object.__class__") "__get__"=some (some (.builtin "getset_descriptor.__get__"))
 htk:W.takesIn K (.builtin "object.__class__")=some true
 hm:W.mroIn K C (.type "object")=some true
structure Mk0 (K:Fg)(C:Addr):Prop where
 makes:W.makesIn K C=true
 init:W.findIn K (.ref C) "__init__"=some (some (.builtin "object.__init__"))
 kp:W.keepIn K (.ref C)=true
theorem iE {H:Hp}{a dx:Addr}{o:HO}(h1:H a=none)(h2:H dx=none):ar H (upd (upd H dx (.own a)) a o):=λb u z=>by
 rw [am (λe=>by rw [e,h1] at z;cases z),am (λe=>by rw [e,h2] at z;cases z)];exact z
section
variable {X:Cx}{x:Str}{p pos:Pos}{e:Expr}{es:List Expr}{t:TA}{ps:List Str}{sp:Sp}{n m:Nat}{E:XK}{C:Addr}
def Pi:XK:=λ_ _ _=>False
theorem vU:ju (nK X.prog X.w) X Pi:=λpins σ H s e s' I h=>by
 obtain ⟨a,T,cls,dd,H',_,_,_,_,_,_,_,_,_,_,q⟩:=h;exact q.elim
end
open PySem.W
def jA (K:Frag)(C:Addr)(bmB:List Value)(newId:String):Bool:=match K.lookup C with
 |some ⟨.type "type",_,.cls cd,sl⟩=>(match cd.mro,sl.toList with
  | .ref C'::bm,[_,_,_,_,some (.builtin n),_]=>C'==C&&n==newId&& !cd.hasDel&&tailIn K bmB bm&&nsOkIn K cd.ns&&cd.hasDict
  |_,_=>false)
 |_=>false
theorem iM {K:Frag}{h:Heap}{C:Addr}{bmB:List Value}{newId:String}(X:K.In h)(q:jA K C bmB newId=true):
 ∃bm N nm q bs sn sub ab col dd k0 k1 k2 k3 k5 mN cd,h.get? C=some (excClassObj nm q C N bs bm true sn sub ab col dd k0 k1 k2 k3 k5 newId)/\h.Ns N mN/\OwnTail h bmB bm/\(∀v b,mroIn K C v=some b->(Value.ref C::bm).contains v=b)/\
  clsIn K C=some cd/\cd.mro= .ref C::bm/\cd.hasDict=true:=by
 unfold jA at q;split at q
 case h_2=>cases q
 case h_1 dd cd sl ho=>
  split at q
  case h_2=>cases q
  case h_1 C' bm k0 k1 k2 k3 n k5 hm hs=>
   simp only [Bool.and_eq_true,beq_iff_eq,Bool.not_eq_true'] at q;obtain ⟨⟨⟨⟨⟨e1,e2⟩,hdel⟩,ht⟩,hok⟩,hdi⟩:=q;subst e1 e2;obtain ⟨nm,bs,mro,ns,qn,hd,sn,sub,ab,col,del⟩:=cd;dsimp only at hm hdel hok hdi;subst hm hdel hdi;obtain ⟨l⟩:=sl;simp only at hs;subst hs;obtain ⟨cd',hcl,hmr,hhd⟩:∃cd',clsIn K C'=some cd'/\cd'.mro= .ref C'::bm/\cd'.hasDict=true:=⟨{name:=nm,bases:=bs,mro:= .ref C'::bm,ns:=ns,qualname:=qn,slotNames:=sn,subclasses:=sub,abstract:=ab,collection:=col},by unfold clsIn;rw [ho],rfl,rfl⟩;rwa[⟨bm,ns,nm,qn,bs,sn,sub,ab,col,dd,k0,k1,k2,k3,k5,_,cd',X _ _ ho,.of_isNs (isNs_of_in X hok),tail_of_in X ht,λv b e=> ?_,hcl,hmr,hhd⟩];unfold mroIn clsIn at e;rw [ho] at e;simpa using e
abbrev x6:List Value:=[.type "ValueError",.type "Exception",.type "BaseException",.type "object"]
section
variable {prog:Program}{w:World}{A:Around}{E:Value->Shared->Prop}{K:Frag}{C f:Addr}
theorem qC {h:Heap}{g:Array GenState}{d:Drawn}{t:Nat}{os:OsState}{dG:List Value}{Q:Fin->Shared->Prop}(X:K.In h)(q:jA K C x6 "ValueError.__new__"=true)(hi:findIn K (.ref C) "__init__"=some (some (.ref f)))(hf:isFn K (.ref f)=true)
(hq:∀h' e,Heap.MadeExcOf h h' e (.ref C) dG->
   wpAny ↑38 A (call (.ref f) (.ref e::dG)) (λr s'=>r= .none/\Q (.done (.ret (.ref e))) s') E ⟨h',g,d,t,os⟩)(hrest:dG.length<=sizeLine):
 wpAny ↑38 A (Builtin.«type.__call__» ⟨.ref C::dG,[]⟩) Q E ⟨h,g,d,t,os⟩:=by
 obtain ⟨bm,N,nm,q',bs,sn,sub,ab,col,dd,k0,k1,k2,k3,k5,mN,cd,hC,hn,T,_,_⟩:=iM X q;have F:=PySem.F.excBase_ValueError
 have hBn:x6.contains (.type "ValueError")=true:=by decide+kernel
 repeat (first|with_reducible refine wpAny_loadPart_at hC ?_|with_reducible refine wpAny_madeBy_exc hC ?_|wp_step)
 rwa[codeAny_call_builtin_code (Code.quiet_builtin _ F.quiet) (wpAny_check_new_subU F hBn T hC ?_)];rwa[codeAny_exc_new_subU F hBn F T hC ?_ hrest];show wpAny _ _ _ _ _ _
 have kk:∀b o,h.get? b=some o->((h.push {cls:= .type "tuple",data:= .seq dG.toArray}).push {cls:= .ref C,data:= .fields #[.ref h.objs.size,.none,.none,.none,.bool false,.none]}).get? b=some o:=
  λb o e=>Heap.get?_push_of_some _ (Heap.get?_push_of_some _ e)
 have hC₁:=kk _ _ hC;have X₁:=X.keeps kk
 have hget:((h.push {cls:= .type "tuple",data:= .seq dG.toArray}).push
  {cls:= .ref C,data:= .fields #[.ref h.objs.size,.none,.none,.none,.bool false,.none]}).get? (h.objs.size+1)=some
  {cls:= .ref C,data:= .fields #[.ref h.objs.size,.none,.none,.none,.bool false,.none]}:=by heap_get
 have hcC:(Value.ref C::bm).contains (.ref C)=true:=by simp
 unfold isInstance
 repeat (first|with_reducible refine wpAny_loadPart_at hget ?_|(with_reducible refine wpAny_isSubtype_exc hC₁ ?_;rw [hcC])|wp_step)
 show wpAny _ _ (typeLookup (.ref C) _) _ _ _;rwa[(looks_findIn X₁ hi).here ?_];rwa[wpAny_holding (wpAny_bind ?_)];rwa[(bind_fn X₁ _ (beq_iff_eq.mp hf)).here ?_];rwa[wpAny_bind (wpAny_mono (hq _ (h.objs.size+1) ⟨kk,Heap.get?_none_of_le (Nat.le_succ _),h.objs.size,hget,Heap.get?_none_of_le ↑15,?_⟩) (λr s' hr=> ?_) λ_ _ x=>x)]
 ·exact Heap.get?_push_of_some _ (Heap.get?_push_at rfl rfl)
 ·obtain ⟨rfl,hQ⟩:=hr
  wp_walk
  exact hQ
theorem BP {s:Shared}{dG:List Value}{Q:Value->Shared->Prop}(X:K.In s.heap)(q:jA K C x6 "ValueError.__new__"=true)(hi:findIn K (.ref C) "__init__"=some (some (.ref f)))(hf:isFn K (.ref f)=true)
(hq:∀h' e,Heap.MadeExcOf s.heap h' e (.ref C) dG->
   wpAny ↑38 (A.under (.builtin "type.__call__" ⟨.ref C::dG,[]⟩)) (call (.ref f) (.ref e::dG)) (λr s'=>r= .none/\Q (.ref e) s') E {s with heap:=h'})(hrest:dG.length<=sizeLine):
 wpAny ↑38 A (call (.ref C) dG) Q E s:=by
 obtain ⟨h,g,d,t,os⟩:=s;obtain ⟨bm,N,nm,q',bs,sn,sub,ab,col,dd,k0,k1,k2,k3,k5,mN,cd,hC,hn,T,_,_⟩:=iM X q;have f1:=tc_lookup;have f2:=tc_bind (.ref C);have hT:(⟨h,g,d,t,os⟩:Shared).TypeIs (.ref C) "type":=⟨_,hC,rfl⟩;rwa[wpAny_call (codeAny_of_tree ?_)];show wpAny _ _ (callAny (.ref C) _) _ _ _
 repeat (any_goals (first|assumption|with_reducible refine wpAny_loadPart_at hC ?_|wp_step))
 rwa[⟨rfl,?_⟩];rwa[codeAny_call_builtin_at (Code.quiet_builtin _ ↑26) entry_typeCall (wpAny_check_type_call_sub hC (qC X q hi hf (λh' e hm=> ?_) hrest))];exact hq h' e hm
end
def gP (a:Addr)(cls:Value)(dd:Option Addr):HO:= .ext λh=>∃oe vs,h.get? a=some oe/\oe.cls=cls/\oe.dict=dd/\oe.data= .fields vs/\vs[1]? =some .none/\vs[2]? =some .none
theorem wu {P:Program}{w:World}{H:Hp}{h:Heap}{a:Addr}{cls:Value}{dd:Option Addr}{oe:Obj}{vs:Array Value}(h1:h.get? a=some oe)(h2:oe.cls=cls)(h3:oe.dict=dd)(h4:oe.data= .fields vs)(h5:vs[1]? =some .none)(h6:vs[2]? =some .none):bS P w H h a (gP a cls dd):=
 ⟨⟨oe,vs,h1,h2,h3,h4,h5,h6⟩,⟨_,h1⟩,λg1 g2 ⟨oe,vs,k1,k2⟩ st=>⟨oe,vs,st _ k1,k2⟩⟩
structure ye (K:Frag)(B:Addr):Prop where
 rd:readsIn K B (.type "type")=true
 at_:findCls K (.ref B) (.type "type") "__init__"=some (.val (.builtin "ValueError.__init__"))
 ga:specialIn K (.ref B) "__getattribute__"=some (some (.builtin "type.__getattribute__"))
theorem wY {H:Hp}{a:Addr}{o:HO}(e:H a=some o):upd H a o=H:=by
 funext b
 by_cases z:b=a
 ·rw [z,aj,e]
 ·rw [am z]
def rX (K:Frag)(vs:List V)(H:Hp)(R:Hp->Prop):Prop:=∃a v C,vs=[.ref a,v]/\H a=some (gP a (.ref C) none)/\jA K C x6 "ValueError.__new__"=true/\R H
def IF (K:Frag)(t:TA):TE:=λσ H Q=>t σ H λvs H1=>rX K vs H1 λH2=>Q .non H2
section
variable {X:Cx}{B:Addr}{x:Str}{np apos pos:Pos}{e1 e2:Expr}{t:TA}
theorem BU {A:Around}{pins:List ↑20}{σ:St}{H:Hp}{s:Shared}{Q:Value->Shared->Prop}{E:Value->Shared->Prop}{a C:Addr}{us:List Value}(I:aL X pins σ H s)(ea:H a=some (gP a (.ref C) none))(q:jA X.K C x6 "ValueError.__new__"=true)(hz:us.length<=1000)
(h:∀s',aL X pins σ H s'->Q .none s'):wpAny ↑9 A (call (.builtin "ValueError.__init__") (.ref a::us)) Q E s:=by
 have F:=PySem.F.excBase_ValueError;obtain ⟨bm,N,nm,q',bs,sn,sub,ab,col,dd,k0,k1,k2,k3,k5,mN,cd,hC,hn,T,_,_⟩:=iM I.kIn q;obtain ⟨⟨oe,vs,g1,g2,g3,g4,g5,g6⟩,_⟩:=I.hok a _ ea;obtain ⟨hh,g,d,tk,os⟩:=s;rwa[wpAny_call (codeAny_call_builtin F.init.plain F.initEntry (wpAny_check_init_subU F T hC g1 g2 ?_))]
 wp_walk
 rw [if_neg (show ¬(us.toArray.size>sizeLine) by rw [sizeLine_eq];simp;omega)]
 wp_walk
 rw [g4];rwa[wpAny_pure ?_];have sz:1<vs.size:=(Array.getElem?_eq_some_iff.mp g5).1
 have sz0:0<vs.size:=by omega
 rw [Array.getElem?_eq_getElem sz0];rwa[wpAny_pure (wpAny_bind ?_)];have e1:(hh.push {cls:=Value.type "tuple",data:=Data.seq us.toArray}).get? a=some oe:=Heap.get?_push_of_some _ g1;rwa[wpAny_setField e1 g4 sz0 ?_]
 have fin:∀(s':Shared),aL X pins σ H s'->wpAny ↑9 A.in1 (ret Value.none) (λfin s'=>match fin with
  |Fin.done f=>(match (Except.ok f:Result) with|Except.ok (Flow.ret v)=>Q v s'|Except.ok a=>False|Except.error e=>E e s')
  |Fin.again c'=>c'.quiet=true/\codeAny ↑9 A c' (λr s'=>match r with|Except.ok (Flow.ret v)=>Q v s'|Except.ok a=>False|Except.error e=>E e s') s')
  (λe s'=>match (Except.error e:Result) with|Except.ok (Flow.ret v)=>Q v s'|Except.ok a=>False|Except.error e=>E e s') s':=λs' J=>wpAny_pure (h s' J)
 have J:aL X pins σ H {heap:=(hh.push {cls:=Value.type "tuple",data:=Data.seq us.toArray}).update a (Obj.mapFields (·.setIfInBounds 0 (Value.ref hh.objs.size))),gens:=g,drawn:=d,toks:=tk,os:=os}:=by
  have hd₃:=Obj.data_mapFields g4 (·.setIfInBounds 0 (Value.ref hh.objs.size));have he₃:=Heap.get?_update_self (Obj.mapFields (·.setIfInBounds 0 (Value.ref hh.objs.size))) e1 (Obj.isFreed_of_fields hd₃)
  have J:=I.write (x:=a) (e:=a) (o:=gP a (.ref C) none) (h':=(hh.push {cls:=Value.type "tuple",data:=Data.seq us.toArray}).update a (Obj.mapFields (·.setIfInBounds 0 (Value.ref hh.objs.size)))) (t':=tk) (by rw [ea];exact True.intro) (.inl rfl)
   (λb u hb z=>by rw [Heap.get?_update_other _ _ (Ne.symm hb)];exact Heap.get?_push_of_some _ z) ⟨_,he₃⟩
   (wu he₃ ((Obj.cls_mapFields _ _).trans g2) (by rw [z9 g4];exact g3) hd₃ (by rw [Array.getElem?_setIfInBounds_ne ↑1];exact g5) (by rw [Array.getElem?_setIfInBounds_ne ↑1];exact g6))
  rw [wY ea] at J;exact J
 split
 ·exact wpAny_letGo (fin _ J)
 ·exact wpAny_pure (fin _ J)
end
section
variable {X:Cx}{B:Addr}{x:Str}{np apos pos:Pos}{e1:Expr}{es:List Expr}{t:TA}
theorem rD {K:Frag}(hK:X.K=K)(M:ye K B)(hg:Gl X x)(hm:X.mg x=some (.ref B))(ha:PA X (e1::es) t)(hdb:↑36=false:=by decide)(hp:bd (e1::es)=true:=by rfl)(hl:(e1::es).length<29:=by decide)(hline:(apos.endLine==pos.line)=true:=by rfl):
 PE X (.Call (.Attribute (.Name x np) "__init__" apos) (e1::es) [] pos) (IF K t):=by
 subst hK;have h':(b5 e1&&bd es)=true:=hp;rw [Bool.and_eq_true] at h';intro pins s σ H Q I h;rwa[oF rfl hp hl hline (jg I hg hm ?_ hdb)];rwa[method_cls I.kIn M.ga (cls_value I.kIn M.rd M.at_ rfl ?_)];have I1:=I.tok (s.toks+1);have he:=bq (env:=X.env) (es:=es) h'.1;have hpl:(backTo pos (starEach es X.env)).any (·.1)=false:=bT h'.2;have hA:=ha pos pins _ σ H _ I1 h;rw [he] at hA ⊢;rwa[Calls.callWith_builtin (by show (false||(backTo pos (starEach es X.env)).any (·.1))=false;rw [hpl];rfl) (Calls.evalArgs_plain (b4 hA λus s2 ⟨vs,H2,I2,r,q2⟩=> ?_))];obtain ⟨a,v,C,rfl,ea,j,q⟩:=q2
 cases r with|cons r1 r2=>cases r2 with|cons r2 r3=>
 cases r3;obtain rfl:_=Value.ref a:=r1;exact BU I2 ea j ↑27 λs' J=>⟨.non,H2,J,rfl,q⟩
end
theorem OwnTail.refuse {h:Heap}{bmB bm:List Value}(T:OwnTail h bmB bm)(self:Value)(what:Str):refuseLoop self what bm=refuseLoop self what bmB:=by
 induction T with
 |base=>rfl
 |own _ _ _ _ ih=>rw [refuseLoop_ref];exact ih
def qy (K:Frag)(f:Str)(a:Addr)(y:V)(H:Hp)(R:Hp->Prop):Prop:=∃C,H a=some (gP a (.ref C) none)/\jA K C x6 "ValueError.__new__"=true/\findIn K (.ref C) "__setattr__"=some ↑39/\findIn K (.ref C) f=some none/\mroIn K C (.type "object")=some true/\
 ∀d,H d=none->d≠a->R (upd (upd H a (gP a (.ref C) (some d))) d (.xd [(f,y)]))
def Ln (K:Frag)(f:Str)(to tv:TE):TS:=λD σ H=>tv σ H λy H1=>to σ H1 λx H2=>match x with| .ref a=>qy K f a y H2 λH3=>D.nx σ H3|_=>False
section
variable {X:Cx}{o value:Expr}{to tv:TE}{f:Str}{pos pos':Pos}
theorem Np {A:Around}{pins:List ↑20}{σ:St}{H:Hp}{s:Shared}{Q:Unit->Shared->Prop}{E:Value->Shared->Prop}{a C:Addr}{y:V}{u:Value}(I:aL X pins σ H s)(ea:H a=some (gP a (.ref C) none))(q:jA X.K C x6 "ValueError.__new__"=true)
(hs:findIn X.K (.ref C) "__setattr__"=some ↑39)(hn:findIn X.K (.ref C) f=some none)(hO:mroIn X.K C (.type "object")=some true)(ry:bp y u)
(h:∀d s',H d=none->d≠a->aL X pins σ (upd (upd H a (gP a (.ref C) (some d))) d (.xd [(f,y)])) s'->Q () s'):wpAny ↑9 A (setAttr (.ref a) f u) Q E s:=by
 obtain ⟨bm,N,nm,q',bs,sn,sub,ab,col,dd,k0,k1,k2,k3,k5,mN,cd,hC,hN,T,_,hcl,hmr,hhd⟩:=iM I.kIn q;obtain ⟨⟨oe,vs,g1,g2,g3,g4,g5,g6⟩,_⟩:=I.hok a _ ea;have IA:InstAt s.heap a oe C none:=⟨g1,g2,by unfold notCls;rw [g4],by rw [g3];trivial⟩;rwa[set_plain I.kIn IA hs ?_];have SF:=PySem.F.store_object;have Xk:=I.kIn;have sub:Looks ↑9 s.heap (isInstance (.ref a) (.type "object")) true:=IA.type.andThen (looks_mroIn Xk hO);have hm:Looks ↑9 s.heap (mroOf (.ref C)) cd.mro:=(looks_clsIn Xk hcl).andThen .now;rwa[codeAny_call_builtin SF.slot.plain SF.entry (@check_slot ↑9 _ _ {s with toks:=s.toks+1} "object.__setattr__" "object" "__setattr__" (.ref a) [.str f s.toks,u] [] _ SF.kind SF.split sub (SF.args (.ref a) (.str f s.toks) u) ?_)];rw [osa_eq,refuse_eq];rwa[wpAny_bind (wpAny_bind (Looks.here (s:= {s with toks:=s.toks+1}) IA.type (wpAny_bind (Looks.here (s:= {s with toks:=s.toks+1}) hm ?_))))];rw [hmr,refuseLoop_ref,OwnTail.refuse T,PySem.F.store_ValueError.passes];rwa[wpAny_pure (wpAny_bind (Looks.here (s:= {s with toks:=s.toks+1}) IA.type (wpAny_bind (Looks.here (s:= {s with toks:=s.toks+1}) (looks_findIn Xk hn) (wpAny_bind (wpAny_pure ?_))))))];rwa[wpAny_bind (wpAny_pure (wpAny_bind (wpAny_bind (wpAny_loadPart (s:= {s with toks:=s.toks+1}) g1 ?_))))];rw [g2];rwa[wpAny_bind (Looks.here (s:= {s with toks:=s.toks+1}) (looks_clsIn Xk hcl) ?_)];rw [hhd,if_neg ↑1];dsimp only;rw [g3];dsimp only;rw [if_neg (by simp [typeHasDict]),g4];dsimp only;obtain ⟨hh,gg,dw,tk,os⟩:=s;dsimp only at g1 ⊢;have hx₁:(hh.push {cls:= .type "dict",data:= .dict #[]}).get? a=some oe:=Heap.get?_push_of_some _ g1;have hxs:a≠hh.objs.size:=Nat.ne_of_lt (Heap.lt_size g1);rwa[wpAny_bind (wpAny_alloc' (wpAny_bind (wpAny_update' hx₁ ?_)))];rwa[wpAny_pure ?_]
 have hgd:((hh.push {cls:= .type "dict",data:= .dict #[]}).update a λo=> {cls:=o.cls,dict:=some hh.objs.size,data:=o.data,slots:=o.slots}).get? hh.objs.size
  =some {cls:= .type "dict",data:= .dict #[]}:=(Heap.get?_update_ne _ _ _ _ hxs.symm).trans (Heap.get?_push_at rfl rfl)
 have hnd:((hh.push {cls:= .type "dict",data:= .dict #[]}).update a λo=> {cls:=o.cls,dict:=some hh.objs.size,data:=o.data,slots:=o.slots}).Ns hh.objs.size (λ_=>none):=
  ⟨_,#[],_,hgd,rfl,λe he=>absurd he ↑27,λ_=>rfl⟩
 show wpAny _ _ (Builtin.ObjectAttr.storeInDict hh.objs.size (.str f tk) f u) _ _ _;unfold Builtin.ObjectAttr.storeInDict Builtin.ObjectAttr.newKeyGuard;rwa[wpAny_bind (wpAny_pure (wpAny_bind (wpAny_nsSet1 (Heap.Ns1.of_empty hnd) λh' hn' hs=> ?_)))];obtain ⟨oD,esD,epD,hoD,hdD,hcD⟩:=hn'.count (Within.cons f u Within.nil);rwa[wpAny_bind (wpAny_lookBehind hoD (by rw [hdD];exact pastItsLine_dict (Nat.le_trans hcD (by rw [List.length_cons,List.length_nil,sizeLine_eq];omega))) ?_)];rwa[wpAny_pure (h hh.objs.size _ I.fresh hxs.symm ?_)]
 have ha':h'.get? a=some {cls:=oe.cls,dict:=some hh.objs.size,data:=oe.data,slots:=oe.slots}:=by
  rwa[(hs.2 a hxs).trans (Heap.get?_update_self _ hx₁ ?_)];show Obj.isFreed {cls:=oe.cls,dict:=some hh.objs.size,data:=oe.data,slots:=oe.slots}=false;exact Obj.isFreed_of_fields (vs:=vs) g4
 have J:=I.write (x:=a) (e:=a) (o:=gP a (.ref C) (some hh.objs.size)) (h':=h') (t':=tk+2) (by rw [ea];exact True.intro) (.inl rfl)
  (λb z hb e=>(hs.2 b (Nat.ne_of_lt (Heap.lt_size e))).trans ((Heap.get?_update_ne _ _ _ _ hb).trans (Heap.get?_push_of_some _ e))) ⟨_,ha'⟩ (wu ha' g2 rfl g4 g5 g6)
 rwa[J.track (I.nw (Heap.get?_none_of_le ↑15) (by rw [am hxs.symm];exact I.fresh)) ⟨_,hn',λg=> ?_⟩];show jD (List.lookup g [(f,y)]) (if g=f then some u else none);by_cases z:g=f
 ·subst z;rw [if_pos rfl,List.lookup_cons_self];exact ry
 ·rw [if_neg z,List.lookup_cons,beq_false_of_ne z];trivial
theorem vP {K:Frag}(hK:X.K=K)(ho:PE X o to)(hv:PE X value tv)(hs:swapsWith value (some (.Attribute o f pos')) pos.line X.env=pure false:=by rfl):PS X (.Assign [.Attribute o f pos'] value pos) (Ln K f to tv):=by
 subst hK;intro pins s σ H D I h;rwa[plainObj_wpAny_Assign_Attribute (b4 (hv pins s σ H _ I h) λu s1 ⟨y,H1,I1,ry,q⟩=>b4 (ho pins s1 σ H1 _ I1 q) λov s2 ⟨x,H2,I2,rx,q2⟩=> ?_) hs]
 match x,q2 with
 | .ref a,⟨C,ea,j,sa,na,mO,q⟩=>
   obtain rfl:ov=Value.ref a:=rx;exact Np I2 ea j sa na mO ry λd s3 nd dne I3=>⟨σ,_,I3,q d nd dne⟩
end
theorem aL.untrack {X:Cx}{pins:List ↑20}{σ:St}{H:Hp}{s:Shared}{a:Addr}{φ:Heap->Prop}(I:aL X pins σ H s)(e:H a=some (.ext φ)):aL X pins σ (λb=>if b=a then none else H b) s:=by
 have ne:∀b u,H b=some u->(∀φ,u≠ .ext φ)->(λb=>if b=a then none else H b) b=some u:=λb u z n=>by
  show (if b=a then none else H b)=some u;rw [if_neg];exact z;rintro rfl;rw [e] at z;cases z;exact n _ rfl
 have dn:∀b,H b=none->(λb=>if b=a then none else H b) b=none:=λb z=>by
  show (if b=a then none else H b)=none;split
  ·rfl
  ·exact z
 rwa[⟨I.ok,I.os,I.bare,⟨I.base.keep,I.base.slot,λb u e n hx=>dn _ (I.base.free b u e n hx),I.base.there,λb xs e=>ne _ _ (I.base.tups b xs e) (by intro φ z;cases z),λb u v e=>ne _ _ (I.base.frzs b u v e) (by intro φ z;cases z),λb ps e=> ?_⟩,I.loc,I.cell,dn _ I.free,λx c e=>dn _ (I.freeC x c e),λp hp=> ?_,λb u z=> ?_,I.len⟩]
 ·obtain ⟨m,q⟩:=I.base.tbls b ps e;exact ⟨m,ne _ _ q (by intro φ z;cases z)⟩
 ·obtain ⟨e,n,r⟩:=I.pin p hp;exact ⟨e,dn _ n,r⟩
 ·have hb:b≠a:=λy=>by
   subst y;have z':(if b=b then none else H b)=some u:=z;rw [if_pos rfl] at z';cases z'
  have z':(if b=a then none else H b)=some u:=z;rw [if_neg hb] at z';rwa[(I.hok b u z').stay (λ_ _ _ q=>q) (λc q=>ne _ _ q (by intro φ y;cases y)) λc xs q=>ne _ _ q (by intro φ y;cases y)]
inductive yq (C:Addr)(fld:Str)(vs:List V)(H:Hp)(Q:VK)(_e:XK):Prop
 |mk (a v:_) (_:vs=[.ref a,v]) (_:H a=some (gP a (.ref C) none)) (_:∀d,H d=none->d≠a->Q .non (upd (upd H a (gP a (.ref C) (some d))) d (.xd [(fld,v)])))
structure XI (K:Frag)(C f:Addr):Prop where
 j:jA K C x6 "ValueError.__new__"=true
 init:findIn K (.ref C) "__init__"=some (some (.ref f))
 fn:isFn K (.ref f)=true
 kp:keepIn K (.ref C)=true
structure Kz (P:Program)(w:World)(K:Frag)(mg:Str->Option Value)(base:Heap)(n:Nat)(x:Str)(C:Addr)(fld:Str):Prop where
 ex:∃f fd ps,XI K C f/\aQ P w K mg base b8 n f fd ps (yq C fld)/\gd K fd ps []/\mg x=some (.ref C)
def Fn (C:Addr)(fld:Str)(E:XK)(t:TA):TS:=λ_ σ H=>t σ H λvs H1=>∃v,vs=[v]/\∀d,H1 d=none->E (.ref C) (some d) (upd H1 d (.xd [(fld,v)]))
section
variable {M:Model}{A:Around}{E:Value->Shared->Prop}{env:Env}{nm q:Str}{C N:Addr}{bs bm:List Value}{hdct:Bool}{sn:List Str}{sub:List Value}{ab:Bool}{col:Option Bool}{dd:Option Addr}{k0 k1 k2 k3 k5:Option Value}{newId:String}
theorem jP {s:Shared}{x:Sem Value}{Q:Flow->Shared->Prop}(hbase:(Value.ref C::bm).contains (.type "BaseException")=true)(hh:A.handled=none)
(h:wpAny M A x (λv s₁=>∃e oe vs,v= .ref e/\s₁.heap.get? C=some (excClassObj nm q C N bs bm hdct sn sub ab col dd k0 k1 k2 k3 k5 newId)/\s₁.heap.get? e=some oe/\oe.cls= .ref C/\oe.data= .fields vs/\vs[1]? =some .none/\E (.ref e) s₁) E s):
 wpAny M A (raiseStmt env (some x) none) Q E s:=by
 unfold raiseStmt;rwa[wpAny_bind (wpAny_mono h (λv s₁ h₁=> ?_) λ_ _ x=>x)];obtain ⟨e,⟨oc,od,odt,osl⟩,vs,rfl,hC,he,hcl,hdt,h1,hE⟩:=h₁;dsimp only at hcl hdt;subst hcl hdt;obtain ⟨hp,g,d,tk,os⟩:=s₁
 repeat (first|with_reducible refine wpAny_loadPart_at he ?_|with_reducible refine wpAny_loadPart_at hC ?_|(with_reducible refine wpAny_isSubtype_exc hC ?_;rw [hbase])|wp_step)
 rw [h1];rwa[wpAny_pure ?_];rw [if_neg ↑1];exact wpAny_pure (wpAny_raiseNew_none hh hE)
end
section
variable {X:Cx}{C:Addr}{x fld:Str}{np cpos pos:Pos}{e:Expr}{es:List Expr}{t:TA}{E:XK}{n k:Nat}
theorem oz (fl:Fl X E)(hc:X.calm=true)(c:Kz X.prog X.w X.K X.mg X.base n x C fld)(hr:dH k X.A)(hn:n+1<=k)(hg:Gl X x)(ha:PA X (e::es) t)
(hp:bd (e::es)=true:=by rfl)(hdb:↑36=false:=by decide):PS X (.Raise (some (.Call (.Name x np) (e::es) [] cpos)) none pos) (Fn C fld E t):=by
 intro pins s σ H D I h;have h':(b5 e&&bd es)=true:=hp;rw [Bool.and_eq_true] at h';obtain ⟨f,fd,ps,M,F,b,hm⟩:=c.ex;obtain ⟨bm,N,nm,q,bs,sn,sub,ab,col,dd,k0,k1,k2,k3,k5,mN,cd,hC,hN,T,_⟩:=iM I.ok.mod.kin M.j
 have hbase:(Value.ref C::bm).contains (.type "BaseException")=true:=by rw [List.contains_cons,T.hasType (b:=true) ↑26,Bool.or_true]
 rw [arm_exec_Raise]
 have go:wpAny ↑9 X.A (eval (.Call (.Name x np) (e::es) [] cpos) X.env) (λv s₁=>∃e oe vs,v= .ref e/\s₁.heap.get? C=some (excClassObj nm q C N bs bm true sn sub ab col dd k0 k1 k2 k3 k5 "ValueError.__new__")/\s₁.heap.get? e=some oe/\oe.cls= .ref C/\oe.data= .fields vs/\vs[1]? =some .none/\X.xe (.ref e) s₁) X.xe s:=by
  rwa[wpAny_Call_Name_kw (jg I hg hm ?_ hdb)];rwa[callWith_K (h₀:=X.base) I.ok.mod.kin M.kp (b4 (ha cpos pins s σ H _ I h) λus s1 ⟨vs,H1,I1,r,q1⟩=>⟨I1.kIn,?_⟩) (bq h'.1) (bT h'.2)];rw [List.nil_append];obtain ⟨v,rfl,q1⟩:=q1;rwa[BP I1.kIn M.j M.init M.fn (λh2 a m=> ?_) (by rw [<-r.length];show 1<=_;rw [sizeLine_eq];omega)];have n1:H1 a=none:=I1.hok.none_of m.new;have I2:=I1.kept (t':=s1.toks) m.keeps;have nw:=I1.nw m.new n1;obtain ⟨tt,ht,_⟩:=m.there;have I3:=I2.track (o:=gP a (.ref C) none) nw (wu ht rfl rfl rfl rfl rfl)
  have sp:yq C fld (.ref a::([v]++[])) (upd H1 a (gP a (.ref C) none)) (λz H2=>z= .non/\∃d,H1 d=none/\d≠a/\H2=upd (upd (upd H1 a (gP a (.ref C) none)) a (gP a (.ref C) (some d))) d (.xd [(fld,v)])) E:=
   ⟨a,v,rfl,aj,λd nd ne=>⟨rfl,d,by rw [am ne] at nd;exact nd,ne,rfl⟩⟩
  have r2:bo (V.ref a::([v]++[])) (Value.ref a::(us++[])):= .cons rfl (r.append .nil)
  have hl:(Value.ref a::us++[]).length=ps.length:=by
   have e:=r2.length;rw [F.len _ _ _ _ sp] at e;exact e.symm
  have hb:BindsTo {heap:=h2,gens:=s1.gens,drawn:=s1.drawn,toks:=s1.toks,os:=s1.os} fd {pos:=Value.ref a::us} (ps.zip (Value.ref a::(us++[]))):=b _ (Value.ref a::us) I3.kIn hl;rwa[wpAny_call (codeAny_mono (F.run _ X.stack _ _ ⟨Value.ref a::us,[]⟩ (Value.ref a::(us++[])) _ _ E ((hr.mono hn).make C us []) (I3.env0.make C us []) hb r2 sp) λr s' hq'=> ?_)]
  cases r with
  |error e=>exact False.elim hq'
  |ok flw=>
   cases flw with
   |ret u=>
    obtain ⟨v',H',I4,rv,ev,d,nd,dne,rfl⟩:=I3.after hq';subst ev;rwa[⟨rv,a,?_⟩]
    have e4:upd (upd (upd H1 a (gP a (.ref C) none)) a (gP a (.ref C) (some d))) d (.xd [(fld,v)]) a=some (gP a (.ref C) (some d)):=by rw [am (Ne.symm dne),aj]
    obtain ⟨⟨oe,vs,g1,g2,g3,g4,g5,g6⟩,_⟩:=I4.hok a _ e4;have I5:=I4.untrack e4
    have eH:(λb=>if b=a then none else upd (upd (upd H1 a (gP a (.ref C) none)) a (gP a (.ref C) (some d))) d (.xd [(fld,v)]) b)=upd H1 d (.xd [(fld,v)]):=by
     funext y
     show (if y=a then none else _)=_;by_cases hya:y=a
     ·rw [if_pos hya,hya,am (Ne.symm dne),n1]
     ·rw [if_neg hya];by_cases hyd:y=d
      ·rw [hyd,aj,aj]
      ·rw [am hyd,am hyd,am hya,am hya]
    rw [eH] at I5;rwa[⟨oe,vs,rfl,I4.bk _ _ hC,g1,g2,g4,g5,?_⟩];rwa[fl pins σ _ _ a (.ref C) (some d) I5 ⟨⟨by rw [am (Ne.symm dne)];exact n1,nw.2⟩,.inl ⟨oe,vs,g1,g2,g3,g4,g5,g6⟩⟩ (q1 d nd)]
   |next=>exact False.elim hq'
   |brk=>exact False.elim hq'
   |cont=>exact False.elim hq'
 first
  |refine wpAny_bind (wpAny_standAt (jP hbase (I.ok.hd hc) (wpAny_bind (wpAny_mono go (λv s₃ h₃=>wpAny_bind (wpAny_standAt (wpAny_pure h₃))) λ_ _ x=>x))))
  |(simp only [evalOpt,Option.map];refine wpAny_bind (wpAny_standAt (jP hbase (I.ok.hd hc) (wpAny_bind (wpAny_mono go (λv s₃ h₃=>wpAny_bind (wpAny_standAt (wpAny_pure h₃))) λ_ _ x=>x)))))
  |(refine wpAny_bind (wpAny_standAt (jP hbase (I.ok.hd hc) ?_));refine wpAny_bind (wpAny_mono go (λv s₃ h₃=>wpAny_bind (wpAny_standAt (wpAny_pure h₃))) λ_ _ x=>x))
end
section
variable {prog:Program}{w:World}{A:Around}{E:Value->Shared->Prop}{s:Shared}{K:Frag}{x D:Addr}{ox:Obj}{odo:Option Obj}{name:Str}{v:Value}
theorem GR {R:Result->Shared->Prop}{tk:Tok}(X:K.In s.heap)(I:InstAt s.heap x ox D odo)(hf:findObj K D odo name=some (.value v))(hmB:mroIn K D (.type "BaseException")=some true)
(h:R (.ok (.ret v)) s):codeAny ↑38 A (.call (.builtin "BaseException.__getattribute__") ⟨[.ref x,.str name tk],[]⟩) R s:=by
 obtain ⟨hh,g,d,t,os⟩:=s;have L0:=I.type (M:=model prog w);have L1:=looks_find (M:=model prog w) X I hf;have L4:=looks_mroIn (M:=model prog w) X hmB;rwa[codeAny_call_builtin PySem.F.attr_ValueError.ga.plain PySem.F.entry_bexc_ga ?_]
 have hk:builtinKind "BaseException.__getattribute__"=some .slot:=by decide+kernel
 have hsplit:splitId "BaseException.__getattribute__"=some ("BaseException","__getattribute__"):=by decide+kernel
 have ha:=PySem.F.args_bexc_ga (.ref x) (.str name tk);simp only [checkBuiltinCall,hk,hsplit];rwa[wpAny_bind ?_];unfold isInstance;rwa[wpAny_bind (L0.at (L4.at ?_))]
 repeat (any_goals (first|assumption|with_reducible refine L0.at ?_|with_reducible refine L1.at ?_|wp_step))
theorem GQ {Q:Value->Shared->Prop}{expr:Bool}(X:K.In s.heap)(I:InstAt s.heap x ox D odo)(k:yb K D)(hf:findObj K D odo name=some (.value v))(hh:handedIn v=true)
(h:∀t,Q v {s with toks:=t}):wpAny ↑38 A (getAttr (.ref x) name expr) Q E s:=by
 obtain ⟨hp,g,d,t,os⟩:=s;have L0:=I.type (M:=model prog w);have L1:=looks_findIn (M:=model prog w) X k.ga;have L2':=looks_findIn (M:=model prog w) X k.gr;have f3:=PySem.F.attr_ValueError.ga.bind (.ref x);unfold getAttr getAttrBy;rwa[wpAny_bind (wpAny_mkText (wpAny_holding (wpAny_bind (L0.at (wpAny_bind (L1.at ?_))))))]
 have hx2:(Value.builtin "BaseException.__getattribute__"==Value.builtin "object.__getattribute__")=false:=by decide+kernel
 repeat (any_goals (first|assumption|wp_step))
 rwa[L2'.at ?_]
 repeat (any_goals (first|assumption|wp_step))
 rw [if_neg (by cases expr<;>decide)]
 repeat (any_goals (first|assumption|wp_step))
 rwa[GR X I hf k.mB ?_];exact handed_on hh (h _)
end
def qz (K:Frag)(f:Str)(a:Addr)(H:Hp)(Q:VK):Prop:=∃D d fs v,H a=some (ji a (.ref D) (some d))/\H d=some (.xd fs)/\yb K D/\hasDictIn K D=true/\findIn K (.ref D) f=some none/\fs.lookup f=some v/\Q v H
def KZ (K:Frag)(f:Str)(to:TE):TE:=λσ H Q=>to σ H λx H1=>match x with| .ref a=>qz K f a H1 Q|_=>False
theorem vS {X:Cx}{o:Expr}{to:TE}{pos:Pos}{K:Frag}{f:Str}(hK:X.K=K)(ho:PE X o to)(hb:fW o=true:=by rfl):PE X (.Attribute o f pos) (KZ K f to):=by
 subst hK;intro pins s σ H Q I h;rwa[Aq (tH hb) (b4 (ho pins s σ H _ I h) λu s1 ⟨x,H1,I1,rx,q⟩=> ?_)]
 match x,q with
 | .ref a,⟨D,d,fs,v,ea,ed,k,hd,na,l,q⟩=>
   obtain rfl:u=Value.ref a:=rx;obtain ⟨⟨oe,vs,k1,k2,k3,k4,k5⟩,_,_⟩:=I1.hok a _ ea;obtain ⟨mA,ns,r⟩:=I1.hok d _ ed;obtain ⟨od,e',hl⟩:=ux ns;obtain ⟨u',hu,ru⟩:=jD.some_of (v:=v) (o:=mA f) (by rw [<-l];exact r f);have IA:InstAt s1.heap a oe D (some od):=⟨k1,k2,by unfold notCls;rw [k4],by rw [k3];exact e'⟩
   have hlk:lookIn f od=some (some u'):=by rw [hl,hu]
   exact GQ I1.kIn IA k (findObj_own hd na rfl hlk) (uB ru) λt=>⟨v,H1,I1.tok t,ru,q⟩
def dm (K:Frag)(cls:Value)(C:Addr):Prop:=Av K cls C true\/∃D,cls= .ref D/\jA K D x6 "ValueError.__new__"=true/\mroIn K D (.ref C)=some true
theorem BH {K:Frag}{M:Model}{A:Around}{E:Value->Shared->Prop}{s:Shared}{C a:Addr}{cls:Value}{oe:Obj}{Q:Bool->Shared->Prop}(X:K.In s.heap)(hC:zQ K C)(c:dm K cls C)
(he:s.heap.get? a=some oe)(hcls:oe.cls=cls)(hq:Q true s):wpAny M A (excMatches (.ref a) (.ref C)) Q E s:=by
 rcases c with c|⟨D,rfl,hD,hm⟩
 ·exact Ez X hC c he hcls hq
 obtain ⟨bmB,newId,q1,hbase⟩:=hC.ex;obtain ⟨bm,N,nm,q,bs,hdct,sn,sub,ab,col,dd,k0,k1,k2,k3,k5,hC1,T,_⟩:=sj X q1;obtain ⟨bm',N',nm',q',bs',sn',sub',ab',col',dd',l0,l1,l2,l3,l5,mN,cd,hD1,_,_,hmro,_⟩:=iM X hD;exact pV hC1 hD1 he hcls (by rw [List.contains_cons,T.hasType hbase,Bool.or_true]) (hmro _ _ hm) hq
def Fm (K:Frag)(C:Addr)(j:Nat)(t:XK->TS)(u:Addr->TS):TS:=λD σ H=>∃M:XK,t M D σ H/\∀cls dd H1,M cls dd H1->dm K cls C/\∀a,H1 a=none->u a (L6 D j) (σ.set j (some (.ref a))) (upd H1 a (ji a cls dd))
theorem AM {X:Cx}{c n:Str}{j:Nat}{C:Addr}{st b₀:Stmt}{suite:List Stmt}{t:XK->TS}{u:Addr->TS}{np hpos tpos:Pos}{L:Addr}(hst:X.stack=X.env::X.outer)(hf:X.env.frame=some L)(hC:zQ X.K C)(hg:Gl X c)(hm:X.mg c=some (.ref C))
(hN:X.N.Nodup)(hj:X.N[j]? =some n)(hk:X.env.scope.names.lookup n=some .local)
(hb:O0 X st t)(hs:∀a,tK (X.mk' a) (b₀::suite) (u a))(hdb:(c==("__debug__":Str))=false:=by decide):
 PS X (.Try [st] [.ExceptHandler (some (.Name c np)) (some n) (b₀::suite) hpos] [] [] tpos) (Fm X.K C j t u):=by
 intro pins s σ H D I h;obtain ⟨M,ht,hu⟩:=h;rwa[wpAny_Try_except (wpAny_execs_cons (wpAny_mono (hb M pins s σ H D I ht) (λf s1 q=> ?_) λe s1 q=> ?_))]
 ·cases f with
  |next=>exact wpAny_pure (wpAny_pure q)
  |ret v=>exact q
  |brk=>exact q
  |cont=>exact q
 ·obtain ⟨a,cls,dd,H1,rfl,I1,x1,q1⟩:=q;obtain ⟨hc,hu⟩:=hu cls dd H1 q1;have na:=x1.1;rwa[xB I1 x1 I1.ok.frames hst hf λh2 T I2 fT x2=> ?_];rwa[G7.land I2 x2 fT λh3 I3 x3=> ?_];rwa[wpAny_handleBy_cons (codeAny_handlers_test (jg (I3.mark (a:=a)) hg hm ?_ hdb)) (by intro q;cases q)];obtain ⟨oe,vs,oT,ts,g1,g2,_⟩:=id x3.ex;rwa[BH I3.kIn hC hc g1 g2 ?_];rwa[codeAny_handlers_suite_as (G7.land I3 x3 fT λh4 I4 x4=> ?_)];have I5:=I4.track na (GT x4);rwa[qD (i:=j) I5 hN hj (.inl hk) (v:= .ref a) rfl (λs6 I6=> ?_) (.inr hk)];rwa[wpAny_noRaise (b4 (hs a pins _ _ _ (L6 D j) (I6.mark (a:=a)) (hu a na.1)) λf s5 q=> ?_)]
  cases f with
  |next=>obtain ⟨σ',H',J,q⟩:=q;exact qo (J.unmark I.ok) hN hj hk λs7 J7=>⟨_,H',J7,q⟩
  |ret v=>obtain ⟨v,σ',H',J,r,q⟩:=q;exact qo (J.unmark I.ok) hN hj hk λs7 J7=>⟨v,_,H',J7,r,q⟩
  |brk=>obtain ⟨σ',H',J,q⟩:=q;exact qo (J.unmark I.ok) hN hj hk λs7 J7=>⟨_,H',J7,q⟩
  |cont=>obtain ⟨σ',H',J,q⟩:=q;exact qo (J.unmark I.ok) hN hj hk λs7 J7=>⟨_,H',J7,q⟩
open PySem.Calls Att
theorem tG {i:Int}{n:Nat}(h:WData.weight (.int i)<=n):Builtin.Int.intBits i<=n:=by
 unfold WData.weight at h;unfold Builtin.Int.intBits;exact h
theorem pY:∀ {ns:List Int} {n:Nat},WData.weightAll (ns.map WData.int)<=n->∀i∈ns,Builtin.Int.intBits i<=n
 |[],_,_,_,hi=>nomatch hi
 |a::r,n,h,i,hi=>by
  have h':WData.weight (.int a)+1+WData.weightAll (r.map WData.int)<=n:=by simpa [WData.weightAll] using h
  rcases List.mem_cons.mp hi with rfl|hi
  ·exact tG ↑5
  ·exact pY ↑5 i hi
theorem x5 {ns:List Int}(h:WData.layableAll [WData.list (List.map WData.int ns)]=true):∀i∈ns,Builtin.Int.intBits i<=2^20:=by
 have h1:WData.layable (WData.list (List.map WData.int ns))=true:=by simpa [WData.layableAll] using h
 unfold WData.layable at h1;rw [Bool.and_eq_true,Bool.and_eq_true] at h1;have h2:=of_decide_eq_true h1.2;rwa[pY ?_];simpa [WData.weight] using h2
theorem wH {l:OpenLaw}{n:Nat}{q:Program}{loose:List Str}{XP:(Str->Option Value)->Heap->Prop}{YP:World->Heap->Prop}{d:DefRec}
(hn:l.most=some n)(hdf:d.params.defaults=[])
(call:∀(w:World) (s₀ s₁:Shared) (mg mb:Str->Option Value) (fa:Addr) (o:Obj) (pm cd doc:Value) (a:Addr) (vs:List Value) (ns:List Int),
   Ground q loose [] XP w s₀ mg mb s₁.heap->YP w s₁.heap->
   s₁.heap.get? fa=some o->o.data= .func (docDef d.name d.params d.body d.scope pm cd doc)->s₁.heap.CodeRec cd d.name->mg d.name=some (.ref fa)->
   s₁.heap.get? a=some {cls:= .type "list",data:= .seq vs.toArray}->IntsAre vs ns->ns.length<=n->(∀i∈ns,Builtin.Int.intBits i<=2^20)->s₁.gens= #[]->
   codeAny (model l.prog w) callerA (.call (.ref fa) ⟨[.ref a],[]⟩) (λr s'=>r= .ok (.ret (.bool true))/\OldK s₁.heap s'.heap/\s'.os=s₁.os/\AllBare s'.gens) s₁):
 WalkO q loose XP YP l.row.toRowW d [] (λf vs=>PySem.call f vs):=by
 intro w s₀ s₁ mg mb G Y fa o pm cd doc dV kV ho hd hcd hD hmg hg args vals as hpre hlay hrd hwl hlo;obtain rfl:dV= .none:=Dflts.none hD hdf;obtain rfl:kV= .none:=Dflts.noKw hD;obtain ⟨a,vs,ns,rfl,rfl,hobj,hints,hlen⟩:=AB hn hpre hwl;rwa[enter_call (codeAny_mono (call w s₀ s₁ mg mb fa o pm cd doc a vs ns G Y ho (fd_plain hd) hcd hmg hobj hints hlen (x5 hlay) hg) λr s' hq=> ?_)];obtain ⟨rfl,h2,h3,h4⟩:=hq;exact ⟨.inl ⟨.bool true,.bool true,[],rfl,λ_=>rfl,.bool true,AN l _,λ_=>⟨List.Pairwise.nil,λ_ hm=>(nomatch hm)⟩⟩,h2,h3,h4⟩
theorem Cd {l:PySem.W.OpenLaw}{n k:Nat}{q:Program}{loose:List Str}{XP:(Str->Option Value)->Heap->Prop}{YP:World->Heap->Prop}{d:DefRec}{K:Params->Fg}{CX:World->qw}{sp:World->Sp}{x:Str}
(hn:l.most=some n)(hn2:n<=sizeLine)(hdf:d.params.defaults=[])(hr:dH k callerA)
(hY:∀(w:World) (h:Heap),YP w h->(K w.params).In h)
(F:∀(w:World) (mg:Str->Option Value) (fa:Addr) (h:Heap),(K w.params).In h->h.Ns mainGlobals mg->mg d.name=some (.ref fa)->
   ∃fd:FuncData,(∀(s:Shared) (u:Value),BindsTo s fd ⟨[u],[]⟩ [(x,u)])/\
    ∀base:Heap,(K w.params).In base->base.Ns mainGlobals mg->aQ l.prog w (K w.params) mg base (CX w) k fa fd [x] (sp w))
(hsp:∀(w:World) (H:Hp) (a:Addr) (ns:List Int),ns.length<=n->(∀i∈ns,Builtin.Int.intBits i<=2^20)->aN (K w.params) H a (ns.map V.int)->sp w [.ref a] H (λv _=>v= .bl true) λ_ _ _=>False)
(hCX:∀(w:World) (H:Hp) (s:Shared) (e:Value) (s':Shared),CX w [] H s (λ_ _ _=>False) e s'->False):
 PySem.W.WalkO q loose XP YP l.row.toRowW d [] (λf vs=>PySem.call f vs):=by
 rwa[wH hn hdf λw s₀ s₁ mg mb fa o pm cd doc a vs ns G Y ho hd hcd hmg hobj hints hlen hbits hg=> ?_];have KX:=hY w _ Y;obtain ⟨fd,hb,hF⟩:=F w mg fa _ KX G.T.g hmg;exact D7 KX G.T.g G.T.b G.T.builtins G.T.nolimit hg hobj hints (Nat.le_trans hlen hn2) hr hF hb (λH hO hS=>hsp w H a ns hlen hbits hS) λH e s'=>hCX w H s₁ e s'
def K6:R2:=λx y H Q=>match x,y with
 | .int i,.int j=>IntMulOk i j/\Q (.int (i*j)) H
 |_,_=>False
theorem uW {X:Cx}:d8 X (binaryOp .Mult) K6:=(Jr (C:=IntMulOk) (g:=λi j=>i*j) λ_ _ _ _ _ _ _ hc q=>mul_int q hc).imp λx y H Q h=>by
 match x,y,h with
 | .int i,.int j,h=>exact ⟨i,j,rfl,rfl,h⟩
theorem Ee {i k:Int}(h:Builtin.Int.intBits i<=2^20)(k0:0<=k)(k1:k<1000):IntMulOk (i*48271+7919*k*k+11) (2305843009213693951^4):=by
 have hk:7919*k*k+11<=7919*1000*1000+11:=by
  have:7919*k*k<=7919*1000*1000:=Int.mul_le_mul ↑5 ↑5 k0 ↑1;omega
 have hk0:0<=7919*k*k+11:=by
  have:0<=7919*k*k:=Int.mul_nonneg ↑5 k0;omega
 rw [Int.add_assoc];rwa[IntMulOk.of_le (m:=2^21) (n:=300) ?_ ↑26 ↑1];rwa[Nat.le_trans (PyProof.Rows.bits_add (PyProof.Rows.bits_mul h (PySem.intBits_le_64 ↑1 ↑1)) (PySem.intBits_le_64 ↑5 ↑5)) ↑1]
open PySem.StrLaws Builtin.Str
def jn (sp:List Nat):List (List Nat)->List Nat
 |[]=>[]
 |[p]=>p
 |p::q::r=>p++sp++jn sp (q::r)
structure FunD (K:Fg)(x qual:Str)(st:Stmt)(T f:Addr)(fd:FuncData):Prop where
 ex:∃(oc:Value) (od:Option Addr) (kV doc pm:Value) (an:Option Addr) (cdv ct:Value) (osl:Array (Option Value)),
  fd=W.fnOf x qual (hZ st) (fQ st) (ap st) (.ref T) kV doc pm an cdv ct/\K.lookup f=some ⟨oc,od,.func fd,osl⟩/\W.codeIn K cdv qual=true
structure CalD (P:Program)(w:World)(K:Fg)(mg:Str->Option Value)(base:Heap)(n:Nat)(x:Str)(ps:List Str)(dvs:List V)(sp:Sp):Prop where
 ex:∃f fd ds,aQ P w K mg base (nK P w) n f fd ps sp/\gd K fd ps ds/\bo dvs ds/\W.keepIn K (.ref f)=true/\mg x=some (.ref f)
def OU (P:Program)(w:World)(K:Fg)(mg:Str->Option Value)(base:Heap)(n:Nat)(f:Addr)(ps:List Str)(sp:Sp):Prop:=
 ∃fd,aQ P w K mg base b8 n f fd ps sp/\gd K fd ps []/\W.keepIn K (.ref f)=true
theorem bO.fnv {P:Program}{w:World}{K:Fg}{mg:Str->Option Value}{base:Heap}{n:Nat}{x:Str}{ps:List Str}{sp:Sp}(c:bO P w K mg base n x ps sp):∃f,mg x=some (.ref f)/\OU P w K mg base n f ps sp:=by
 obtain ⟨f,fd,F,b,k,hm⟩:=c.ex;exact ⟨f,hm,fd,F,b,k⟩
def nF (P:Addr)(H H':Hp):Prop:=∀b o,b≠P->H b=some o->H' b=some o
structure LamScope (ps fs:List Str)(sc:Scope):Prop where
 kind:sc.kind= .function
 co:sc.isCoroutine=false
 gen:sc.isGenerator=false
 nd:(ps++fs).Nodup
 par:∀x∈ps,sc.names.lookup x=some .local
 fre:∀x∈fs,sc.names.lookup x=some .free
 nocell:∀x∈sc.names,x.2≠ .cell
 only:∀y∈sc.names,y.2= .free->y.1∈fs
structure qf (P:Program)(w:World)(K:Frag)(mg:Str->Option Value)(base:Heap)(n:Nat)(f:Addr)(sp:Sp):Prop where
 run:∀(A:Around) (outer:List Env) (s:Shared) (H:Hp) (us:List Value) (vs:List V) (Q:VK) (E:XK),dH n A->wM P w K mg base A outer s H->bo vs us->sp vs H Q E->codeAny (model P w) A (.call (.ref f) ⟨us,[]⟩) (CR b8 outer P w H s Q E) s
 keep:∀(vs:List V) (H:Hp) (Q:VK) (E:XK) (h:Heap),sp vs H Q E->io P w H h->K.In h->∃k,(k=Keeper.frame\/k=Keeper.machine\/k=Keeper.boundFrame)/\Looks (model P w) h (keeperOf (.ref f)) k
theorem OU.cal {P:Program}{w:World}{K:Frag}{mg:Str->Option Value}{base:Heap}{n:Nat}{f:Addr}{ps:List Str}{sp:Sp}(F:OU P w K mg base n f ps sp):qf P w K mg base n f sp:=by
 obtain ⟨fd,F,b,k⟩:=F;rwa[⟨λA outer s H us vs Q E hr e0 r h=> ?_,λvs H Q E h _ _ KI=>keeps_K k h KI⟩];have KI:K.In s.heap:=e0.mod.kin.keeps λb o e=>(e0.bs b o e).1
 have r2:bo vs (us++[]):=by rw [List.append_nil];exact r
 have hl:(us++[]).length=ps.length:=by rw [<-r2.length];exact F.len _ _ _ _ h
 exact F.run A outer s H ⟨us,[]⟩ (us++[]) vs Q E hr e0 (b s us KI hl) r2 h
section
variable {X:Cx}{x:Str}{p pos:Pos}{e:Expr}{es:List Expr}{t:TA}{n m:Nat}
def IE (P:Program)(w:World)(K:Frag)(mg:Str->Option Value)(base:Heap)(m:Nat)(i:Nat)(t:TA):TE:=λσ H Q=>∃f n sp,σ[i]? =some (some (.ref f))/\n<=m/\qf P w K mg base n f sp/\t σ H λvs H1=>sp vs H1 Q E0
theorem Dp (i:Nat)(hr:dH m X.A)(hN:X.N[i]? =some x)(hv:MM X.env.scope x)(ha:PA X (e::es) t)(hdb:↑36=false:=by decide)(hcd:(x==("__classdict__":Str))=false:=by decide)
(hp:bd (e::es)=true:=by rfl):PE X (.Call (.Name x p) (e::es) [] pos) (IE X.prog X.w X.K X.mg X.base m i t):=by
 have h':(b5 e&&bd es)=true:=hp;rw [Bool.and_eq_true] at h';intro pins s σ H Q I h;obtain ⟨f,n,sp,hσ,hn,C,h⟩:=h;rwa[wpAny_Call_Name_kw (b4 (Dm (X:=X) hN hv hdb hcd pins s σ H (λv H1=>v= .ref f/\H1=H) I ⟨.ref f,hσ,rfl,rfl⟩) λu s0 ⟨v,H0,I0,rv,ev,eH⟩=> ?_)];subst ev;subst eH;have rv:u=Value.ref f:=rv;subst rv;have he:=bq (env:=X.env) (es:=es) h'.1;have hpl:(backTo pos (starEach es X.env)).any (·.1)=false:=bT h'.2
 have hargs:wpAny ↑9 X.A (spliced (backTo pos (starEach (e::es) X.env))) (λus s1=>(∃k,(k=Keeper.frame\/k=Keeper.machine\/k=Keeper.boundFrame)/\Looks ↑9 s1.heap (keeperOf (.ref f)) k)/\wpAny ↑9 X.A (call (.ref f) ([]++us)) (EP X pins σ Q) X.xe s1) X.xe s0:=by
  rwa[b4 (ha pos pins s0 σ H0 _ I0 h) λus s1 ⟨vs,H1,I1,r,q⟩=>⟨C.keep _ _ _ _ _ q I1.hok I1.kIn,?_⟩];rwa[wpAny_call (codeAny_mono (C.run X.A X.stack s1 H1 us vs Q E0 (hr.mono hn) I1.env0 r q) λr s' hq=> ?_)]
  cases r with
  |error e=>exact False.elim hq
  |ok fl=>
   cases fl with
   |ret u=>exact I1.after hq
   |next=>exact False.elim hq
   |brk=>exact False.elim hq
   |cont=>exact False.elim hq
 rw [he] at hargs ⊢;exact callWith_of (P:=λh=>∃k,(k=Keeper.frame\/k=Keeper.machine\/k=Keeper.boundFrame)/\Looks ↑9 h (keeperOf (.ref f)) k) (by show ((false||(backTo pos (starEach es X.env)).any (·.1))||false)=false;rw [hpl];rfl) (λh z=>z) (evalArgs_plain hargs)
end
def Gz (j:Int)(H:Hp)(Q:VK):Prop:=∃n:Nat,Builtin.Range.small 0 j 1=true/\Builtin.Range.rangeSize 0 j 1=n/\n<=1000/\∀l,H l=none->Q (.ref l) (upd H l (.lst ((List.range n).map λi:Nat=>V.int (i:Int))))
def La (te:TE):TE:=λσ H Q=>te σ H λx H1=>match x with
 | .int j=>Gz j H1 Q
 |_=>False
theorem Mc {j:Int}{n:Nat}{H:Hp}{Q:VK}(h1:Builtin.Range.small 0 j 1=true)(h2:Builtin.Range.rangeSize 0 j 1=n)(h3:n<=1000)(g:∀l H',ar H H'->H l=none->H' l=some (.lst ((List.range n).map λi:Nat=>V.int (i:Int)))->Q (.ref l) H'):Gz j H Q:=⟨n,h1,h2,h3,λl nl=>g l _ (.upd nl) nl aj⟩
theorem uU {X:Cx}{e:Expr}{te:TE}{p1 p2 pos1 pos2:Pos}(hc:X.calm=true)(hgl:Gl X "list")(hml:X.mg "list"=none)(hgr:Gl X "range")(hmr:X.mg "range"=none)(he:PE X e te)(hs:b5 e=true:=by rfl):
 PE X (.Call (.Name "list" p1) [.Call (.Name "range" p2) [e] [] pos2] [] pos1) (La te):=by
 intro pins s σ H Q I h;have st1:starEach [Expr.Call (.Name "range" p2) [e] [] pos2] X.env=[(false,eval (.Call (.Name "range" p2) [e] [] pos2) X.env)]:=bq (by rfl);have st2:starEach [e] X.env=[(false,eval e X.env)]:=bq hs;rwa[wpAny_Call_Name_kw (mh I hgl hml boot_list ?_)];rwa[PyProof.Rows.callWith_type1 ?_ st1 (bT (by rfl))];rw [st1];show wpAny _ _ (spliced ((false,eval (.Call (.Name "range" p2) [e] [] pos2) X.env)::backTo pos1 (starEach [] X.env))) _ _ s;rwa[Calls.spliced_cons ?_];rwa[wpAny_Call_Name_kw (mh I hgr hmr boot_range ?_)];rwa[PyProof.Rows.callWith_type1 ?_ st2 (bT (by rfl))];rw [st2];show wpAny _ _ (spliced ((false,eval e X.env)::backTo pos2 (starEach [] X.env))) _ _ s;rwa[Calls.spliced_cons (b4 (he pins s σ H _ I h) λu s1 ⟨x,H1,I1,r1,q1⟩=> ?_)];rwa[Calls.spliced_nil ?_]
 cases x with
 |int j=>
  obtain ⟨t,rfl⟩:=r1;obtain ⟨n,h1,h2,h3,q⟩:=q1;rwa[call_range_1 ?_];rwa[Calls.spliced_nil ?_];rwa[call_list_range (n:=n) (I1.ok.hd hc) (Heap.get?_push_size _ rfl) h1 h2 ↑5 λh' tk acc' c' hk hS hacc=> ?_];have I2:=I1.kept (t':=s1.toks+1+1) (h':=s1.heap.push {cls:= .type "range",data:= .fields #[.int 0 s1.toks,.int j t,.int 1 (s1.toks+1)]}) λb o e=>Heap.get?_push_of_some _ e
  have rv:bo ((List.range n).map λi:Nat=>V.int (i:Int)) acc'.toList:=by
   rwa[PySem.Paired.of (by rw [List.length_map,List.length_range,Array.length_toList,hacc.1]) λi v d e1 e2=> ?_];rw [List.getElem?_map] at e1;obtain ⟨k,hk,rfl⟩:=Option.map_eq_some_iff.mp e1;obtain ⟨hi,hk⟩:=List.getElem?_eq_some_iff.mp hk;rw [List.getElem_range] at hk;subst hk;obtain ⟨t',e3⟩:=hacc.2 i d (by rw [<-Array.getElem?_toList];exact e2);exact ⟨t',by rw [e3];congr 1;omega⟩
  have hl:((List.range n).map λi:Nat=>V.int (i:Int)).length<=sizeLine:=bB (by rw [List.length_map,List.length_range];omega);exact ⟨.ref _,_,I2.laid (t':=tk) hk ↑15 (show bS X.prog X.w _ h' _ (.lst _) from ⟨hl,acc'.toList,c',rv,hS⟩),rfl,q _ (I2.hok.fresh ↑15)⟩
 |_=>exact False.elim q1
section
variable {X:Cx}{pins:List ↑20}{σ:St}{H:Hp}{s:Shared}{h':Heap}
theorem aL.sub {pins':List ↑20}(I:aL X pins σ H s)(h:∀p∈pins',p∈pins):aL X pins' σ H s:=I.pins_of λp hp=>I.pin p (List.mem_append_right _ (h p hp))
theorem aL.repin {t':Nat}{a:Addr}{o o':Obj}(I:aL X ((a,o)::pins) σ H s)(h0:X.s₀.heap.objs.size<=a)(hne:∀p∈X.pn++pins,p.1≠a)(k:∀b u,b≠a->s.heap.get? b=some u->h'.get? b=some u)(ho:h'.get? a=some o')(hd:∀v,o'.data≠ .cell v):
 aL X ((a,o')::pins) σ H {s with heap:=h',toks:=t'}:=by
 obtain ⟨p1,p2,p3,p4,p5⟩:=I.pin (a,o) (List.mem_append_right _ (.head _));have I0:aL X pins σ H s:=I.sub λp hp=> .tail _ hp
 have I1:aL X pins σ H {s with heap:=h',toks:=t'}:=I0.turned (it:=a) k p2 p3 (.inr h0) (λx c e z=>by
  obtain ⟨v,oc,h1,h2⟩:=I.cell x c e;rw [z] at h1;have p1:s.heap.get? a=some o:=p1;rw [p1] at h1;cases h1
  exact p5 v h2) hne
 rwa[I1.pins_of λp hp=> ?_]
 rcases List.mem_cons.mp hp with rfl|hp
 ·exact ⟨ho,p2,p3,p4,hd⟩
 ·exact I1.pin p (List.mem_append_right _ hp)
theorem aL.pinNew {t':Nat}{a:Addr}{o:Obj}(I:aL X pins σ H s)(hp:s.heap.objs.size<=a)(k:∀b u,s.heap.get? b=some u->h'.get? b=some u)(ho:h'.get? a=some o)(hd:∀v,o.data≠ .cell v):aL X ((a,o)::pins) σ H {s with heap:=h',toks:=t'}:=by
 rwa[(I.kept (t':=t') k).pins_of λp hq=> ?_]
 rcases List.mem_cons.mp hq with rfl|hq
 ·exact ⟨ho,I.hok.fresh hp,Nat.ne_of_gt (Nat.lt_of_lt_of_le I.lt hp),I.nofs hp,hd⟩
 ·exact (I.kept (t':=t') k).pin p (List.mem_append_right _ hq)
end
theorem v6 {X:Cx}{pins:List ↑20}{σ:St}{H:Hp}{s:Shared}{l:Addr}{xs:List V}(I:aL X pins σ H s)(e:H l=some (.lst xs)):∃us:List Value,bo xs us/\s.heap.IsList l us.toArray:=by
 obtain ⟨_,us,n,r,h1⟩:=(show bS X.prog X.w H s.heap l (.lst xs) from I.hok l _ e);exact ⟨us,r,_,h1,rfl,n,rfl⟩
structure LamIn (X:Cx)(fs:List Str)(js:List Nat)(cl:List (Str×Addr)):Prop where
 at_:∀(i:Nat) x,fs[i]? =some x->∃j c,js[i]? =some j/\X.N[j]? =some x/\X.env.scope.names.lookup x=some .cell/\X.env.cells.lookup x=some c/\cl.lookup x=some c
 dom:∀x c,cl.lookup x=some c->x∈fs/\X.env.cells.lookup x=some c
section
variable {prog:Program}{w:World}{A:Around}{E:Value->Shared->Prop}{s:Shared}
theorem zm {it t:Addr}{i:Nat}{items:Array Value}{x:Value}{Q:Value->Shared->Prop}(hit:s.heap.IsTupleIter it t i)(ht:s.heap.IsTuple t items)(hx:items[i]? =some x)
(hQ:∀h',h'.IsTupleIter it t (i+1)->Heap.SameBut it s.heap h'->Q x {s with heap:=h'}):wpAny ↑38 A (Builtin.SmallTypes.nextOf (.ref it)) Q E s:=by
 obtain ⟨o,ho,hc,hd⟩:=id hit;obtain ⟨ol,hol,_,nl,hdl⟩:=ht;unfold Builtin.SmallTypes.nextOf;rwa[wpAny_bind (wpAny_callSpecial?_slot (name:=Str.ofString "__next__") hit.typeIs F.slot_tuple_iterator_next (wpAny_call_entry F.slot_tuple_iterator_next hit.typeIs F.entry_tuple_iterator_next ?_ (F.args_tuple_iterator_next_1 _)))];show wpAny _ _ (field (.ref it) 0>>=_) _ _ s;rwa[wpAny_bind (wpAny_field ho hd (x:= .ref t) rfl ?_)];show wpAny _ _ (if (Value.ref t==Value.none)=true then _ else _) _ _ s;rw [if_neg (show ¬((Value.ref t==Value.none)=true) from Bool.false_ne_true)];show wpAny _ _ (field (.ref it) 1>>=_) _ _ s;rwa[wpAny_bind (wpAny_field ho hd (x:= .int i 0) rfl ?_)];show wpAny _ _ (seqItems? (.ref t)>>=_) _ _ s;rwa[wpAny_bind (wpAny_seqItems hol hdl ?_)];simp only [Int.toNat_natCast,hx];rwa[wpAny_bind (wpAny_setField ho hd ↑27 (wpAny_pure ⟨x,rfl,wpAny_pure (hQ _ ?_ (Heap.SameBut.update ..))⟩))];exact ⟨_,Heap.get?_update_self _ ho (Obj.isFreed_of_fields (Obj.data_mapFields hd _)),(Obj.cls_mapFields ..).trans hc,by rw [Obj.data_mapFields hd];simp [rawInt]⟩
theorem jU {it t:Addr}{i:Nat}{items:Array Value}{Q:Value->Shared->Prop}(hh:A.handled=none)(hit:s.heap.IsTupleIter it t i)(ht:s.heap.IsTuple t items)(hx:items[i]? =none)
(hE:∀h' e,Heap.ExtBut it s.heap h'->(∃o,h'.get? e=some o/\o.cls= .type "StopIteration")->E (.ref e) {s with heap:=h'}):wpAny ↑38 A (Builtin.SmallTypes.nextOf (.ref it)) Q E s:=by
 obtain ⟨o,ho,hc,hd⟩:=id hit;obtain ⟨ol,hol,_,nl,hdl⟩:=ht;unfold Builtin.SmallTypes.nextOf;rwa[wpAny_bind (wpAny_callSpecial?_slot (name:=Str.ofString "__next__") hit.typeIs F.slot_tuple_iterator_next (wpAny_call_entry F.slot_tuple_iterator_next hit.typeIs F.entry_tuple_iterator_next ?_ (F.args_tuple_iterator_next_1 _)))];show wpAny _ _ (field (.ref it) 0>>=_) _ _ s;rwa[wpAny_bind (wpAny_field ho hd (x:= .ref t) rfl ?_)];show wpAny _ _ (if (Value.ref t==Value.none)=true then _ else _) _ _ s;rw [if_neg (show ¬((Value.ref t==Value.none)=true) from Bool.false_ne_true)];show wpAny _ _ (field (.ref it) 1>>=_) _ _ s;rwa[wpAny_bind (wpAny_field ho hd (x:= .int i 0) rfl ?_)];show wpAny _ _ (seqItems? (.ref t)>>=_) _ _ s;rwa[wpAny_bind (wpAny_seqItems hol hdl ?_)];simp only [Int.toNat_natCast,hx];rwa[wpAny_bind (wpAny_rule (wpAny_bind (wpAny_setField ho hd ↑27 ?_)))];show wpAny _ _ (newExc (.type "StopIteration") []>>=_) _ _ _;rwa[wpAny_bind ?_];simp only [newExc,newTuple];rwa[wpAny_bind (wpAny_newObj_type ?_ (by size_fits))];rwa[wpAny_bind (m:=firstArgMember _ _) (wpAny_of_eq (a:=Value.none) (by first|rfl|(simp only [firstArgMember];rfl)) ?_)];rwa[wpAny_newObj_type ?_ (by size_fits)];simp only [raiseNew];rwa[wpAny_bind (wpAny_handled ?_)]
 first|rw [show A.in1.handled=none from hh]|rw [hh]
 rwa[wpAny_bind (wpAny_pure (wpAny_throw ?_))];exact hE _ _ (((Heap.SameBut.update ..).extBut.push _).push _) ⟨_,Heap.get?_push_size _ rfl,rfl⟩
end
theorem uI {prog:Program}{w:World}{A:Around}(hh:A.handled=none)(it l:Addr)(hne:l≠it)(items:Array Value):
 Draws prog w A it [it,l] items.size (λi v=>items[i]? =some v) (λi h=>h.IsTupleIter it l i/\h.IsTuple l items) where
 live:=λ_ _ st=>let ⟨o,ho,_⟩:=st.1;⟨o,ho⟩
 frame:=λ_ _ _ st hk=>⟨st.1.at λo e=>hk it ↑27 o e,let ⟨o,ho,r⟩:=st.2;⟨o,hk l ↑27 o ho,r⟩⟩
 item:=λi s Q E hi st hQ=>by
  rwa[zm st.1 st.2 (x:=items[i]) (by simp [hi]) λh' hit' hs'=> ?_];exact hQ _ h' s.toks (by simp [hi]) ⟨hit',let ⟨o,ho,r⟩:=st.2;⟨o,(hs'.2 l hne).trans ho,r⟩⟩ hs'
 done:=λs Q E st hE=>jU hh st.1 st.2 ↑27 hE
open Sem (wp)
open AutoSeq1 (wpAny_loadPart')
theorem rN (l:Addr)(items:Array Value)(n:Nat)(dct:Option Addr)(sl:Array (Option Value)):
 Meets (Builtin.«enumerate.__new__» ⟨[.type "enumerate",.ref l],[]⟩) (λ_ R s=>s.heap.get? l=some {cls:= .type "tuple",dict:=dct,data:= .seq items n,slots:=sl}/\
  R (.ok (.ret (.ref (s.heap.push {cls:= .type "tuple_iterator",data:= .fields #[.ref l,.int 0 0]}).objs.size)))
    {s with heap:=(s.heap.push {cls:= .type "tuple_iterator",data:= .fields #[.ref l,.int 0 0]}).push {cls:= .type "enumerate",data:= .fields #[.none,.bool false,.ref s.heap.objs.size,rawInt 0,.none,.none]}}):=
 .of_wp λprog w A R s h=>by
  obtain ⟨hp,g,d,tk,os⟩:=s;obtain ⟨hl,h⟩:=h;have hsub:=sub_enumerate;have hL:Heap.IsTuple (Shared.heap ⟨hp,g,d,tk,os⟩) l items:=⟨_,hl,rfl,n,rfl⟩
  wp_walk using wpAny_loadPart' hl
  rwa[wpAny_stack_any λst=>wpAny_pure ?_];split
  ·rename_i c _ _ _ _ _;cases (c==Value.type "enumerate")
   ·wp_walk using wpAny_loadPart' hl,wpAny_pyIter_tuple hL
    exact ⟨_,rfl,h⟩
   ·wp_walk using wpAny_loadPart' hl,wpAny_pyIter_tuple hL
    exact ⟨_,rfl,h⟩
  ·wp_walk using wpAny_loadPart' hl,wpAny_pyIter_tuple hL
   exact ⟨_,rfl,h⟩
theorem tX {prog:Program}{w:World}{A:Around}{E:Value->Shared->Prop}{s:Shared}{l:Addr}{items:Array Value}{Q:Value->Shared->Prop}(hL:s.heap.IsTuple l items)
(h:∀h',IsEnum h' (s.heap.objs.size+1) s.heap.objs.size 0 .none->h'.IsTupleIter s.heap.objs.size l 0->h'.objs.size=s.heap.objs.size+2->
   (∀b o,s.heap.get? b=some o->h'.get? b=some o)->Q (.ref (s.heap.objs.size+1)) {s with heap:=h'}):wpAny ↑38 A (call (.type "enumerate") [.ref l]) Q E s:=by
 obtain ⟨⟨c,dct,dt,sl⟩,hl,hc,n,hd⟩:=hL;replace hc:c= .type "tuple":=hc;replace hd:dt= .seq items n:=hd;subst hc hd;rwa[callType_new F.called_enumerate ↑1 (F.typeCall_enumerate_1 _) (F.newCall_enumerate_1 _) (λobj=>F.args_object_init_2 obj _) F.entry_enumerate_new (rN l items n dct sl) ⟨hl,?_⟩];have hz:(s.heap.push {cls:= .type "tuple_iterator",data:= .fields #[.ref l,.int 0 0]}).objs.size=s.heap.objs.size+1:=Heap.size_push ..;show _/\_;rw [hz]
 have he:IsEnum ((s.heap.push {cls:= .type "tuple_iterator",data:= .fields #[.ref l,.int 0 0]}).push {cls:= .type "enumerate",data:= .fields #[.none,.bool false,.ref s.heap.objs.size,rawInt 0,.none,.none]}) (s.heap.objs.size+1) s.heap.objs.size 0 .none:=by
  have:=Heap.get?_push_size (s.heap.push {cls:= .type "tuple_iterator",data:= .fields #[.ref l,.int 0 0]}) (o:= {cls:= .type "enumerate",data:= .fields #[.none,.bool false,.ref s.heap.objs.size,rawInt 0,.none,.none]}) rfl;rw [hz] at this;exact this
 rwa[⟨⟨_,he,rfl⟩,h _ he ⟨_,Heap.get?_push_of_some _ (Heap.get?_push_size _ rfl),rfl,rfl⟩ (by rw [Heap.size_push,hz]) λb o x=>Heap.get?_push_of_some _ (Heap.get?_push_of_some _ x)⟩]
theorem aL.turnLaid {X:Cx}{pins:List ↑20}{σ:St}{H:Hp}{s:Shared}{h':Heap}{t':Nat}{ch:List Addr}{a:Addr}{o:HO}(I:aL X pins σ H s)(hf:∀b∈ch,kz X pins H b)(k:∀b u,b∉ch->s.heap.get? b=some u->h'.get? b=some u)
(ha:s.heap.objs.size<=a)(new:bS X.prog X.w (upd H a o) h' a o):aL X pins σ (upd H a o) {s with heap:=h',toks:=t'}:=by
 have hn:H a=none:=I.hok.fresh ha;have ne:∀ {b:Addr} {u:Obj},s.heap.get? b=some u->b≠a:=λ{b u} e=>Nat.ne_of_lt (Nat.lt_of_lt_of_le (Heap.lt_size e) ha)
 have nch:∀ {b:Addr} {u:HO},H b=some u->b∉ch:=λ{b u} e z=>by have:=(hf b z).1;rw [e] at this;cases this
 have sm:ar H (upd H a o):= .upd hn
 refine I.step (g':=s.gens) (d':=s.drawn) (ch:=ch) (λb hb=> ?_) (λb u _ _ hc e _=>k b u hc e) (λb u _ _ hc e _=>⟨u.slots,k b u hc e⟩) (λb u _ e n=>by rw [am (ne e)];exact n) (λb u hc e=>⟨u,k b u hc e⟩)
  (λb xs e=>sm _ _ e) (λb u v e=>sm _ _ e) (λb ps e=>⟨#[],by rw [sm _ _ e];simp⟩) (λm hm=> ?_) (λb u e=> ?_) I.bare
 ·obtain ⟨_,f1,_,f3,f4,f5⟩:=hf b hb;exact ⟨f3,f1,f4,f5⟩
 ·obtain ⟨o,es,ep,ho,r⟩:=hm;exact ⟨o,es,ep,k _ o (λz=>(hf _ z).2.1 rfl) ho,r⟩
 ·by_cases hb:b=a
  ·subst hb;rw [aj] at e;cases e;exact new
  ·rw [am hb] at e;rwa[(I.hok b u e).stay (λc v hc q=>k c v ?_ q) (λc q=>sm _ _ q) λc xs q=>sm _ _ q]
   rcases hc with z|z
   ·rw [z];exact nch e
   ·exact nch z
def OV (K:Fg)(a:Addr):It:=⟨(B0 K a).go,λi H x H'=>∃T y,x= .ref T/\H T=none/\H'=upd H T (.tup [.int i,y])/\∀xs,aN K H a xs->xs[i]? =some y,(B0 K a).stop⟩
theorem Cq {P:Program}{w:World}{K:Fg}{elts:List Expr}{k:Nat}{pos:Pos}(a it e:Addr):wK P w K (.Tuple elts k pos) (OV K a) [e,it] e (λi h=>(∃old,IsEnum h e it i old)/\h.IsListIter it a i) where
 mem:=by simp
 obj:=λi h st b hb=>by
  obtain ⟨⟨old,he⟩,o,ho,c,d⟩:=st
  rcases List.mem_cons.mp hb with rfl|hb
  ·exact ⟨_,he,λv z=>by cases z⟩
  ·rw [List.mem_singleton.mp hb];exact ⟨o,ho,λv z=>by rw [d] at z;cases z⟩
 keep:=λi h h' st kk=>by
  obtain ⟨⟨old,he⟩,hit⟩:=st;exact ⟨⟨old,kk e ↑27 _ he⟩,hit.at λo z=>kk it ↑27 o z⟩
 item:=by
  intro X hP hw hK hc i pins s σ H E I hf st hg;subst hP hw hK;obtain ⟨⟨old,he⟩,hit⟩:=st;obtain ⟨xs,x,hq,hx⟩:=hg;obtain ⟨its,rv,p,hz⟩:=I.list hq;have hl:s.heap.IsList a its.toArray:=p.isList;obtain ⟨u,hu,ru⟩:=rv.get hx;obtain ⟨oi,hoi,ci,di⟩:=id hit;obtain ⟨ol,hol,cl,_⟩:=id hl
  have hei:e≠it:=λz=>by have h1:=hoi.symm.trans (z▸he);cases h1;exact absurd (Value.type.inj ci) ↑1
  have hea:e≠a:=λz=>by have h1:=hol.symm.trans (z▸he);cases h1;exact absurd (Value.type.inj cl) ↑1
  have hia:a≠it:=λz=>by rw [z,hoi] at hol;cases hol;rw [ci] at cl;exact absurd (Value.type.inj cl) ↑1
  have W:=WalksT.enumerateD (Draws.list (prog:=X.prog) (w:=X.w) (A:=X.A.in1) (I.ok.hd hc) it a hia its.toArray) e hei (by simp [hei,hea]) ↑27
  have hi:i<its.toArray.size:=by rw [List.size_toArray];exact (List.getElem?_eq_some_iff.mp hu).1
  rwa[W.item i s _ _ hi ⟨⟨old,he⟩,hit,hl⟩ λT vals h' tk hP hT hIsT hMid hk=>⟨.ref T,rfl,?_⟩];rwa[W.go elts k pos i T _ _ _ hMid λh2 hst2 hk2=> ?_];obtain ⟨t,u',hu',rfl⟩:=hP
  have hu':its[i]? =some u':=by simpa using hu'
  rw [hu] at hu';cases hu';have hTn:T∉[e,it]:=W.apart i T h' hMid;have kk:∀b o,b∉[e,it]->s.heap.get? b=some o->h2.get? b=some o:=λb o nb z=>hk2 b o nb (hk b o nb z)
  have hIs2:IsTup h2 T (#[.int i t,u]:Array Value):=by
   obtain ⟨o,ho,c,r⟩:=hIsT;exact ⟨o,hk2 T o hTn ho,c,r⟩
  have new:bS X.prog X.w (upd H T (.tup [.int i,x])) h2 T (.tup [.int i,x]):=⟨by show 2<=sizeLine;decide,[.int i t,u],.cons ⟨t,rfl⟩ (.cons ru .nil),hIs2⟩;rwa[⟨.ref T,upd H T (.tup [.int i,x]),I.turnLaid (t':=tk) hf kk hT new,rfl,⟨T,x,rfl,I.hok.fresh hT,rfl,λys hy=>by rw [I.list_inj hy hq];exact hx⟩,⟨hst2.1,hst2.2.1⟩,λb hb=> ?_⟩];have ne:b≠T:=λz=>hTn (by rw [<-z];exact hb);rw [am ne];exact (hf b hb).1
 done:=by
  intro X hP hw hK hc i pins s σ H E I hf st hg;subst hP hw hK;obtain ⟨⟨old,he⟩,hit⟩:=st;obtain ⟨xs,hq,hx⟩:=hg;obtain ⟨its,rv,p,hz⟩:=I.list hq;have hl:s.heap.IsList a its.toArray:=p.isList;have hlen:=rv.length;obtain ⟨oi,hoi,ci,di⟩:=id hit;obtain ⟨ol,hol,cl,_⟩:=id hl
  have hia:a≠it:=λz=>by rw [z,hoi] at hol;cases hol;rw [ci] at cl;exact absurd (Value.type.inj cl) ↑1
  have D:=Draws.list (prog:=X.prog) (w:=X.w) (A:=X.A.in1) (I.ok.hd hc) it a hia its.toArray;have hT:s.TypeIs (.ref e) "enumerate":=⟨_,he,rfl⟩;obtain ⟨f0,f1,f2,f3,f4,f5⟩:=hf it ↑27;unfold pyNext;rwa[wpAny_bind (wpAny_attempt (wpAny_callSpecial?_slot (name:=Str.ofString "__next__") hT F.slot_enumerate_next (wpAny_call_entry F.slot_enumerate_next hT F.entry_enumerate_next ?_ (F.args_enumerate_next_1 _))))];show wpAny _ _ (field (.ref e) 2>>=_) _ _ _;rwa[wpAny_bind (wpAny_field he rfl (x:= .ref it) rfl ?_)];rwa[wpAny_bind (wpAny_nextOf_list_end (I.ok.hd hc) hit hl (by simp;omega) λh' x he' hx'=> ?_)];obtain ⟨o,ho,hcc⟩:=hx';rwa[wpAny_bind (wpAny_isInstance (T:="StopIteration") (b:=true) ⟨o,ho,hcc⟩ isSubtype_stop ?_)];exact wpAny_pure ⟨rfl,I.turned (t':=s.toks) (λb o hb e=>he' b o hb e) f0 f1 f3 f4 f5⟩
 self:=λ_ _ _ _ _ st h=>let ⟨⟨old,he⟩,_⟩:=st;wpAny_pyIter_enum he h
def O4 (K:Fg)(a:Addr):It:=⟨(BZ K a).go,λi H x H'=>∃T y,x= .ref T/\H T=none/\H'=upd H T (.tup [.int i,y])/\∀xs,aK K H a xs->xs[i]? =some y,(BZ K a).stop⟩
theorem Cp {P:Program}{w:World}{K:Fg}{elts:List Expr}{k:Nat}{pos:Pos}(a it e:Addr):wK P w K (.Tuple elts k pos) (O4 K a) [e,it] e (λi h=>(∃old,IsEnum h e it i old)/\h.IsTupleIter it a i) where
 mem:=by simp
 obj:=λi h st b hb=>by
  obtain ⟨⟨old,he⟩,o,ho,c,d⟩:=st
  rcases List.mem_cons.mp hb with rfl|hb
  ·exact ⟨_,he,λv z=>by cases z⟩
  ·rw [List.mem_singleton.mp hb];exact ⟨o,ho,λv z=>by rw [d] at z;cases z⟩
 keep:=λi h h' st kk=>by
  obtain ⟨⟨old,he⟩,hit⟩:=st;exact ⟨⟨old,kk e ↑27 _ he⟩,hit.at λo z=>kk it ↑27 o z⟩
 item:=by
  intro X hP hw hK hc i pins s σ H E I hf st hg;subst hP hw hK;obtain ⟨⟨old,he⟩,hit⟩:=st;obtain ⟨xs,x,hq,hx⟩:=hg;obtain ⟨its,rv,p,hz⟩:=I.tuple hq;have hl:s.heap.IsTuple a its.toArray:=p;obtain ⟨u,hu,ru⟩:=rv.get hx;obtain ⟨oi,hoi,ci,di⟩:=id hit;obtain ⟨ol,hol,cl,_⟩:=id hl
  have hei:e≠it:=λz=>by have h1:=hoi.symm.trans (z▸he);cases h1;exact absurd (Value.type.inj ci) ↑1
  have hea:e≠a:=λz=>by have h1:=hol.symm.trans (z▸he);cases h1;exact absurd (Value.type.inj cl) ↑1
  have hia:a≠it:=λz=>by rw [z,hoi] at hol;cases hol;rw [ci] at cl;exact absurd (Value.type.inj cl) ↑1
  have W:=WalksT.enumerateD (uI (prog:=X.prog) (w:=X.w) (A:=X.A.in1) (I.ok.hd hc) it a hia its.toArray) e hei (by simp [hei,hea]) ↑27
  have hi:i<its.toArray.size:=by rw [List.size_toArray];exact (List.getElem?_eq_some_iff.mp hu).1
  rwa[W.item i s _ _ hi ⟨⟨old,he⟩,hit,hl⟩ λT vals h' tk hP hT hIsT hMid hk=>⟨.ref T,rfl,?_⟩];rwa[W.go elts k pos i T _ _ _ hMid λh2 hst2 hk2=> ?_];obtain ⟨t,u',hu',rfl⟩:=hP
  have hu':its[i]? =some u':=by simpa using hu'
  rw [hu] at hu';cases hu';have hTn:T∉[e,it]:=W.apart i T h' hMid;have kk:∀b o,b∉[e,it]->s.heap.get? b=some o->h2.get? b=some o:=λb o nb z=>hk2 b o nb (hk b o nb z)
  have hIs2:IsTup h2 T (#[.int i t,u]:Array Value):=by
   obtain ⟨o,ho,c,r⟩:=hIsT;exact ⟨o,hk2 T o hTn ho,c,r⟩
  have new:bS X.prog X.w (upd H T (.tup [.int i,x])) h2 T (.tup [.int i,x]):=⟨by show 2<=sizeLine;decide,[.int i t,u],.cons ⟨t,rfl⟩ (.cons ru .nil),hIs2⟩;rwa[⟨.ref T,upd H T (.tup [.int i,x]),I.turnLaid (t':=tk) hf kk hT new,rfl,⟨T,x,rfl,I.hok.fresh hT,rfl,λys hy=>by rw [I.tuple_inj hy hq];exact hx⟩,⟨hst2.1,hst2.2.1⟩,λb hb=> ?_⟩];have ne:b≠T:=λz=>hTn (by rw [<-z];exact hb);rw [am ne];exact (hf b hb).1
 done:=by
  intro X hP hw hK hc i pins s σ H E I hf st hg;subst hP hw hK;obtain ⟨⟨old,he⟩,hit⟩:=st;obtain ⟨xs,hq,hx⟩:=hg;obtain ⟨its,rv,p,hz⟩:=I.tuple hq;have hl:s.heap.IsTuple a its.toArray:=p;have hlen:=rv.length;obtain ⟨oi,hoi,ci,di⟩:=id hit;obtain ⟨ol,hol,cl,_⟩:=id hl
  have hia:a≠it:=λz=>by rw [z,hoi] at hol;cases hol;rw [ci] at cl;exact absurd (Value.type.inj cl) ↑1
  have D:=uI (prog:=X.prog) (w:=X.w) (A:=X.A.in1) (I.ok.hd hc) it a hia its.toArray;have hT:s.TypeIs (.ref e) "enumerate":=⟨_,he,rfl⟩;obtain ⟨f0,f1,f2,f3,f4,f5⟩:=hf it ↑27;unfold pyNext;rwa[wpAny_bind (wpAny_attempt (wpAny_callSpecial?_slot (name:=Str.ofString "__next__") hT F.slot_enumerate_next (wpAny_call_entry F.slot_enumerate_next hT F.entry_enumerate_next ?_ (F.args_enumerate_next_1 _))))];show wpAny _ _ (field (.ref e) 2>>=_) _ _ _;rwa[wpAny_bind (wpAny_field he rfl (x:= .ref it) rfl ?_)];rwa[wpAny_bind (jU (I.ok.hd hc) hit hl (by simp;omega) λh' x he' hx'=> ?_)];obtain ⟨o,ho,hcc⟩:=hx';rwa[wpAny_bind (wpAny_isInstance (T:="StopIteration") (b:=true) ⟨o,ho,hcc⟩ isSubtype_stop ?_)];exact wpAny_pure ⟨rfl,I.turned (t':=s.toks) (λb o hb e=>he' b o hb e) f0 f1 f3 f4 f5⟩
 self:=λ_ _ _ _ _ st h=>let ⟨⟨old,he⟩,_⟩:=st;wpAny_pyIter_enum he h
def OD (K:Fg)(p:Addr)(H:Hp)(R:It->Hp->Prop):Prop:=(∃xs,aN K H p xs/\R (OV K p) H)\/∃xs,aK K H p xs/\R (O4 K p) H
def O8 (K:Fg)(te:TE):TI:=λσ H R=>te σ H λx H1=>match x with| .ref p=>OD K p H1 R|_=>False
theorem Fc {X:Cx}{K:Fg}(hK:X.K=K){elts:List Expr}{k:Nat}{tpos p pos:Pos}{e:Expr}{te:TE}(hg:Gl X "enumerate")(hm:X.mg "enumerate"=none)(he:PE X e te)(hs:b5 e=true:=by rfl):
 PI X (.Tuple elts k tpos) (.Call (.Name "enumerate" p) [e] [] pos) (O8 K te):=by
 subst hK;intro pins s σ H R I h;have st:starEach [e] X.env=[(false,eval e X.env)]:=bq hs;rwa[Call_ (mh I hg hm boot_enumerate (PyProof.Rows.callWith_type1 ?_ st (bT (by rfl))))];rw [st];show wpAny _ _ (spliced ((false,eval e X.env)::backTo pos (starEach [] X.env))) _ _ s;rwa[Calls.spliced_cons (b4 (he pins s σ H _ I h) λu s1 ⟨x,H1,I1,r1,q1⟩=> ?_)];rwa[Calls.spliced_nil ?_]
 cases x with
 |ref a=>
  have r1:u=Value.ref a:=r1;subst r1
  have fp:∀b∈[s1.heap.objs.size+1,s1.heap.objs.size],kz X pins H1 b:=λb hb=>by
   rcases List.mem_cons.mp hb with rfl|hb
   ·exact I1.fpOk (Nat.le_succ _) (I1.hok.fresh (Nat.le_succ _))
   ·rw [List.mem_singleton.mp hb];exact I1.fpOk ↑15 (I1.hok.fresh ↑15)
  rcases q1 with ⟨xs,hq,q⟩|⟨xs,hq,q⟩
  ·obtain ⟨its,rv,p,hz⟩:=I1.list hq;rwa[call_enumerate_list p.isList λh' h1 h2 h3 h4=> ?_];exact wpAny_pyIter_enum h1 ⟨_,[s1.heap.objs.size+1,s1.heap.objs.size],_,_,H1,rfl,I1.kept (t':=s1.toks) h4,Cq a _ _,⟨⟨_,h1⟩,h2⟩,fp,q⟩
  ·obtain ⟨its,rv,p,hz⟩:=I1.tuple hq;rwa[tX (show s1.heap.IsTuple a its.toArray from p) λh' h1 h2 h3 h4=> ?_];exact wpAny_pyIter_enum h1 ⟨_,[s1.heap.objs.size+1,s1.heap.objs.size],_,_,H1,rfl,I1.kept (t':=s1.toks) h4,Cp a _ _,⟨⟨_,h1⟩,h2⟩,fp,q⟩
 |_=>exact False.elim q1
section
variable {X:Cx}{K:Fg}
theorem GH {ns:List Int}:∀ {us:List Value},bo (ns.map V.int) us->IntsAre us ns:=by
 induction ns with
 |nil=>intro us r;cases r;exact .nil
 |cons a r ih=>
  intro us h
  cases h with
  |cons r1 r2=>
   obtain ⟨t,rfl⟩:=r1;exact .cons _ _ (ih r2)
end
end L2
namespace HT
open PySem PyProof.Rows
open PySem.SeqAt
open PySem.MeetsSeq PySem.MeetsSeq2 PySem.MeetsSeq3
theorem getItem_tuple_whole {prog:Program}{w:World}{A:Around}{E:Value->Shared->Prop}{s:Shared}{t sl:Addr}{items:Array Value}{vl vu:Value}{lo hi:Option Int}{Q:Value->Shared->Prop}(ht:IsTup s.heap t items)(hs:s.heap.IsSliceOf sl vl vu .none)(pl:IsPart vl lo)(pu:IsPart vu hi)
(hw:sIx items.size 0 lo=0/\sIx items.size items.size hi=items.size)(h:Q (.ref t) s):wpAny ↑38 A (getItem (.ref t) (.ref sl)) Q E s:=by
 obtain ⟨os,hos,hcs,hds⟩:=id hs;have hTs:s.TypeIs (.ref sl) "slice":=⟨os,hos,hcs⟩;unfold getItem
 try with_reducible refine wpAny_holding ?_
 first|refine wpAny_bind (wpAny_pure ?_)|skip
 rwa[wpAny_bind (wpAny_sequenceKey ht.typeIs ↑1 ?_)]
 refine wpAny_bind (wpAny_callSpecial?_slot (name:=Str.ofString "__getitem__") ht.typeIs PyProof.Rows.slot_tuple_getitem
  (wpAny_call_entry PyProof.Rows.slot_tuple_getitem ht.typeIs entry_tuple_getitem ?_ (args_tuple_getitem _ _)))
 show wpAny _ _ (Builtin.Tuple.tupleItemsOf (.ref t)>>=_) _ _ s;rwa[wpAny_bind (tupleItemsOf_ ht ?_)];rwa[wpAny_bind (wpAny_typeOf hTs ?_)];rw [if_pos ↑1];rwa[wpAny_bind (iz hs pl pu ?_)];show wpAny _ _ (if (((sIx items.size 0 lo:Nat):Int)==0&&(1:Int)==1&&(sIx items.size items.size hi - sIx items.size 0 lo)==items.size)=true then _ else _) _ _ s;rw [hw.1,hw.2,if_pos ↑27];rwa[wpAny_bind ?_];unfold Builtin.Tuple.tupleIsExact;rwa[wpAny_bind (wpAny_typeOf ht.typeIs (wpAny_pure ?_))];show wpAny _ _ (if ((Value.type "tuple"==Value.type "tuple")=true) then _ else _) _ _ s;rw [if_pos ↑1];rwa[wpAny_bind (wpAny_rule ?_)]
 first|exact wpAny_pure ⟨_,rfl,wpAny_pure h⟩|exact wpAny_bind (wpAny_pure (wpAny_pure ⟨_,rfl,wpAny_pure h⟩))|trace_state
end HT
namespace L2
open PySem PySem.Spec PyProof.Rows
section
variable {X:Cx}{K:Fg}
def Fx (K:Fg)(p:Addr)(lo hi:Option Int)(H:Hp)(Q:VK):Prop:=∃xs,aK K H p xs/\(HT.sIx xs.length 0 lo=0/\HT.sIx xs.length xs.length hi=xs.length->Q (.ref p) H)/\(¬(HT.sIx xs.length 0 lo=0/\HT.sIx xs.length xs.length hi=xs.length)->∀l,H l=none->Q (.ref l) (upd H l (.tup (ff xs lo hi))))
def Nz (K:Fg):V->Option Int->Option Int->Hp->VK->Prop:=λx lo hi H Q=>match x with| .ref p=>Fx K p lo hi H Q|_=>False
theorem KN (hK:X.K=K):HM X (Nz K):=by
 subst hK;intro pins s σ H x v vl vu lo hi sl Q I rx hs pl pu h
 cases x with
 |ref p=>
  obtain ⟨xs,hx,h1,h2⟩:=h;by_cases hw:HT.sIx xs.length 0 lo=0/\HT.sIx xs.length xs.length hi=xs.length
  ·cases rx;obtain ⟨its,r,ht,hz⟩:=I.tuple hx
   have hlen:its.toArray.size=xs.length:=by rw [List.size_toArray];exact r.length.symm
   exact ⟨"tuple",_,PyProof.Rows.slot_tuple_getitem.lookup,ht.typeIs,HT.getItem_tuple_whole ht hs pl pu (by rw [hlen];exact hw) ⟨.ref p,H,I,rfl,h1 hw⟩⟩
  ·exact CK pins s σ H _ v vl vu lo hi sl Q I rx hs pl pu ⟨p,xs,rfl,hx,hw,h2 hw⟩
 |_=>exact False.elim h
theorem Hn {p:Addr}{xs:List V}{lo hi:Option Int}{H:Hp}{Q:VK}(h:aK K H p xs)(g1:ff xs lo hi=xs->Q (.ref p) H)(g2:∀l H',ar H H'->H' l=some (.tup (ff xs lo hi))->Q (.ref l) H'):Fx K p lo hi H Q:=by
 rwa[⟨xs,h,λhw=>g1 ?_,λ_ l n=>g2 l _ (.upd n) aj⟩];unfold ff;rw [hw.1,hw.2];simp
end
theorem Ej {K:Fg}{a:Addr}{xs:List V}{g:TG}{tb:TS}{D:k7}{σ:St}{H:Hp}(Pv:Nat->St->Hp->Prop)(h0:Pv 0 σ H)(hx:∀i σ H,i<=xs.length->Pv i σ H->aN K H a xs)
(hs:∀(i:Nat) x σ H T H',xs[i]? =some x->Pv i σ H->ar H H'->H' T=some (.tup [.int i,x])->g (.ref T) σ H' λσ2 H2=>tb {D with nx:=Pv (i+1),ct:=Pv (i+1),bk:=D.nx} σ2 H2)(hd:∀σ H,Pv xs.length σ H->D.nx σ H):zD (OV K a) g tb D σ H:=by
 rwa[⟨λi m σ H=>m=xs.length - i/\i<=xs.length/\Pv i σ H,⟨xs.length,by simp,Nat.zero_le _,h0⟩,?_⟩];rintro i m σ H ⟨rfl,hi,p⟩;by_cases hlt:i<xs.length
 ·rwa[.inr ⟨⟨xs,xs[i],hx i σ H hi p,by simp [hlt]⟩,Pv (i+1),λσ' H' p'=>⟨xs.length - (i+1),by omega,rfl,hlt,p'⟩,λx H' y=> ?_⟩];obtain ⟨T,z,rfl,nT,rfl,y⟩:=y;exact hs i z σ _ T _ (y xs (hx i σ _ hi p)) p (.upd nT) aj
 ·have e:i=xs.length:=by omega
  subst e;exact .inl ⟨⟨xs,hx _ σ H ↑15 p,Nat.le_refl _⟩,hd σ H p⟩
section
variable {κ:Type}[DecidableEq κ]
def eS (kvs:List (κ×V))(k:κ):Option V:=(kvs.find? λkv=>decide (kv.1=k)).map (·.2)
def cK (kvs:List (κ×V))(k:κ)(v:V):List (κ×V):=
 if (kvs.any λkv=>decide (kv.1=k))=true then kvs.map (λkv=>if kv.1=k then (kv.1,v) else kv) else kvs++[(k,v)]
theorem cg {p:κ×V}{r:List (κ×V)}{k:κ}(e:p.1=k):eS (p::r) k=some p.2:=by simp [eS,List.find?_cons,e]
theorem bb {p:κ×V}{r:List (κ×V)}{k:κ}(e: ¬p.1=k):eS (p::r) k=eS r k:=by simp [eS,List.find?_cons,e]
theorem ix (k:κ):∀kvs:List (κ×V),(kvs.any λkv=>decide (kv.1=k))=(eS kvs k).isSome
 |[]=>rfl
 |p::r=>by
  rw [List.any_cons];by_cases e:p.1=k
  ·simp only [cg e,decide_eq_true e,Bool.true_or,Option.isSome_some]
  ·rw [bb e,decide_eq_false e,Bool.false_or];exact ix k r
theorem wX (k j:κ)(y:V):∀kvs:List (κ×V),eS (kvs.map λkv=>if kv.1=k then (kv.1,y) else kv) j=(eS kvs j).map λx=>if j=k then y else x
 |[]=>rfl
 |p::r=>by
  have ih:=wX k j y r;rw [List.map_cons];by_cases h:p.1=k
  ·rw [if_pos h];by_cases e:p.1=j
   ·rw [cg (p:=(p.1,y)) e,cg e,Option.map_some,if_pos (e.symm.trans h)]
   ·rw [bb (p:=(p.1,y)) e,bb e,ih]
  ·rw [if_neg h];by_cases e:p.1=j
   ·rw [cg (p:=p) e,cg e,Option.map_some,if_neg (λz=>h (e.trans z))]
   ·rw [bb (p:=p) e,bb e,ih]
theorem uc (k j:κ)(y:V):∀kvs:List (κ×V),eS kvs k=none->eS (kvs++[(k,y)]) j=if j=k then some y else eS kvs j
 |[],_=>by
  by_cases e:k=j
  ·rw [if_pos e.symm];exact cg (p:=(k,y)) e
  ·rw [if_neg (λz=>e z.symm)];exact bb (p:=(k,y)) e
 |p::r,hn=>by
  rw [List.cons_append]
  have hk: ¬p.1=k:=λz=>by rw [cg z] at hn;cases hn
  rw [bb hk] at hn;have ih:=uc k j y r hn;by_cases e:p.1=j
  ·rw [cg e,cg e,if_neg (λz=>hk (e.trans z))]
  ·rw [bb e,bb e,ih]
theorem qB (kvs:List (κ×V))(k j:κ)(y:V):eS (cK kvs k y) j=if j=k then some y else eS kvs j:=by
 unfold cK;by_cases a:(kvs.any λkv=>decide (kv.1=k))=true
 ·rw [if_pos a,wX];rw [ix] at a;by_cases e:j=k
  ·obtain ⟨x,hx⟩:=Option.isSome_iff_exists.mp a;rw [if_pos e,e,hx,Option.map_some,if_pos rfl]
  ·rw [if_neg e]
   cases eS kvs j with
   |none=>rfl
   |some x=>rw [Option.map_some,if_neg e]
 ·rw [if_neg a];rwa[uc k j y kvs ?_];rw [ix] at a
  cases q:eS kvs k with
  |none=>rfl
  |some x=>rw [q] at a;exact (a rfl).elim
theorem dQ (kvs:List (κ×V))(k:κ)(v:V):(cK kvs k v).length<=kvs.length+1:=by
 unfold cK;split
 ·rw [List.length_map];omega
 ·rw [List.length_append,List.length_cons,List.length_nil];omega
theorem jD.isSome_eq {o:Option V}{u:Option Value}(r:jD o u):o.isSome=u.isSome:=by
 cases o with
 |none=>cases u with
  |none=>rfl
  |some _=>exact (show False from r).elim
 |some _=>cases u with
  |none=>exact (show False from r).elim
  |some _=>rfl
theorem KV.val {kvs:List (κ×V)}{vs:List (κ×Value)}(r:KV kvs vs)(k:κ):jD (eS kvs k) (valueAt vs k):=by
 unfold KV at r
 induction r with
 |nil=>exact True.intro
 | @cons p q ps qs h t ih=>
   obtain ⟨h1,h2⟩:=h;by_cases e:p.1=k
   ·have e':q.1=k:=h1.symm.trans e
    have b:valueAt (q::qs) k=some q.2:=by simp [valueAt,List.find?_cons,e']
    rw [cg e,b];exact h2
   ·have e': ¬q.1=k:=λz=>e (h1.trans z)
    have b:valueAt (q::qs) k=valueAt qs k:=by simp [valueAt,List.find?_cons,e']
    rw [bb e,b];exact ih
theorem KV.any {kvs:List (κ×V)}{vs:List (κ×Value)}(r:KV kvs vs)(k:κ):(kvs.any λkv=>decide (kv.1=k))=vs.any λkv=>decide (kv.1=k):=by
 unfold KV at r
 induction r with
 |nil=>rfl
 |cons h t ih=>rw [List.any_cons,List.any_cons,ih,h.1]
theorem KV.repl {kvs:List (κ×V)}{vs:List (κ×Value)}(r:KV kvs vs)(k:κ){y:V}{u:Value}(ry:bp y u):
 KV (kvs.map λkv=>if kv.1=k then (kv.1,y) else kv) (vs.map λkv=>if kv.1=k then (kv.1,u) else kv):=by
 unfold KV at r ⊢
 induction r with
 |nil=>exact .nil
 | @cons p q ps qs h t ih=>
   rw [List.map_cons,List.map_cons];rwa[.cons ?_ ih];obtain ⟨h1,h2⟩:=h;by_cases e:p.1=k
   ·rw [if_pos e,if_pos (h1.symm.trans e)];exact ⟨h1,ry⟩
   ·rw [if_neg e,if_neg (λz=>e (h1.trans z))];exact ⟨h1,h2⟩
theorem KV.put {kvs:List (κ×V)}{vs:List (κ×Value)}(r:KV kvs vs)(k:κ){y:V}{u:Value}(ry:bp y u):KV (cK kvs k y) (stored vs k u):=by
 unfold cK stored;rw [r.any k];by_cases e:(vs.any λkv=>decide (kv.1=k))=true
 ·rw [if_pos e,if_pos e];exact r.repl k ry
 ·rw [if_neg e,if_neg e];exact Paired.snoc r ⟨rfl,ry⟩
theorem KV.length {kvs:List (κ×V)}{vs:List (κ×Value)}(r:KV kvs vs):kvs.length=vs.length:=Paired.length r
end
theorem uz {P:Program}{w:World}{k:cX}{u:Value}(r:bp (kV k) u):(cN P w).is k u=true:=by
 cases k with
 |inl i=>obtain ⟨t,e⟩:=(show ∃t,u=Value.int i t from r);subst e;exact xE P w i t
 |inr x=>obtain ⟨t,e⟩:=(show ∃t,u=Value.str x t from r);subst e;exact xD P w x t
theorem uA {P:Program}{w:World}:∀ {ks:List cX} {us:List Value},bo (ks.map kV) us->ItemsAre (cN P w) ks us
 |[],_,r=>by rw [List.map_nil] at r;cases r;exact .nil
 |k::ks,_,r=>by
  rw [List.map_cons] at r
  cases r with
  |cons h t=>exact .cons (uz h) (uA t)
abbrev KT (H:Hp):List (List cX×V)->List (List cX×Addr×Value)->Prop:=Paired λp q=>p.1=q.1/\H q.2.1=some (.tup (p.1.map kV))/\bp p.2 q.2.2
theorem KT.val {H:Hp}{kvs:List (List cX×V)}{xs:List (List cX×Addr×Value)}(r:KT H kvs xs)(k:List cX):jD (eS kvs k) ((atKey xs k).map (·.2)):=by
 induction r with
 |nil=>exact True.intro
 | @cons p q ps qs h t ih=>
   obtain ⟨h1,_,h2⟩:=h;by_cases e:p.1=k
   ·have e':q.1=k:=h1.symm.trans e
    have b:atKey (q::qs) k=some q.2:=by simp [atKey,List.find?_cons,e']
    rw [cg e,b];exact h2
   ·have e': ¬q.1=k:=λz=>e (h1.trans z)
    have b:atKey (q::qs) k=atKey qs k:=by simp [atKey,List.find?_cons,e']
    rw [bb e,b];exact ih
theorem KT.repl {H:Hp}{kvs:List (List cX×V)}{xs:List (List cX×Addr×Value)}(r:KT H kvs xs)(k:List cX){y:V}{u:Value}(ry:bp y u):
 KT H (kvs.map λkv=>if kv.1=k then (kv.1,y) else kv) (xs.map (PySem.putAt k u)):=by
 induction r with
 |nil=>exact .nil
 | @cons p q ps qs h t ih=>
   rw [List.map_cons,List.map_cons];rwa[.cons ?_ ih];obtain ⟨h1,h2,h3⟩:=h;unfold PySem.putAt;by_cases e:p.1=k
   ·rw [if_pos e,if_pos (h1.symm.trans e)];exact ⟨h1,h2,ry⟩
   ·rw [if_neg e,if_neg (λz=>e (h1.trans z))];exact ⟨h1,h2,h3⟩
theorem KT.put {H:Hp}{kvs:List (List cX×V)}{xs:List (List cX×Addr×Value)}(r:KT H kvs xs)(k:List cX){b:Addr}{y:V}{u:Value}(hb:H b=some (.tup (k.map kV)))(ry:bp y u):
 KT H (cK kvs k y) (storedH xs k b u):=by
 have e:(kvs.any λkv=>decide (kv.1=k))=(atKey xs k).isSome:=by
  rw [ix,(r.val k).isSome_eq,Option.isSome_map]
 unfold cK storedH;rw [e];by_cases q:(atKey xs k).isSome=true
 ·rw [if_pos q,if_pos q];exact r.repl k ry
 ·rw [if_neg q,if_neg q];exact Paired.snoc r ⟨rfl,hb,ry⟩
theorem KT.keeps {H H':Hp}{kvs:List (List cX×V)}{xs:List (List cX×Addr×Value)}(r:KT H kvs xs)(ht:∀b ys,H b=some (.tup ys)->H' b=some (.tup ys)):KT H' kvs xs:=
 Paired.mapP r λ_ _ z=>⟨z.1,ht _ _ z.2.1,z.2.2⟩
section
variable {P:Program}{w:World}{H:Hp}{h:Heap}{a:Addr}
theorem Hq {u:HO}(ok:io P w H h)(e:Rd H a u):bS P w H h a u:=e.ok ok
theorem Ai {kvs:List (cX×V)}(ok:io P w H h)(e:Rd H a (.dK kvs)):kvs.length<=sizeLine/\(a==sysModules)=false/\∃vs,KV kvs vs/\h.DictOf (cN P w) a vs:=
 show bS P w H h a (.dK kvs) from Hq ok e
theorem Es {kvs:List (cX×V)}(ok:io P w H h)(e:H a=some (.dK kvs)):kvs.length<=sizeLine/\(a==sysModules)=false/\∃vs,KV kvs vs/\h.DictOf (cN P w) a vs:=Ai ok (.inl e)
theorem v7 {ks:List cX}(ok:io P w H h)(e:H a=some (.tup (ks.map kV))):(tupleKind (cN P w)).is h ks a:=by
 obtain ⟨_,its,r,o,h1,h2,n,h3⟩:=(show bS P w H h a (.tup (ks.map kV)) from ok a _ e);exact ⟨o,its.toArray,n,h1,h2,h3,by simpa using uA r⟩
theorem Ah {kvs:List (List cX×V)}(ok:io P w H h)(e:Rd H a (.dT kvs)):kvs.length<=sizeLine/\(a==sysModules)=false/\
 ∃xs,KT H kvs xs/\h.DictOfH (tupleKind (cN P w)) a xs:=by
 obtain ⟨z,y,xs,r,o,es,ep,h1,h2,h3,h4,h5⟩:=(show bS P w H h a (.dT kvs) from Hq ok e);rwa[⟨z,y,xs,r,o,es,ep,h1,h2,h3,h4,λx hx=> ?_,h5⟩]
 have all:∀ {l:List (List cX×V)} {m:List (List cX×Addr×Value)},KT H l m->∀x∈m,(tupleKind (cN P w)).is h x.1 x.2.1:=by
  intro l m q
  induction q with
  |nil=>intro x hx;exact nomatch hx
  | @cons p q ps qs hq t ih=>
    intro x hx
    rcases List.mem_cons.mp hx with e|hx
    ·subst e;exact v7 ok (by rw [<-hq.1];exact hq.2.1)
    ·exact ih x hx
 exact all r x hx
theorem MA {kvs:List (List cX×V)}(ok:io P w H h)(e:H a=some (.dT kvs)):kvs.length<=sizeLine/\(a==sysModules)=false/\
 ∃xs,KT H kvs xs/\h.DictOfH (tupleKind (cN P w)) a xs:=Ah ok (.inl e)
end
def fZ (H:Hp)(a:Addr)(y:V)(r:Option V):Prop:=
 (∃kvs k,Rd H a (.dK kvs)/\y=kV k/\r=eS kvs k)\/∃kvs k b,Rd H a (.dT kvs)/\y= .ref b/\H b=some (.tup (k.map kV))/\r=eS kvs k
def pE (H:Hp)(a:Addr)(y v:V)(H':Hp):Prop:=
 (∃kvs k,H a=some (.dK kvs)/\y=kV k/\kvs.length<sizeLine/\H'=upd H a (.dK (cK kvs k v)))\/
 ∃kvs k b,H a=some (.dT kvs)/\y= .ref b/\H b=some (.tup (k.map kV))/\kvs.length<sizeLine/\H'=upd H a (.dT (cK kvs k v))
theorem fZ.k {H:Hp}{a:Addr}{kvs:List (cX×V)}{k:cX}(e:H a=some (.dK kvs)):fZ H a (kV k) (eS kvs k):= .inl ⟨kvs,k,.inl e,rfl,rfl⟩
theorem pE.k {H:Hp}{a:Addr}{kvs:List (cX×V)}{k:cX}{v:V}(e:H a=some (.dK kvs))(hl:kvs.length<sizeLine):pE H a (kV k) v (upd H a (.dK (cK kvs k v))):= .inl ⟨kvs,k,e,rfl,hl,rfl⟩
section
variable {X:Cx}{pins:List ↑20}{σ:St}{H:Hp}{s:Shared}{a:Addr}{y v:V}{u r:Value}{o:Option V}{A:Around}{E:Value->Shared->Prop}
theorem aL.big (I:aL X pins σ H s):sysModules<s.heap.objs.size:=by
 have h:mainGlobals<s.heap.objs.size:=(I.mod.glob.keeps I.bk).lt;exact Nat.lt_trans ↑1 h
theorem BE {Q:Value->Shared->Prop}(hu:A.units+1<cLine)(I:aL X pins σ H s)(g:fZ H a y (some v))(ry:bp y u)(h:∀w' s',aL X pins σ H s'->bp v w'->Q w' s'):
 wpAny ↑9 A (getItem (.ref a) u) Q E s:=by
 rcases g with ⟨kvs,k,e,ey,l⟩|⟨kvs,k,b,e,ey,eb,l⟩
 ·subst ey;obtain ⟨z,hd,vs,rel,dd⟩:=Ai I.hok e;obtain ⟨w',hw,rw'⟩:=jD.some_of (v:=v) (o:=valueAt vs k) (by rw [l];exact rel.val k);exact wpAny_getItem_of (uz ry) dd.mapOf hw (h w' _ (I.tok _) rw')
 ·subst ey;cases (show u=Value.ref b from ry);obtain ⟨z,hd,xs,rel,dd⟩:=Ah I.hok e;obtain ⟨w',hw,rw'⟩:=jD.some_of (v:=v) (o:=(atKey xs k).map (·.2)) (by rw [l];exact rel.val k);obtain ⟨p,hp,hp2⟩:=Option.map_eq_some_iff.mp hw;rwa[wpAny_getItem_heap (tupleKind_room_in1 hu) (v7 I.hok eb) dd hp ?_];rw [hp2];exact h w' _ (I.tok _) rw'
theorem OJ {Q:Value->Shared->Prop}(hu:A.units+1<cLine)(I:aL X pins σ H s)(g:fZ H a y o)(ry:bp y u)(h:∀s',aL X pins σ H s'->Q (.bool o.isSome) s'):
 wpAny ↑9 A (compareOp .In u (.ref a)) Q E s:=by
 rcases g with ⟨kvs,k,e,ey,l⟩|⟨kvs,k,b,e,ey,eb,l⟩
 ·subst ey;obtain ⟨z,hd,vs,rel,dd⟩:=Ai I.hok e;rwa[wpAny_in_of (uz ry) hd dd.mapOf ?_];rw [<-(rel.val k).isSome_eq,<-l];exact h _ (I.tok _)
 ·subst ey;cases (show u=Value.ref b from ry);obtain ⟨z,hd,xs,rel,dd⟩:=Ah I.hok e;rwa[wpAny_in_heap (tupleKind_room_in1 hu) (v7 I.hok eb) hd dd ?_];have q:=(rel.val k).isSome_eq;rw [Option.isSome_map] at q;rw [<-q,<-l];exact h _ (I.tok _)
theorem qt {h':Heap}{t':Nat}{ob:HO}(I:aL X pins σ H s)(mu:MR (H a))(hs:Heap.SameBut a s.heap h')(he:∃q,h'.get? a=some q)(new:bS X.prog X.w (upd H a ob) h' a ob):
 aL X pins σ (upd H a ob) {s with heap:=h',toks:=t'}:=
 I.write (x:=a) (e:=a) mu (.inl rfl) (λb q hb z=>(hs.2 b hb).trans z) he new
theorem wx {P:Program}{w:World}{H':Hp}{h':Heap}{kvs:List (cX×V)}{vs:List (cX×Value)}(z:kvs.length<=sizeLine)(hd:(a==sysModules)=false)(rel:KV kvs vs)(dd:h'.DictOf (cN P w) a vs):
 bS P w H' h' a (.dK kvs):=⟨z,hd,vs,rel,dd⟩
theorem BC {H':Hp}{Q:Unit->Shared->Prop}(hu:A.units+1<cLine)(I:aL X pins σ H s)(g:pE H a y v H')(ry:bp y u)(rv:bp v r)(h:∀s',aL X pins σ H' s'->Q () s'):
 wpAny ↑9 A (setItem (.ref a) u r) Q E s:=by
 rcases g with ⟨kvs,k,e,ey,l,eH⟩|⟨kvs,k,b,e,ey,eb,l,eH⟩
 ·subst ey eH;obtain ⟨z,hd,vs,rel,dd⟩:=Es I.hok e
  have hz:vs.length<=sizeLine:=by rw [<-rel.length];exact z
  have hl:(cK kvs k v).length<=sizeLine:=by have:=dQ kvs k v;omega
  rwa[wpAny_setItem_pairs (hsz:=hz) (uz ry) dd λh' dd' hs=>h _ ?_];have he:∃q,h'.get? a=some q:=let ⟨q,_,_,hq,_⟩:=dd';⟨q,hq⟩;exact qt I (by rw [e];exact True.intro) hs he (wx hl hd (rel.put k rv) dd')
 ·subst ey eH;cases (show u=Value.ref b from ry);obtain ⟨z,hd,xs,rel,dd⟩:=MA I.hok e
  have hz:xs.length<=sizeLine:=by rw [<-Paired.length rel];exact z
  have hl:(cK kvs k v).length<=sizeLine:=by have:=dQ kvs k v;omega
  rwa[wpAny_setItem_heap (hsz:=hz) (tupleKind_room_in1 hu) (v7 I.hok eb) dd λh' dd' hs=>h _ ?_];obtain ⟨q,es,ep,hq,h2,h3,h4,_,h5⟩:=dd';rwa[qt I (by rw [e];exact True.intro) hs ⟨q,hq⟩ ⟨hl,hd,_,(rel.put k eb rv).keeps λc ys ec=> ?_,q,es,ep,hq,h2,h3,h4,h5⟩];rw [am (L9 ec e (λz=>nomatch z))];exact ec
end
def MQ (i:Expr):Prop:=∀ov iv,subscripted i false ov iv=operate [ov,iv] (getItem ov iv)
theorem Fr {prog:Program}{w:World}{A:Around}{E:Value->Shared->Prop}{s:Shared}{env:Env}{value slice:Expr}{pos:Pos}{T id:String}{Q:Value->Shared->Prop}
(hl:typeLookup (.type T) "__getitem__"=pure (some (.builtin id)))(hs:MQ slice)
(h:wpAny ↑38 A (eval value env) (λo s₁=>wpAny ↑38 A (eval slice env) (λi s₂=>s₂.TypeIs o T/\wpAny ↑38 A (getItem o i) Q E s₂) E s₁) E s):
 wpAny ↑38 A (eval (.Subscript value slice pos) env) Q E s:=by
 rwa[Subscript_ (wpAny_mono h (λo s₁ h₁=>wpAny_mono h₁ (λi s₂ h₂=> ?_) λ_ _ x=>x) λ_ _ x=>x)];obtain ⟨hT,h₂⟩:=h₂;unfold subscriptTail;rwa[wpAny_bind ?_];rw [getitemInPython_of_ne hT.not_modules];rwa[wpAny_bind (wpAny_specialOf hT hl ?_)]
 have fin:wpAny ↑38 A (subscripted slice false o i) (λr s₃=>wpAny ↑38 A (letTemporaryGo value o r>>=λ_=>pure r) Q E s₃) E s₂:=by
  rw [hs o i];exact wpAny_operating (wpAny_mono h₂ (λr s₃ h₃=>wpAny_bind (wpAny_letTemporaryGo (wpAny_pure h₃))) λ_ _ x=>x)
 first
  |exact wpAny_pure (wpAny_bind fin)
  |exact wpAny_bind (wpAny_pure (wpAny_bind fin))
  |exact wpAny_bind fin
theorem xQ {X:Cx}{pins:List ↑20}{σ:St}{H:Hp}{s:Shared}{a:Addr}{y:V}{o:Option V}(I:aL X pins σ H s)(g:fZ H a y o):s.TypeIs (.ref a) "dict":=by
 rcases g with ⟨kvs,k,e,_,_⟩|⟨kvs,k,b,e,_,_,_⟩
 ·obtain ⟨_,_,vs,_,dd⟩:=Ai I.hok e;exact dd.typeIs
 ·obtain ⟨_,_,xs,_,dd⟩:=Ah I.hok e;exact dd.typeIs
def Lv (td ty:TE):TE:=λσ H Q=>td σ H λx H1=>ty σ H1 λy H2=>∃a v,x= .ref a/\fZ H2 a y (some v)/\Q v H2
def N4 (ty td:TE):TE:=λσ H Q=>ty σ H λy H1=>td σ H1 λx H2=>∃a o,x= .ref a/\fZ H2 a y o/\Q (.bl o.isSome) H2
def Ly (td ty tv:TE):TS:=λD σ H=>tv σ H λv H1=>td σ H1 λx H2=>ty σ H2 λy H3=>∃a H4,x= .ref a/\pE H3 a y v H4/\D.nx σ H4
section
variable {X:Cx}{o i e value:Expr}{pos pos' tpos:Pos}{td ty tv:TE}
theorem bx (hu:X.A.units+1<cLine)(ho:PE X o td)(hi:PE X i ty)(hs:MQ i):PE X (.Subscript o i pos) (Lv td ty):=by
 intro pins s σ H Q I h;rwa[Fr PySem.F.slot_dict_getitem.lookup hs (b4 (ho pins s σ H _ I h) λu s1 ⟨x,H1,I1,rx,q1⟩=>b4 (hi pins s1 σ H1 _ I1 q1) λiv s2 ⟨y,H2,I2,ry,a,v,ex,g,q2⟩=> ?_)];subst ex;obtain rfl:u=Value.ref a:=rx;exact ⟨xQ I2 g,BE hu I2 g ry λw' s3 I3 rw'=>⟨v,H2,I3,rw',q2⟩⟩
theorem Jg (hu:X.A.units+1<cLine)(hi:PE X i ty)(ho:PE X o td):PC X .In i o (N4 ty td):=by
 intro pins s σ H Q I h;rwa[b4 (hi pins s σ H _ I h) λiv s1 ⟨y,H1,I1,ry,q1⟩=>b4 (ho pins s1 σ H1 _ I1 q1) λu s2 ⟨x,H2,I2,rx,a,ov,ex,g,q2⟩=> ?_];subst ex;obtain rfl:u=Value.ref a:=rx;exact OJ hu I2 g ry λs3 I3=>⟨.bl ov.isSome,H2,I3,rfl,q2⟩
theorem jb (hu:X.A.units+1<cLine)(ho:PE X o td)(hi:PE X i ty)(hv:PE X value tv)(hs:swapsWith value (some (.Subscript o i pos')) pos.line X.env=pure false):
 PS X (.Assign [.Subscript o i pos'] value pos) (Ly td ty tv):=by
 intro pins s σ H D I h;rwa[wpAny_Assign_Subscript (b4 (hv pins s σ H _ I h) λr s1 ⟨v,H1,I1,rv,q1⟩=>b4 (ho pins s1 σ H1 _ I1 q1) λu s2 ⟨x,H2,I2,rx,q2⟩=>b4 (hi pins s2 σ H2 _ I2 q2) λiv s3 ⟨y,H3,I3,ry,a,H4,ex,g,q3⟩=> ?_) hs];subst ex;obtain rfl:u=Value.ref a:=rx;exact BC hu I3 g ry rv λs4 I4=>⟨σ,H4,I4,q3⟩
end
theorem Et {P:Program}{w:World}{H:Hp}(h:Heap)(hb:sysModules<h.objs.size):bS P w H (h.push {cls:= .type "dict",data:= .dict #[]}) h.objs.size (.dK []):=
 ⟨Nat.zero_le _,beq_eq_false_iff_ne.mpr (Ne.symm (Nat.ne_of_lt hb)),[],.nil,Heap.DictOf.new h⟩
def yp:List (TE×TE)->St->Hp->(List (V×V)->Hp->Prop)->Prop
 |[],_,H,Q=>Q [] H
 |(tk,tv)::r,σ,H,Q=>tk σ H λx H1=>tv σ H1 λy H2=>yp r σ H2 λps H3=>Q ((x,y)::ps) H3
abbrev VV:List (V×V)->List (Value×Value)->Prop:=Paired λp q=>bp p.1 q.1/\bp p.2 q.2
def Nc (X:Cx)(pos:Pos)(keys:List (Option Expr))(values:List Expr)(trs:List (TE×TE)):Prop:=
 ∀(pins:List ↑20) (s:Shared) (σ:St) (H:Hp) (Q:List (V×V)->Hp->Prop),aL X pins σ H s->yp trs σ H Q->
  wpAny ↑9 X.A (evalPairs (pairTrees keys values X.env pos)) (λvs s'=>∃ps H',aL X pins σ H' s'/\VV ps vs/\Q ps H') X.xe s
theorem vQ {X:Cx}{pos:Pos}:Nc X pos [] [] []:=λpins s σ H Q I h=>pairTrees_nil_walk ⟨[],H,I,.nil,h⟩
theorem fV {X:Cx}{pos:Pos}{k v:Expr}{ks:List (Option Expr)}{vs:List Expr}{tk tv:TE}{trs:List (TE×TE)}(hk:PE X k tk)(hv:PE X v tv)(hr:Nc X pos ks vs trs):
 Nc X pos (some k::ks) (v::vs) ((tk,tv)::trs):=λpins s σ H Q I h=>
 pairTrees_cons_walk (b4 (hk pins s σ H _ I h) λu s1 ⟨x,H1,I1,rx,q1⟩=>b4 (hv pins s1 σ H1 _ I1 q1) λw2 s2 ⟨y,H2,I2,ry,q2⟩=>
  b4 (hr pins s2 σ H2 _ I2 q2) λws s3 ⟨ps,H3,I3,rel,q3⟩=>⟨(x,y)::ps,H3,I3,.cons ⟨rx,ry⟩ rel,q3⟩)
def bR (kvs more:List (cX×V)):List (cX×V):=more.foldl (λacc kv=>cK acc kv.1 kv.2) kvs
theorem KV.merge:∀ {more:List (cX×V)} {rs:List (cX×Value)} {kvs:List (cX×V)} {vs:List (cX×Value)},KV more rs->KV kvs vs->KV (bR kvs more) (merged vs rs):=by
 intro more rs kvs vs r;unfold KV at r
 induction r generalizing kvs vs with
 |nil=>intro q;exact q
 | @cons p q ps qs h t ih=>
   intro r0
   have e:KV (cK kvs p.1 p.2) (stored vs q.1 q.2):=by
    have:=r0.put p.1 h.2;rw [<-h.1];exact this
   exact ih e
theorem ij:∀(more kvs:List (cX×V)),(bR kvs more).length<=kvs.length+more.length
 |[],kvs=>by show kvs.length<=kvs.length+0;omega
 |p::r,kvs=>by
  have h1:=ij r (cK kvs p.1 p.2);have h2:=dQ kvs p.1 p.2;show (bR (cK kvs p.1 p.2) r).length<=_;rw [List.length_cons];omega
theorem sL {P:Program}{w:World}:∀ {kvs:List (cX×V)} {ws:List (Value×Value)},VV (kvs.map λkv=>(kV kv.1,kv.2)) ws->∃rs,Carries (cN P w) ws rs/\KV kvs rs
 |[],_,r=>by rw [List.map_nil] at r;cases r;exact ⟨[],True.intro,.nil⟩
 |p::kvs,_,r=>by
  rw [List.map_cons] at r
  cases r with
  | @cons a b as bs h t=>
    obtain ⟨rs,c,q⟩:=sL (P:=P) (w:=w) t;obtain ⟨b1,b2⟩:=b;exact ⟨(p.1,b2)::rs,⟨uz h.1,rfl,c⟩,.cons ⟨rfl,h.2⟩ q⟩
def Lu (trs:List (TE×TE)):TE:=λσ H Q=>∀p,H p=none->yp trs σ (upd H p (.dK [])) λps H2=>H2 p=some (.dK [])/\∃kvs:List (cX×V),ps=kvs.map (λkv=>(kV kv.1,kv.2))/\kvs.length<=15/\Q (.ref p) (upd H2 p (.dK (bR [] kvs)))
theorem vT {X:Cx}{pos:Pos}{keys:List (Option Expr)}{values:List Expr}{trs:List (TE×TE)}(h:Nc X pos keys values trs)(hall:keys.all (·.isSome)=true)(hl:keys.length=values.length)(h0:keys≠[])
(h15:keys.length<=15):PE X (.Dict keys values pos) (Lu trs):=by
 intro pins s σ H Q I q;have hn:=I.hok.fresh (Nat.le_refl s.heap.objs.size);have I1:=I.laid (a:=s.heap.objs.size) (o:= .dK []) (h':=s.heap.push {cls:= .type "dict",data:= .dict #[]}) (t':=s.toks) (λ_ _ q=>Heap.get?_push_of_some _ q) ↑15 (Et s.heap I.big);rwa[wpAny_Dict_walk (knd:=cN X.prog X.w) hall hl h0 h15 (b4 (h pins _ σ _ _ I1 (q _ hn)) λws s2 ⟨ps,H2,I2,rel,e,kvs,ep,lk,q2⟩=> ?_)];subst ep;obtain ⟨rs,c,rk⟩:=sL (P:=X.prog) (w:=X.w) rel;obtain ⟨z,hd,vs0,r0,dd⟩:=Es I2.hok e;cases r0;rwa[⟨rs,c,dd,λh' dd' hs=>⟨.ref s.heap.objs.size,_,?_,rfl,q2⟩⟩]
 have hz:(bR [] kvs).length<=sizeLine:=by
  have h1:=ij kvs [];rw [List.length_nil] at h1;rw [sizeLine_eq];omega
 have he:∃q,h'.get? s.heap.objs.size=some q:=let ⟨q,_,_,hq,_⟩:=dd';⟨q,hq⟩;exact qt I2 (by rw [e];exact True.intro) hs he (wx hz hd (rk.merge .nil) dd')
structure M1 (X:Cx)(o:Expr)(m:Str)(apos:Pos)(e:Expr)(cpos:Pos):Prop where
 base:attributeBase o m X.env (eval o X.env)=eval o X.env
 few:((backTo cpos (starEach [e] X.env)).all (λx=> !x.1)&&(backToKw cpos (keywordEach [] X.env)).all (λx=>x.1.isSome)
  &&decide (([e]:List Expr).length+([]:List Keyword).length+(if ([]:List Keyword).isEmpty then 0 else 1)<30))=true
 line:(apos.endLine==cpos.line)=true
 trees:backTo cpos (starEach [e] X.env)=[(false,eval e X.env)]
structure M2 (X:Cx)(o:Expr)(m:Str)(apos:Pos)(e f:Expr)(cpos:Pos):Prop where
 base:attributeBase o m X.env (eval o X.env)=eval o X.env
 few:((backTo cpos (starEach [e,f] X.env)).all (λx=> !x.1)&&(backToKw cpos (keywordEach [] X.env)).all (λx=>x.1.isSome)
  &&decide (([e,f]:List Expr).length+([]:List Keyword).length+(if ([]:List Keyword).isEmpty then 0 else 1)<30))=true
 line:(apos.endLine==cpos.line)=true
 trees:backTo cpos (starEach [e,f] X.env)=[(false,eval e X.env),(false,eval f X.env)]
end L2
namespace PySem
namespace F
theorem lk_list_keys:typeLookup (.type "list") "keys"=pure none:=by rw [typeLookup_type,builtinLookup_eq_fast];kernel_rfl
theorem lk_list_hook:typeLookup (.type "list") "__getattr__"=pure none:=by rw [typeLookup_type,builtinLookup_eq_fast];kernel_rfl
theorem sub_attr_attr:isSubtype (.type "AttributeError") (.type "AttributeError")=pure true:=by rw [isSubtype_type];kernel_rfl
theorem attr_first:((Manifest.find? "AttributeError").elim false λt=>t.mro.contains "StopIteration"||t.mro.contains "SystemExit")=false:=by decide+kernel
end F
section
variable {α:Type}{prog:Program}{w:World}{A:Around}{E:Value->Shared->Prop}{s:Shared}
theorem Bi {e:Addr}{o name:Value}{vs:Array Value}{dct:Option Addr}{sl:Array (Option Value)}{Q:Unit->Shared->Prop}(he:s.heap.get? e=some ⟨.type "AttributeError",dct,.fields vs,sl⟩)(h6:vs[6]? =some unsetMember)(h7:vs[7]? =some unsetMember)
(hq:Q () {s with heap:=s.heap.update e (Obj.mapFields λvs=>vs.extract 0 6++ #[name,o])}):wpAny ↑38 A (noteAttr (.ref e) o name) Q E s:=by
 have hT:s.TypeIs (.ref e) "AttributeError":=⟨_,he,rfl⟩;unfold noteAttr lacksNameAndObj;rwa[wpAny_bind ?_];rwa[wpAny_bind (wpAny_isInstance hT F.sub_attr_attr ?_)];simp only [Bool.not_true,Bool.false_eq_true,if_false];rwa[wpAny_bind (wpAny_load he ?_)];simp only [h6,h7];have e1:unsetMember=Value.int 0 0:=rfl;rw [e1];simp only [Bool.or_self,Bool.false_eq_true,if_false];rw [if_neg ↑1];rwa[wpAny_pure ?_];simp only [if_true];rwa[wpAny_bind (wpAny_rule ?_)];rwa[wpAny_bind (wpAny_typeOf hT ?_)];exact wpAny_layMembers he rfl hq
theorem y7 {o:Value}{name msg:Str}{Q:α->Shared->Prop}(hh:A.handled=none)(hm:msg.length<=sizeLine)(hq:∀e h' t',(∀b ob,s.heap.get? b=some ob->h'.get? b=some ob)->(∃ob,h'.get? e=some ob/\ob.cls= .type "AttributeError")->E (.ref e) {s with heap:=h',toks:=t'}):
 wpAny ↑38 A (raiseAttrError o name msg:Sem α) Q E s:=by
 unfold raiseAttrError;rwa[wpAny_bind (wpAny_mkStr ?_ hm)];rwa[wpAny_bind ?_];unfold newExc newTuple;rwa[wpAny_bind (wpAny_newObj_type ?_ (by show (1:Nat)<=sizeLine;exact L2.bB ↑1))];rwa[wpAny_bind (m:=firstArgMember _ _) (wpAny_of_eq (a:=Value.none) (by simp only [firstArgMember,F.attr_first];rfl) ?_)];rwa[wpAny_newObj_type ?_];rwa[wpAny_bind (wpAny_mkText ?_)];rwa[wpAny_bind ?_];generalize hh1:(s.heap.push {cls:= .type "tuple",data:= .seq #[Value.str msg s.toks]})=h1
 have k1:∀b ob,s.heap.get? b=some ob->h1.get? b=some ob:=λb ob z=>by rw [<-hh1];exact Heap.get?_push_of_some _ z
 show wpAny ↑38 A (noteAttr (.ref h1.objs.size) o _) _ _ {s with heap:=h1.push {cls:= .type "AttributeError",data:= .fields #[Value.ref s.heap.objs.size,.none,.none,.none,.bool false,.none,unsetMember,unsetMember]},toks:=s.toks+1+1};rwa[Bi (vs:= #[Value.ref s.heap.objs.size,.none,.none,.none,.bool false,.none,unsetMember,unsetMember]) (Heap.get?_push_size _ rfl) rfl rfl ?_];rwa[wpAny_raiseNew_none hh ?_];have s1:=Heap.SameBut.update (h1.push {cls:= .type "AttributeError",data:= .fields #[Value.ref s.heap.objs.size,.none,.none,.none,.bool false,.none,unsetMember,unsetMember]}) h1.objs.size (Obj.mapFields λvs=>vs.extract 0 6++ #[Value.str name (s.toks+1),o]);rwa[hq h1.objs.size _ _ (λb ob z=> ?_) ?_]
 ·rw [s1.2 b (Nat.ne_of_lt (Heap.lt_size (k1 b ob z)))];exact Heap.get?_push_of_some _ (k1 b ob z)
 ·exact ⟨_,Heap.get?_update_self _ (Heap.get?_push_size _ rfl) rfl,rfl⟩
end
section
variable {prog:Program}{w:World}{A:Around}{E:Value->Shared->Prop}{h:Heap}{g:Array GenState}{d:Drawn}{t:Nat}{os:OsState}{a:Addr}{its:Array Value}{n:Nat}{sl:Array (Option Value)}
theorem p9 {tk:Tok}{Q:Fin->Shared->Prop}(hh:A.handled=none)(hx:h.get? a=some ⟨.type "list",none,.seq its n,sl⟩)(hq:∀e h' t',(∀b ob,h.get? b=some ob->h'.get? b=some ob)->(∃ob,h'.get? e=some ob/\ob.cls= .type "AttributeError")->E (.ref e) ⟨h',g,d,t',os⟩):
 wpAny ↑38 A (Builtin.«object.__getattribute__» ⟨[.ref a,.str "keys" tk],[]⟩) Q E ⟨h,g,d,t,os⟩:=by
 have hT:(⟨h,g,d,t,os⟩:Shared).TypeIs (.ref a) "list":=⟨_,hx,rfl⟩;have f4:=F.lk_list_keys
 repeat (any_goals (first|assumption|with_reducible refine y7 hh ?_ ?_|wp_step))
 all_goals first|exact L2.bB ↑26|exact hq
theorem rP {tk:Tok}{R:Result->Shared->Prop}(hh:A.handled=none)(hx:h.get? a=some ⟨.type "list",none,.seq its n,sl⟩)(hq:∀e h' t',(∀b ob,h.get? b=some ob->h'.get? b=some ob)->(∃ob,h'.get? e=some ob/\ob.cls= .type "AttributeError")->R (.error (.ref e)) ⟨h',g,d,t',os⟩):
 codeAny ↑38 A (.call (.builtin "list.__getattribute__") ⟨[.ref a,.str "keys" tk],[]⟩) R ⟨h,g,d,t,os⟩:=
 codeAny_call_builtin F.slot_list_getattribute.plain F.entry_list_ga (F.slot_list_getattribute.check _ _ _ _ _ _ _ _ (show (⟨h,g,d,t,os⟩:Shared).TypeIs (.ref a) "list" from ⟨_,hx,rfl⟩) (F.args_list_getattribute_2 _ _) (p9 hh hx hq))
theorem rQ {Q:Option Value->Shared->Prop}(hh:A.handled=none)(hx:h.get? a=some ⟨.type "list",none,.seq its n,sl⟩)(hq:∀h' t',(∀b ob,h.get? b=some ob->h'.get? b=some ob)->Q none ⟨h',g,d,t',os⟩):wpAny ↑38 A (getAttr? (.ref a) "keys") Q E ⟨h,g,d,t,os⟩:=by
 have hT:(⟨h,g,d,t,os⟩:Shared).TypeIs (.ref a) "list":=⟨_,hx,rfl⟩;have f2:=F.slot_list_getattribute.lookup;have f3:=F.slot_list_getattribute.bind (.ref a);have f5:=F.lk_list_hook;unfold getAttr? getAttrBy?
 repeat (any_goals (first|assumption|wp_step))
 rwa[rP hh hx (λe h' t' k x=> ?_)];have hE:(⟨h',g,d,t',os⟩:Shared).TypeIs (.ref e) "AttributeError":=x;have sb:=F.sub_attr_attr;have z:=hq h' t' k;show wpAny _ _ (getattributeRaised _ _ _ _ _ _ _) _ _ _;unfold getattributeRaised;rwa[wpAny_bind (wpAny_isInstance hE sb ?_)];simp only [if_true]
 have hk:hookBehind (.type "list") none=pure none:=by unfold hookBehind;rw [if_neg ↑1,f5]
 rwa[wpAny_bind ?_];show wpAny _ _ (hookBehind (.type "list") none) _ _ _;rw [hk];rwa[wpAny_pure ?_];unfold hookOrError attributeErrorLeaves;simp only [Bool.not_false,if_true];rwa[wpAny_throw ?_];rwa[wpAny_bind (wpAny_isInstance hE sb ?_)];simp only [if_true];exact wpAny_pure z
end
end PySem
namespace PySem
namespace F
theorem entry_dul:entryFor table "dict.update.loop"=some Builtin.«dict.update.loop»:=entryFor_of_tree ↑33
theorem plain_dul:plainId "dict.update.loop"=true:=by decide+kernel
end F
end PySem
namespace L2
open PySem PySem.Spec PyProof.Rows
def iL (kvs ps:List (cX×V)):List (cX×V):=ps.foldl (λa p=>cK a p.1 p.2) kvs
theorem GX {X:Cx}{pins:List ↑20}{σ:St}{l It dd:Addr}{xs:List V}{R:Result->Shared->Prop}{A:Around}(hh:A.handled=none)
(hI0:X.s₀.heap.objs.size<=It)(hpI:∀p∈X.pn++pins,p.1≠It):
 ∀(r j:Nat) (s:Shared) (H:Hp) (kvs ps:List (cX×V)) (t:Tok) (oI:Obj),xs.length - j=r->j<=xs.length->
  aL X ((It,oI)::pins) σ H s->H l=some (.lst xs)->s.heap.IsListIter It l j->H dd=some (.dK kvs)->Paired (λx (p:cX×V)=>∃b,x=V.ref b/\H b=some (.tup [kV p.1,p.2])) (xs.drop j) ps->kvs.length+ps.length<sizeLine->
  (∀s',aL X pins σ (upd H dd (.dK (iL kvs ps))) s'->R (.ok (.ret .none)) s')->
  codeAny ↑9 A (.builtin "dict.update.loop" ⟨[.ref dd,.ref It,.int j t,.none],[]⟩) R s:=by
 intro r
 induction r with
 |zero=>
  intro j s H kvs ps t oI hr hj I hl hit hd hp hz hR
  have ej:j=xs.length:=by omega
  subst ej;rw [List.drop_length] at hp;cases hp;obtain ⟨us,rus,hls⟩:=v6 I hl
  have hsz:us.toArray.size=xs.length:=by rw [List.size_toArray,rus.length]
  have nI:=I.pin (It,oI) (List.mem_append_right _ (.head _))
  have hlI:l≠It:=λz=>by have:=nI.2.1;rw [<-z,hl] at this;cases this
  have W:=Walks.list (prog:=X.prog) (w:=X.w) (A:=A.in1) hh It l hlI us.toArray;rwa[codeAny_builtin PySem.F.entry_dul ?_];rw [Around.under_plainId PySem.F.plain_dul _];show wpAny _ A.in1 (pyNext (.ref It)>>=_) _ _ _;rwa[wpAny_bind (W.done _ _ _ ⟨by rw [hsz];exact hit,hls⟩ λh1 tk1 hk1=> ?_)];have hk1:∀b u,b≠It->s.heap.get? b=some u->h1.get? b=some u:=λb u n e=>hk1 b u (by simpa using n) e;have I0:aL X pins σ H s:=I.sub λp hp=> .tail _ hp
  have cne:∀x c,X.env.cells.lookup x=some c->c≠It:=λx c e z=>by
   obtain ⟨v,oc,h1,h2⟩:=I.cell x c e;rw [z,nI.1] at h1;cases h1;exact nI.2.2.2.2 v h2
  have I1:aL X pins σ H {s with heap:=h1,toks:=tk1}:=I0.turned (it:=It) hk1 nI.2.1 nI.2.2.1 (.inr hI0) cne hpI
  have eH:upd H dd (.dK (iL kvs []))=H:=by
   funext b
   unfold upd iL;split
   ·rename_i e;rw [e,hd];rfl
   ·rfl
  rw [eH] at hR;exact wpAny_bind (wpAny_pure (wpAny_pure (hR _ I1)))
 |succ r ih=>
  intro j s H kvs ps t oI hr hj I hl hit hd hp hz hR
  have hlt:j<xs.length:=by omega
  obtain ⟨us,rus,hls⟩:=v6 I hl
  have hsz:us.toArray.size=xs.length:=by rw [List.size_toArray,rus.length]
  have nI:=I.pin (It,oI) (List.mem_append_right _ (.head _))
  have hlI:l≠It:=λz=>by have:=nI.2.1;rw [<-z,hl] at this;cases this
  have W:=Walks.list (prog:=X.prog) (w:=X.w) (A:=A.in1) hh It l hlI us.toArray;rw [List.drop_eq_getElem_cons hlt] at hp
  obtain ⟨p0,ps',rfl,⟨b,eb,hb⟩,hp'⟩:∃p0 ps',ps=p0::ps'/\(∃b,xs[j]=V.ref b/\H b=some (.tup [kV p0.1,p0.2]))/\Paired (λx (p:cX×V)=>∃b,x=V.ref b/\H b=some (.tup [kV p.1,p.2])) (xs.drop (j+1)) ps':=by
   cases hp with
   |cons a c=>exact ⟨_,_,rfl,a,c⟩
  rwa[codeAny_builtin PySem.F.entry_dul ?_];rw [Around.under_plainId PySem.F.plain_dul _];show wpAny _ A.in1 (pyNext (.ref It)>>=_) _ _ _;rwa[wpAny_bind (W.item j _ _ _ (by rw [hsz];exact hlt) ⟨hit,hls⟩ λu h1 tk1 hP hst1 hk1=> ?_)]
  have hu:us[j]? =some u:=by simpa using hP
  have ru:bp (V.ref b) u:=by
   obtain ⟨u',hu',ru⟩:=rus.get (show xs[j]? =some (V.ref b) by rw [List.getElem?_eq_getElem hlt,eb]);rw [hu] at hu';cases hu';exact ru
  cases (show u=Value.ref b from ru);obtain ⟨oI1,hoI1,hoc,hod⟩:=id hst1.1;have hk1:∀b u,b≠It->s.heap.get? b=some u->h1.get? b=some u:=λb u n e=>hk1 b u (by simpa using n) e
  have I1:aL X ((It,oI1)::pins) σ H {s with heap:=h1,toks:=tk1}:=
   I.repin (t':=tk1) hI0 hpI hk1 hoI1 λv e=>by rw [hod] at e;cases e
  obtain ⟨its,rit,ht,hz'⟩:=I1.tuple (aK.of hb)
  obtain ⟨ku,vu,eits,rk,rv⟩:∃ku vu,its=[ku,vu]/\bp (kV p0.1) ku/\bp p0.2 vu:=by
   cases rit with|cons a t1=>cases t1 with|cons b t2=>cases t2;exact ⟨_,_,rfl,a,b⟩
  subst eits;show wpAny _ A.in1 (holding [Value.ref b] _>>=_) _ _ _;rwa[wpAny_bind (wpAny_holding ?_)];rwa[wpAny_bind (wpAny_tryCatch ?_)];unfold Builtin.Dict.pairItems;rwa[wpAny_bind (wpAny_typeOf ht.typeIs ?_)];rw [if_pos ↑1];obtain ⟨ot,hot,hoc',nt,hdt⟩:=id ht;rwa[wpAny_bind (wpAny_seqItems hot hdt (wpAny_pure ?_))];show wpAny _ A.in1 (holding [ku,vu] (dictSet dd ku vu)) _ _ _;rwa[wpAny_holding ?_];obtain ⟨zk,hdn,vs,rel,dd'⟩:=Es I1.hok hd
  have hz2:vs.length<=sizeLine:=by rw [<-rel.length];exact zk
  have hl2:(cK kvs p0.1 p0.2).length<=sizeLine:=by have:=dQ kvs p0.1 p0.2;rw [List.length_cons] at hz;omega
  rwa[wpAny_dictSet_pairs (hsz:=hz2) (uz rk) dd' λh2 dd2 hs2=> ?_];have he:∃q,h2.get? dd=some q:=let ⟨q,_,_,hq,_⟩:=dd2;⟨q,hq⟩;have I2:=qt (t':=tk1+1) I1 (by rw [hd];exact True.intro) hs2 he (wx hl2 hdn (rel.put p0.1 rv) dd2);have nI2:=I2.pin (It,oI1) (List.mem_append_right _ (.head _))
  have ldd:l≠dd:=λz=>by rw [z,hd] at hl;cases hl
  rwa[wpAny_pure ⟨plainId_quiet PySem.F.plain_dul _,?_⟩];rwa[ih (j+1) _ (upd H dd (.dK (cK kvs p0.1 p0.2))) (cK kvs p0.1 p0.2) ps' _ oI1 ↑5 ↑5 I2 (by rw [am ldd];exact hl) ⟨oI1,nI2.1,hoc,hod⟩ aj (Paired.imp' (λx p ⟨c,ec,hc⟩=>⟨c,ec,by rw [am (λz=>by rw [z,hd] at hc;cases hc)];exact hc⟩) hp') ?_ ?_]
  ·have:=dQ kvs p0.1 p0.2;rw [List.length_cons] at hz;omega
  ·intro s' I';rw [zS] at I';exact hR s' I'
def Hy (l:Addr)(H:Hp)(Q:VK):Prop:=∃(xs:List V) (ps:List (cX×V)),H l=some (.lst xs)/\Paired (λx (p:cX×V)=>∃b,x=V.ref b/\H b=some (.tup [kV p.1,p.2])) xs ps/\ps.length<sizeLine/\∀d,H d=none->Q (.ref d) (upd H d (.dK (iL [] ps)))
theorem BD {X:Cx}{pins:List ↑20}{σ:St}{H:Hp}{s:Shared}{l:Addr}{Q:VK}(hh:X.A.handled=none)(I:aL X pins σ H s)(hP:Hy l H Q){E:Value->Shared->Prop}:
 wpAny ↑9 X.A (call (.type "dict") [.ref l]) (EP X pins σ Q) E s:=by
 obtain ⟨xs,ps,hl,hp,hz,q⟩:=hP;rwa[callType_codes (Q₁:=λobj s₁=>obj= .ref s.heap.objs.size/\s₁= {s with heap:=s.heap.push {cls:= .type "dict",data:= .dict #[]}}) PySem.F.kt_called_dict (PySem.F.kt_typeCall_dict_1 _) PySem.F.entry_dict_init (kt_code_dict_new _ ⟨rfl,rfl⟩) ?_];rintro obj s₁ ⟨rfl,rfl⟩;generalize hd:s.heap.objs.size=dd
 have nd:H dd=none:=by rw [<-hd];exact I.hok.fresh ↑15
 have hnew:(s.heap.push {cls:= .type "dict",data:= .dict #[]}).DictOf (cN X.prog X.w) dd []:=by rw [<-hd];exact Heap.DictOf.new s.heap
 have I1:aL X pins σ (upd H dd (.dK [])) {s with heap:=s.heap.push {cls:= .type "dict",data:= .dict #[]}}:=by
  have z:=I.laid (a:=s.heap.objs.size) (o:= .dK []) (t':=s.toks) (h':=s.heap.push {cls:= .type "dict",data:= .dict #[]}) (λb q hq=>Heap.get?_push_of_some _ hq) ↑15 (wx (Nat.zero_le _) (beq_eq_false_iff_ne.mpr (Ne.symm (Nat.ne_of_lt I.big))) .nil (Heap.DictOf.new s.heap));rw [hd] at z;exact z
 rwa[⟨hnew.typeIs,PySem.F.args_dict_init_2 _ _,?_⟩];unfold Builtin.«dict.__init__»;rwa[wpAny_bind ?_];unfold Builtin.Dict.selfAndRest;rwa[wpAny_bind (wpAny_notOrdered_dict hnew.typeIs ?_)];show wpAny _ _ (pure (dd,[Value.ref l])) _ _ _;rwa[wpAny_pure ?_];show wpAny _ _ (Builtin.Dict.updateFrom "dict.__init__" dd (.ref l) [] .none) _ _ _;unfold Builtin.Dict.updateFrom
 have ldd:l≠dd:=λz=>by rw [z,nd] at hl;cases hl
 have hl1:upd H dd (.dK []) l=some (.lst xs):=by rw [am ldd];exact hl
 obtain ⟨_,us,n,rus,hls⟩:=(show bS X.prog X.w _ _ l (.lst xs) from I1.hok l _ hl1);have hTl:({s with heap:=s.heap.push {cls:= .type "dict",data:= .dict #[]}}:Shared).TypeIs (.ref l) "list":=⟨_,hls,rfl⟩;rwa[wpAny_bind (wpAny_typeOf hTl ?_)];rw [if_pos ↑1];rwa[wpAny_bind (rQ (by exact hh) hls λh' t' k=> ?_)];rw [if_pos (show (none:Option Value).isNone=true from rfl)];rwa[wpAny_bind (wpAny_rule ?_)];have I2:aL X pins σ (upd H dd (.dK [])) {s with heap:=h',toks:=t'}:=I1.kept (t':=t') k;obtain ⟨us2,rus2,hls2⟩:=v6 I2 hl1;rwa[wpAny_bind (wpAny_pyIter_list hls2 ?_)]
 have I3:aL X ((h'.objs.size,{cls:= .type "list_iterator",data:= .fields #[.ref l,.int 0 0]})::pins) σ (upd H dd (.dK [])) {s with heap:=h'.push {cls:= .type "list_iterator",data:= .fields #[.ref l,.int 0 0]},toks:=t'}:=
  I2.pinNew (t':=t') (a:=h'.objs.size) ↑15 (λb u e=>Heap.get?_push_of_some _ e) (Heap.get?_push_size _ rfl) λv e=>by cases e
 rwa[wpAny_pure ⟨plainId_quiet PySem.F.plain_dul _,?_⟩];rwa[GX (A:=X.A.in1) (xs:=xs) (l:=l) (It:=h'.objs.size) (dd:=dd) hh I2.sz (λp hp=>Nat.ne_of_lt (Heap.lt_size (I2.pin p hp).1)) _ 0 _ (upd H dd (.dK [])) [] ps _ _ rfl (Nat.zero_le _) I3 hl1 ⟨_,Heap.get?_push_size _ rfl,rfl,rfl⟩ aj ?_ ?_ ?_]
 ·exact Paired.imp' (λx p ⟨c,ec,hc⟩=>⟨c,ec,by rw [am (λz=>by rw [z,nd] at hc;cases hc)];exact hc⟩) hp
 ·rw [List.length_nil,Nat.zero_add];exact hz
 ·intro s' I';rw [zS] at I';exact ⟨rfl,V.ref dd,_,I',rfl,q dd nd⟩
def Iq:List V->Hp->VK->Prop:=λxs H Q=>match xs with|[.ref l]=>Hy l H Q|_=>False
theorem Ff {X:Cx}(hc:X.calm=true):b3 X (.type "dict") Iq:=by
 intro pins s σ H xs us Q I r h
 match xs,h,r with
 |[.ref l],h,r=>
  cases r with
  |cons a t=>
   cases t;cases (show _=Value.ref l from a);exact BD (I.ok.hd hc) I h
open PySem.Calls PySem.W
section
variable {X:Cx}{K:Fg}
def IG (K:Fg)(a:Addr)(H:Hp)(Q:VK):Prop:=∃ns:List Int,aN K H a (ns.map V.int)/\Q (.int ns.sum) H
def Nx (K:Fg):List V->Hp->VK->Prop:=λxs H Q=>match xs with|[.ref a]=>IG K a H Q|_=>False
theorem He (hK:X.K=K)(hc:X.calm=true):b3 X (.builtin "sum") (Nx K):=by
 subst hK;intro pins s σ H xs us Q I r h
 match xs,h with
 |[.ref a],h=>
  obtain ⟨ns,hq,q⟩:=h;obtain ⟨u,rfl,rx⟩:=pG r;have rx:u=Value.ref a:=rx;subst rx;obtain ⟨its,rv,pl,hz⟩:=I.list hq;have hi:=GH rv;obtain ⟨ys,hx⟩:=hi.allInts.items;have hl':s.heap.IsList a (intItems ys):=hx▸pl.isList;rwa[sum_intListG (I.ok.hd hc) hl' λh' tk t' hk=> ?_]
  have e1:ns=ys.toList.map (·.1):=by
   rw [<-nums_intItems,<-hx];exact (show numsOf its.toArray.toList=ns from hi.numsOf).symm
  have e2:preSum (numAt ys) ys.size=ns.sum:=by
   rw [preSum_eq,List.take_of_length_le ↑27,e1]
  rw [e2];exact ⟨.int ns.sum,H,I.kept hk,⟨_,rfl⟩,q⟩
theorem Hm {a:Addr}{ns:List Int}{H:Hp}{Q:VK}(h:aN K H a (ns.map V.int))(g:Q (.int ns.sum) H):IG K a H Q:=⟨ns,h,g⟩
end
theorem FO {X:Cx}{o e:Expr}{es:List Expr}{to:TE}{t:TA}{m:Str}{apos pos:Pos}{n k:Nat}(hx:X.xe=λ_ _=>False)(hr:dH k X.A)(hn:n<=k)(ho:PE X o to)(ha:PA X (e::es) t)(hb:fW o=true:=by rfl)(hp:bd (e::es)=true:=by rfl)(hl:(e::es).length<29:=by decide)
(hline:(apos.endLine==pos.line)=true:=by rfl):PX X (.Call (.Attribute o m apos) (e::es) [] pos) (λE=>Hi X.prog X.w X.K X.mg X.base (nK X.prog X.w) n m E to t):=by
 have h':(b5 e&&bd es)=true:=hp;rw [Bool.and_eq_true] at h';intro E pins s σ H Q I h;rwa[oF hb hp hl hline (b4 (Ao hx (ho pins s σ H _ I h)) λu s1 ⟨x,H1,I1,rx,q⟩=> ?_)]
 match x,q with
 | .ref a,⟨C,dx,fs,sp,ea,l,c,q⟩=>
   obtain rfl:u=Value.ref a:=rx;obtain ⟨f,fd,ps,cl,hm,F,b⟩:=c.ex;rwa[r9 I1 ea cl hm l ?_];rwa[W.callWith_K (first:=[.ref a]) (h₀:=X.base) I.ok.mod.kin hm.kp (b4 (Ao hx (ha pos pins s1 σ H1 _ I1 q)) λus s2 ⟨vs,H2,I2,r,q2⟩=>⟨I2.kIn,?_⟩) (bq h'.1) (bT h'.2)];exact FH (us:= .ref a::us) (vs:= .ref a::vs) (F.mono hn) hr b I2 (.cons rfl r) (by rw [List.append_nil];exact q2)
def Ad (K:Fg)(a:Addr)(c:V)(H:Hp)(Q:VK):Prop:=j5 K a c H Q\/∃xs cv b,aK K H a xs/\cV c=some cv/\W.kitOne K (.type "tuple") cv=some b/\Q (.bl b) H
def Lc (K:Fg):List V->Hp->VK->Prop:=λxs H Q=>match xs with
 |[.ref a,c]=>Ad K a c H Q
 |xs=>Ck K xs H Q
theorem D8 {K:Fg}{H:Hp}{a:Addr}{c:V}{xs:List V}{cv:Value}{b:Bool}{Q:VK}(h:aK K H a xs)(h1:cV c=some cv)(h3:W.kitOne K (.type "tuple") cv=some b)(g:Q (.bl b) H):Ad K a c H Q:= .inr ⟨xs,cv,b,h,h1,h3,g⟩
theorem D9 {K:Fg}{H:Hp}{a:Addr}{c:V}{cv t:Value}{b:Bool}{Q:VK}(h1:cV c=some cv)(h2:jC K H (.ref a) t)(h3:W.kitOne K t cv=some b)(g:Q (.bl b) H):Ad K a c H Q:= .inl (wa h1 h2 h3 g)
theorem kE {X:Cx}{K:Fg}(hK:X.K=K):b3 X (.builtin "isinstance") (Lc K):=by
 intro pins s σ H xs us Q I r h;have old:Ck K xs H Q->wpAny ↑9 X.A (call (.builtin "isinstance") us) (EP X pins σ Q) X.xe s:=λh=>eh hK pins s σ H xs us Q I r h
 match xs,h with
 |[.ref a,c],h=>
  rcases h with h|⟨ys,cv,b,e,hc,hk,q⟩
  ·exact old h
  ·subst hK;obtain ⟨u,w',rfl,r1,r2⟩:=wW r;cases ED hc r2;obtain rfl:u=Value.ref a:=r1;obtain ⟨its,_,p,_⟩:=I.tuple e;obtain ⟨o,h1,h2,_⟩:=p;exact W.kia_one W.kitx_tuple I.kIn ⟨o,h1,h2⟩ hk (λz=>nomatch z) λtk=>⟨.bl b,H,I.tok _,rfl,q⟩
 |[],h=>exact old h
 |[.non],h=>exact old h
 |[.bl _],h=>exact old h
 |[.int _],h=>exact old h
 |[.str _],h=>exact old h
 |[.byt _],h=>exact old h
 |[.flt _],h=>exact old h
 |[.ty _],h=>exact old h
 |[.ref _],h=>exact old h
 |[.non,c],h=>exact old h
 |[.bl _,c],h=>exact old h
 |[.int _,c],h=>exact old h
 |[.str _,c],h=>exact old h
 |[.byt _,c],h=>exact old h
 |[.flt _,c],h=>exact old h
 |[.ty _,c],h=>exact old h
 |x::y::z::r,h=>exact old (by cases x<;>exact h)
theorem uL {K:Fg}{a:Addr}{xs:List V}{pk:List (Option Nat)}{g:TG}{tt:TT}{te:TE}{σ:St}{H:Hp}{Q:VK}(h:aN K H a xs\/aK K H a xs)(Pv:Nat->List V->Hp->Prop)(hn:xs.length<=sizeLine)(hlen:∀i ys H,Pv i ys H->ys.length<=i)(h0:Pv 0 [] H)(hx:∀i ys H',i<=xs.length->Pv i ys H'->ar H H')
(hs:∀i x ys H,xs[i]? =some x->Pv i ys H->g x (eU pk σ) H λσ2 H2=>wL (eU pk σ) σ2/\tt σ2 H2 λb H3=>if b=true then te σ2 H3 λv H4=>Pv (i+1) (ys++[v]) H4 else Pv (i+1) ys H3)
(hd:∀ys H,Pv (xs.length) ys H->∀p,H p=none->Q (.ref p) (upd H p (.lst ys))):
 rT K a H (λJ H1=>wy J pk g tt te σ H1 Q):=
 J6 h (λhL=>bZ Pv hn hlen h0 (λi ys H' hi p=>(hx i ys H' hi p).seq hL) hs hd) (λhT=>ck Pv hn hlen h0 (λi ys H' hi p=>(hx i ys H' hi p).seqT hT) hs hd)
theorem Ij {c:TT}{tb:TS}{D:k7}{σ:St}{H:Hp}(W:Nat->St->Hp->Prop)(h0:∃m,W m σ H)(hs:∀m σ H,W m σ H->c σ H λb H1=>rY b (∃N:St->Hp->Prop,(∀σ' H',N σ' H'->∃m',m'<m/\W m' σ' H')/\tb {D with nx:=N,ct:=N,bk:=D.nx} σ H1) (D.nx σ H1)):uX c tb D σ H:=⟨W,h0,hs⟩
theorem qf.imp {P:Program}{w:World}{K:Frag}{mg:Str->Option Value}{base:Heap}{n m:Nat}{f:Addr}{sp sp':Sp}(c:qf P w K mg base n f sp)(hn:n<=m)(h:∀vs H Q E,sp' vs H Q E->sp vs H Q E):qf P w K mg base m f sp':=
 ⟨λA outer s H us vs Q E hr e0 r g=>c.run A outer s H us vs Q E (hr.mono hn) e0 r (h _ _ _ _ g),λvs H Q E hp g=>c.keep vs H Q E hp (h _ _ _ _ g)⟩
def NF (K:Frag)(x:Str)(st:Stmt)(f:Addr):Prop:=nsIn K mainGlobals x=some (some (.ref f))/\∃fd,bY K x x st f fd
def MF (K:Frag)(C:Addr)(x q:Str)(st:Stmt)(f:Addr):Prop:=ER K C x f/\∃fd,bY K x q st f fd
theorem L7 {K:Frag}{x:Str}{st:Stmt}{f:Addr}{oc:Value}{od an:Option Addr}{osl:Array (Option Value)}{kV doc pm cdv ct:Value}(a:nsIn K mainGlobals x=some (some (.ref f)))(l:K.lookup f=some ⟨oc,od,.func (fnOf x x (hZ st) (fQ st) (ap st) .none kV doc pm an cdv ct),osl⟩)(c:codeIn K cdv x=true)(k:keepIn K (.ref f)=true):NF K x st f:=⟨a,_,Eh l c k⟩
theorem Ma {K:Frag}{C:Addr}{x q:Str}{st:Stmt}{f:Addr}{oc:Value}{od an:Option Addr}{osl:Array (Option Value)}{kV doc pm cdv ct:Value}(a:findIn K (.ref C) x=some (some (.ref f)))(l:K.lookup f=some ⟨oc,od,.func (fnOf x q (hZ st) (fQ st) (ap st) .none kV doc pm an cdv ct),osl⟩)(c:codeIn K cdv q=true)(k:keepIn K (.ref f)=true)(n:isFn K (.ref f)=true):MF K C x q st f:=⟨⟨a,n,k⟩,_,Eh l c k⟩
structure qe (P:Program)(w:World)(K:Frag)(mg:Str->Option Value)(base:Heap)(h:Heap):Prop where
 X:K.In h
 G:h.Ns mainGlobals mg
def BA (x q:Str)(st:Stmt)(us:List Value)(ps:List Str):Prop:=∀(kV doc pm:Value) (an:Option Addr) (cdv ct:Value),bindArgs (fnOf x q (hZ st) (fQ st) (ap st) .none kV doc pm an cdv ct) ⟨us,[]⟩=pure (ps.zip us)
def KD (x q:Str)(st:Stmt)(ps0:List Str):List Str->List Value->Prop
 |[],us=>BA x q st us ps0
 |_::ps,us=>∀a,KD x q st ps0 ps (us++[a])
def BN (x q:Str)(st:Stmt)(ps:List Str):Prop:=KD x q st ps ps []
theorem KD.all {x q:Str}{st:Stmt}{ps0:List Str}:∀ {ps:List Str} {us vs:List Value},KD x q st ps0 ps us->vs.length=ps.length->BA x q st (us++vs) ps0
 |[],us,[],h,_=>by rw [List.append_nil];exact h
 |_::ps,us,v::vs,h,hl=>by
  have z:=KD.all (h v) (Nat.succ.inj hl);rw [List.append_assoc] at z;exact z
theorem BN.all {x q:Str}{st:Stmt}{ps:List Str}(h:BN x q st ps)(us:List Value)(hl:us.length=ps.length):BA x q st us ps:=KD.all (us:=[]) h hl
section
variable {P:Program}{w:World}{K:Frag}{mg:Str->Option Value}{base h:Heap}{x q:Str}{st:Stmt}{f C:Addr}{fd:FuncData}{ps:List Str}{n:Nat}{sp:Sp}
theorem bY.bn (F:bY K x q st f fd)(b:BN x q st ps):gd K fd ps []:=F.binds λkV doc pm an cdv ct us hl=>b.all us hl kV doc pm an cdv ct
theorem qe.gl (T:qe P w K mg base h){v:Value}(a:nsIn K mainGlobals x=some (some v)):mg x=some v:=mg_of T.X T.G a
theorem qe.no (T:qe P w K mg base h)(a:nsIn K mainGlobals x=some none):mg x=none:=mg_none_of T.X T.G a
theorem qe.ok {CX:qw}(T:qe P w K mg base h)(o:aQ P w K mg base CX n f fd ps sp):aQ P w K mg base CX n f fd ps sp:=o
theorem qe.cal (T:qe P w K mg base h)(a:nsIn K mainGlobals x=some (some (.ref f)))(F:bY K x x st f fd)(o:aQ P w K mg base b8 n f fd ps sp)(b:BN x x st ps:=by (repeat intro _);rfl):bO P w K mg base n x ps sp:=⟨_,_,o,F.bn b,F.kp,T.gl a⟩
theorem qe.calX (T:qe P w K mg base h)(a:nsIn K mainGlobals x=some (some (.ref f)))(F:bY K x x st f fd)(o:aQ P w K mg base (nK P w) n f fd ps sp)(b:BN x x st ps:=by (repeat intro _);rfl):yd P w K mg base n x ps sp:=⟨_,_,o,F.bn b,F.kp,T.gl a⟩
theorem Ol {CX:qw}(F:bY K x q st f fd)(c:ua K C)(m:ER K C x f)(o:aQ P w K mg base CX n f fd ps sp)(b:BN x q st ps:=by (repeat intro _);rfl):pD P w K mg base CX n x C sp:=⟨_,_,_,c,m,o,F.bn b⟩
theorem qe.mkc {CX:qw}{y:Str}(T:qe P w K mg base h)(F:bY K x q st f fd)(m:Mk K C f)(g:mg y=some (.ref C))(o:aQ P w K mg base CX n f fd ps sp)(b:BN x q st ps:=by (repeat intro _);rfl):nJ P w K mg base CX n y C sp:=⟨_,_,_,m,o,F.bn b,g⟩
theorem qe.xmk {y fld:Str}(T:qe P w K mg base h)(F:bY K x q st f fd)(m:XI K C f)(g:mg y=some (.ref C))(o:aQ P w K mg base b8 n f fd ps (yq C fld))(b:BN x q st ps:=by (repeat intro _);rfl):Kz P w K mg base n y C fld:=⟨_,_,_,m,o,F.bn b,g⟩
theorem qe.cal' (T:qe P w K mg base h)(a:NF K x st f)(o:∀ {fd},bY K x x st f fd->aQ P w K mg base b8 n f fd ps sp)(b:BN x x st ps:=by (repeat intro _);rfl):bO P w K mg base n x ps sp:=let ⟨a,_,F⟩:=a;T.cal a F (o F) b
theorem qe.calX' (T:qe P w K mg base h)(a:NF K x st f)(o:∀ {fd},bY K x x st f fd->aQ P w K mg base (nK P w) n f fd ps sp)(b:BN x x st ps:=by (repeat intro _);rfl):yd P w K mg base n x ps sp:=let ⟨a,_,F⟩:=a;T.calX a F (o F) b
theorem qe.mcal' {D:Addr}{CX:qw}(T:qe P w K mg base h)(a:MF K D x q st f)(c:ua K C)(m:ER K C x f)(o:∀ {fd},bY K x q st f fd->aQ P w K mg base CX n f fd ps sp)(b:BN x q st ps:=by (repeat intro _);rfl):pD P w K mg base CX n x C sp:=let ⟨_,_,F⟩:=a;Ol F c m (o F) b
theorem qe.mkc' {D:Addr}{CX:qw}{y:Str}(T:qe P w K mg base h)(a:MF K D x q st f)(m:Mk K C f)(g:mg y=some (.ref C))(o:∀ {fd},bY K x q st f fd->aQ P w K mg base CX n f fd ps sp)(b:BN x q st ps:=by (repeat intro _);rfl):nJ P w K mg base CX n y C sp:=let ⟨_,_,F⟩:=a;T.mkc F m g (o F) b
theorem qe.xmk' {D:Addr}{y fld:Str}(T:qe P w K mg base h)(a:MF K D x q st f)(m:XI K C f)(g:mg y=some (.ref C))(o:∀ {fd},bY K x q st f fd->aQ P w K mg base b8 n f fd ps (yq C fld))(b:BN x q st ps:=by (repeat intro _);rfl):Kz P w K mg base n y C fld:=let ⟨_,_,F⟩:=a;T.xmk F m g (o F) b
theorem bY.law {y:Str}(F:bY K x q st f fd)(b:BN x q st [y]:=by (repeat intro _);rfl)(s:Shared)(v:Value):BindsTo s fd ⟨[v],[]⟩ [(y,v)]:=by
 obtain ⟨oc,od,kV,doc,pm,an,cdv,ct,osl,rfl,lk,hcd⟩:=F.ex;exact .of_eq (b v kV doc pm an cdv ct)
end
theorem Ph {p:Prop}(h:p):p:=h
end L2
namespace My
open PySem L2 PyProof.Rows
theorem Ar (a b:Nat):Builtin.bitAnd (a:Int) (b:Int)=((a&&&b:Nat):Int):=by
 unfold Builtin.bitAnd;simp
theorem Dr (a b:Nat):Builtin.bitOr (a:Int) (b:Int)=((a|||b:Nat):Int):=by
 unfold Builtin.bitOr Builtin.bitAnd Builtin.bitNot
 have h1: ¬(0:Int)<= -(a:Int) - 1:=by omega
 have h2: ¬(0:Int)<= -(b:Int) - 1:=by omega
 simp only [h1,h2,decide_false]
 have e1:(-(-(a:Int) - 1) - 1).toNat=a:=by omega
 have e2:(-(-(b:Int) - 1) - 1).toNat=b:=by omega
 rw [e1,e2];omega
theorem testBit_and (M k:Nat):decide (M&&&2^k=0)= !M.testBit k:=by
 have e:(M&&&2^k).testBit k=M.testBit k:=by rw [Nat.testBit_and,Nat.testBit_two_pow_self,Bool.and_true]
 cases h:M.testBit k with
 |true=>
  rw [h] at e;rwa[decide_eq_false λz=> ?_];rw [z] at e;simp at e
 |false=>
  rwa[decide_eq_true (Nat.eq_of_testBit_eq λi=> ?_)];rw [Nat.testBit_and,Nat.zero_testBit];by_cases hi:k=i
  ·subst hi;rw [h];rfl
  ·rw [Nat.testBit_two_pow_of_ne hi,Bool.and_false]
def lx (M n:Nat):List Nat:=(List.range n).filter λi=>M.testBit i
theorem mG (M n:Nat):lx M (n+1)=lx M n++if M.testBit n then [n] else []:=by
 unfold lx;rw [List.range_succ,List.filter_append];congr 1;cases h:M.testBit n<;>simp [h]
theorem uv {M n i:Nat}:i∈lx M n↔i<n/\M.testBit i=true:=by
 unfold lx;rw [List.mem_filter,List.mem_range]
def L (M:Nat):Nat:=Builtin.Int.intBits (M:Int)
theorem ES (M:Nat):L M=if M=0 then 0 else M.log2+1:=by
 unfold L Builtin.Int.intBits;by_cases h:M=0
 ·subst h;rfl
 ·have:((M:Int)==0)=false:=beq_eq_false_iff_ne.mpr ↑5;rw [this,if_neg h];simp
theorem MU (M:Nat):M<2^L M:=by
 rw [ES];split
 ·rename_i h;subst h;decide
 ·exact Nat.lt_log2_self
theorem MV {M n:Nat}(h:M<2^n):L M<=n:=by
 rw [ES];split
 ·omega
 ·rename_i h0;have:=(Nat.log2_lt h0).mpr h;omega
theorem zT {M:Nat}(h:M≠0):M.testBit (L M - 1)=true:=by
 rw [ES,if_neg h];have h1:=Nat.log2_self_le h;have h2:=Nat.lt_log2_self (n:=M);rw [Nat.add_sub_cancel,Nat.testBit_eq_decide_div_mod_eq];rwa[decide_eq_true ?_]
 have e:M / 2^M.log2=1:=by
  rwa[Nat.div_eq_of_lt_le ↑5 ?_];rw [Nat.pow_succ] at h2;omega
 rw [e]
def k6 (M:Nat):List Nat:=lx M (L M)
theorem m4 {M i:Nat}:i∈k6 M↔M.testBit i=true:=by
 unfold k6;rw [uv];rwa[⟨λh=>h.2,λh=>⟨?_,h⟩⟩];rwa[Nat.lt_of_not_le λhle=> ?_];have:=Nat.testBit_lt_two_pow (Nat.lt_of_lt_of_le (MU M) (Nat.pow_le_pow_right ↑1 hle));rw [this] at h;cases h
theorem Ap {M n i:Nat}(h:M<2^n)(hi:i∈k6 M):i<n:=by
 have:=(uv.mp hi).1;have:=MV h;omega
theorem BT {M:Nat}(h:M≠0):∃l,k6 M=l++[L M - 1]:=by
 have hL:L M=(L M - 1)+1:=by
  have:=ES M;rw [if_neg h] at this;omega
 rwa[⟨lx M (L M - 1),?_⟩]
 have e:k6 M=lx M ((L M - 1)+1):=by rw [<-hL];rfl
 rw [e,mG,zT h];rfl
theorem EE {M:Nat}:k6 M=[]↔M=0:=by
 constructor
 ·intro h;rwa[Classical.byContradiction λhM=> ?_];obtain ⟨l,e⟩:=BT hM;rw [h] at e;simp at e
 ·rintro rfl;rfl
def pO (ks:List Nat):Nat:=ks.foldl (λacc k=>acc|||2^k) 0
theorem rG:∀(ks:List Nat) (acc i:Nat),(ks.foldl (λacc k=>acc|||2^k) acc).testBit i=(acc.testBit i||decide (i∈ks))
 |[],acc,i=>by simp
 |k::ks,acc,i=>by
  rw [List.foldl_cons,rG ks,Nat.testBit_or];by_cases h:k=i
  ·subst h;simp [Nat.testBit_two_pow_self]
  ·rw [Nat.testBit_two_pow_of_ne h];have h': ¬i=k:=λz=>h z.symm;simp [h']
end My
namespace L2
open PySem PySem.Spec PyProof.Rows
def bc (H H':Hp):Prop:=∀b o,(∀xs,o≠ .lst xs)->(∀C dx fs,o≠ .ins C dx fs)->H b=some o->H' b=some o
theorem bc.refl (H:Hp):bc H H:=λ_ _ _ _ e=>e
theorem bc.trans {H H1 H2:Hp}(a:bc H H1)(b:bc H1 H2):bc H H2:=λc o n1 n2 e=>b c o n1 n2 (a c o n1 n2 e)
theorem ar.st {H H':Hp}(s:ar H H'):bc H H':=λb o _ _ e=>s b o e
theorem bc.updL {H:Hp}{a:Addr}{xs:List V}{o:HO}(h:H a=some (.lst xs)):bc H (upd H a o):=λb u n1 _ e=>by
 rw [am (λz=>by rw [z,h] at e;cases e;exact n1 _ rfl)];exact e
theorem bc.updI {H:Hp}{a C dx:Addr}{fs:List (Str×V)}{o:HO}(h:H a=some (.ins C dx fs)):bc H (upd H a o):=λb u _ n2 e=>by
 rw [am (λz=>by rw [z,h] at e;cases e;exact n2 _ _ _ rfl)];exact e
theorem bc.tup {H H':Hp}(s:bc H H'){a:Addr}{xs:List V}(h:H a=some (.tup xs)):H' a=some (.tup xs):=s a _ (λ_ z=>by cases z) (λ_ _ _ z=>by cases z) h
theorem bc.sqT {K:Fg}{H H':Hp}(s:bc H H'){a:Addr}{xs:List V}(h:aK K H a xs):aK K H' a xs:=by
 rcases h with (h|⟨u,h⟩)|h
 ·exact .inl (.inl (s.tup h))
 ·exact .inl (.inr ⟨u,s _ _ (λ_ z=>by cases z) (λ_ _ _ z=>by cases z) h⟩)
 ·exact .inr h
theorem bc.den {K:Fg}{H H':Hp}(s:bc H H'){x:V}{d:D}(h:cI K H x d)(hn:L2.noL d=true):cI K H' x d:=by
 induction h with
 |non=>exact .non
 |bl b=>exact .bl b
 |int i=>exact .int i
 |str z=>exact .str z
 |lst h hl hi ih=>rw [L2.noL] at hn;cases hn
 |tup h hl hi ih=>
  rw [L2.noL] at hn;exact .tup (s.sqT h) hl λi x d h1 h2=>ih i x d h1 h2 (gO hn h2)
theorem bc.dens {K:Fg}{H H':Hp}(s:bc H H'){xs:List V}{ds:List D}(h:aO K H xs ds)(hn:noLs ds=true):aO K H' xs ds:=
 PySem.Paired.of h.len λi x d h1 h2=>by
  obtain ⟨e,h3,r⟩:=h.get1 h1;rw [h2] at h3;cases h3;exact s.den r (gO hn h2)
theorem none_of {H H':Hp}(s:ar H H'){a:Addr}(h:H' a=none):H a=none:=by
 cases y:H a with
 |none=>rfl
 |some o=>rw [s _ _ y] at h;cases h
theorem rL {a b:List D}(h1:noLs a=true)(h2:noLs b=true):noLs (a++b)=true:=by
 induction a with
 |nil=>exact h2
 |cons d a ih=>
  rw [noLs,Bool.and_eq_true] at h1;rw [List.cons_append,noLs,h1.1,ih h1.2];rfl
theorem jc {α β:Type}{R:α->β->Prop}{xs:List α}{ys:List β}{i:Nat}{x:α}{y:β}(h:Paired R xs ys)(r:R x y):Paired R (xs.set i x) (ys.set i y):=by
 have hl:=h.len;rwa[PySem.Paired.of (by simp [hl]) λj a b e1 e2=> ?_];by_cases hj:i=j
 ·subst hj
  have hi:i<xs.length:=by
   have:=(List.getElem?_eq_some_iff.mp e1).1;rwa [List.length_set] at this
  rw [List.getElem?_set_self hi] at e1;rw [List.getElem?_set_self ↑5] at e2;cases e1;cases e2;exact r
 ·rw [List.getElem?_set_ne hj] at e1 e2;obtain ⟨b',h2,z⟩:=h.get1 e1;rw [e2] at h2;cases h2;exact z
end L2
namespace My
open PySem L2 PyProof.Rows
seal PE PT PS tK PA PI PG EQ E2 PW PO d8 KA b3 BY Au HM EO
seal rY lJ qR vg G1 ui mm qQ pK Ab G2 G5 xF Cr rT setL Cn zD wy uX wN BV zR pI Ek Fp uG
seal BI j5 zx L2.pU L2.putAt L2.v0 jV GO ji DZ Nb zG G3
seal Gz
def cJ (i:Nat):Stmt:=PySem.Challenge.pw_liftcourt_k34_deeds_done.main.body.getD i (.Pass ⟨0,0,0,0⟩)
abbrev IT:Stmt:=cJ 2
theorem Lx:ay ["k"] ["k"] (ap IT):=↑0
abbrev IS:Stmt:=cJ 3
theorem Lw:ay ["mask","k"] ["mask","k"] (ap IS):=↑0
abbrev q8:Stmt:=cJ 4
theorem AD:ay ["mask","k"] ["mask","k"] (ap q8):=↑0
abbrev qZ:Stmt:=cJ 5
theorem AC:ay ["mask","k"] ["mask","k"] (ap qZ):=↑0
abbrev y4:Stmt:=cJ 6
theorem FF:ay ["mask","k"] ["mask","k"] (ap y4):=↑0
abbrev y6:Stmt:=cJ 7
theorem FG:ay ["mask","k"] ["mask","k"] (ap y6):=↑0
abbrev vv:Stmt:=cJ 8
theorem mV:ay ["numbers","mask","k"] ["numbers"] (ap vv):=↑0
abbrev vx:Stmt:=cJ 9
theorem CN:ay ["mask"] ["mask"] (ap vx):=↑0
abbrev vw:Stmt:=cJ 10
theorem xn:ay ["mask","numbers"] ["mask"] (ap vw):=↑0
abbrev rh:Stmt:=cJ 11
theorem AG:ay ["mask"] ["mask"] (ap rh):=↑0
abbrev rn:Stmt:=cJ 13
theorem AH:ay ["cabin"] ["cabin"] (ap rn):=↑0
abbrev ja:Stmt:=cJ 14
theorem tQ:ay ["cabin"] ["cabin"] (ap ja):=↑0
abbrev yP:Stmt:=cJ 15
theorem FA:ay ["start","goal"] ["start","goal"] (ap yP):=↑0
abbrev rb:Stmt:=cJ 16
theorem uj:ay ["room","cabin","riders","goals"] ["room","cabin","riders"] (ap rb):=↑0
abbrev lX:Stmt:=cJ 17
theorem pM:ay ["floor","light","riders","ways"] ["floor","light","riders"] (ap lX):=↑0
abbrev vH:Stmt:=cJ 18
theorem qX:ay ["sort","cabin","tasks","riders","floor","light"] ["sort","cabin","tasks","riders"] (ap vH):=↑0
abbrev C1:Stmt:=cJ 19
theorem lK:ay ["sort","room","cabin","riders","floor","tasks","next_up","next_down","up","down"] ["sort","room","cabin","riders"] (ap C1):=↑0
abbrev vp:Stmt:=cJ 20
theorem qS:ay ["sort","cabin","word","goals","light"] ["sort","cabin","word"] (ap vp):=↑0
abbrev rz:Stmt:=cJ 21
theorem AJ:ay ["floors","cabin","word"] ["floors","cabin","word"] (ap rz):=↑0
abbrev iY:Stmt:=cJ 22
theorem tO:ay ["cabin","place","light","door"] ["cabin","place","light","door"] (ap iY):=↑0
abbrev rc:Stmt:=cJ 23
theorem iA:ay ["sort","floors","turns","cabin","word","place","light","door","done"] ["sort","floors","turns","cabin","word"] (ap rc):=↑0
abbrev lU:Stmt:=cJ 24
theorem xk:ay ["sort","light","start","goal"] ["sort","light","start","goal"] (ap lU):=↑0
abbrev lY:Stmt:=cJ 25
theorem b9:ay ["sort","room","cabin","riders","floor","light","outs","ins","aboard","tag","start","goal","lift"] ["sort","room","cabin","riders"] (ap lY):=↑0
abbrev lS:Stmt:=cJ 42
theorem xj:ay ["house","floor"] ["house","floor"] (ap lS):=↑0
abbrev oa:Stmt:=cJ 43
theorem yK:ay ["house","lift"] ["house","lift"] (ap oa):=↑0
abbrev nZ:Stmt:=cJ 44
theorem yJ:ay ["house","start","goal"] ["house","start","goal"] (ap nZ):=↑0
abbrev og:Stmt:=cJ 45
theorem yL:ay ["house","deed"] ["house","deed"] (ap og):=↑0
abbrev vI:Stmt:=cJ 50
theorem CU:ay ["kind","turns"] ["kind","turns"] (ap vI):=↑0
abbrev vt:Stmt:=cJ 52
theorem CM:ay ["house","lift"] ["house","lift"] (ap vt):=↑0
abbrev q9:Stmt:=cJ 53
theorem AE:ay ["house","lift"] ["house","lift"] (ap q9):=↑0
abbrev vF:Stmt:=cJ 54
theorem CS:ay ["house","lift"] ["house","lift"] (ap vF):=↑0
abbrev re:Stmt:=cJ 59
theorem AF:ay ["moment"] ["moment"] (ap re):=↑0
abbrev vq:Stmt:=cJ 60
theorem gJ:ay ["state","tags","place","light","door","marks","aboard"] ["state"] (ap vq):=↑0
abbrev lT:Stmt:=cJ 61
theorem jM:ay ["house","state","deeds","taken","deed"] ["house","state","deeds"] (ap lT):=↑0
abbrev vL:Stmt:=cJ 62
theorem CW:ay ["moment","tag","start","goal","key"] ["moment","tag","start","goal","key"] (ap vL):=↑0
abbrev rp:Stmt:=cJ 63
theorem AI:ay ["rider","lift"] ["rider","lift"] (ap rp):=↑0
abbrev lN:Stmt:=cJ 64
theorem xf:ay ["cabin","marks"] ["cabin","marks"] (ap lN):=↑0
abbrev rf:Stmt:=cJ 65
theorem uk:ay ["moment","lift","mark","cabin"] ["moment","lift","mark"] (ap rf):=↑0
abbrev oh:Stmt:=cJ 66
theorem qU:ay ["moment","lift","mark","cabin"] ["moment","lift","mark"] (ap oh):=↑0
abbrev vJ:Stmt:=cJ 67
theorem CV:ay ["moment"] ["moment"] (ap vJ):=↑0
abbrev vG:Stmt:=cJ 68
theorem CT:ay ["cabin"] ["cabin"] (ap vG):=↑0
abbrev vM:Stmt:=cJ 69
theorem CY:ay ["moment"] ["moment"] (ap vM):=↑0
abbrev vK:Stmt:=cJ 70
theorem xt:ay ["moment","deed","name"] ["moment","deed"] (ap vK):=↑0
abbrev C4:Stmt:=cJ 71
theorem CZ:ay ["moment","dealer","place","rider","told"] ["moment","dealer","place","rider"] (ap C4):=↑0
abbrev rq:Stmt:=cJ 72
theorem nW:ay ["moment","dealer","place","rider"] ["moment","dealer"] (ap rq):=↑0
abbrev oj:Stmt:=cJ 73
theorem qV:ay ["moment","word","tags","lift","floor"] ["moment","word","tags","lift"] (ap oj):=↑0
abbrev lR:Stmt:=cJ 74
theorem jL:ay ["moment","lift","cabin","outs"] ["moment","lift"] (ap lR):=↑0
abbrev oo:Stmt:=cJ 75
theorem lM:ay ["moment","lift","cabin","count"] ["moment","lift"] (ap oo):=↑0
abbrev ou:Stmt:=cJ 76
theorem dP:ay ["moment","lift","riders","house","told","cabin","outs","ins","door","count"] ["moment","lift","riders"] (ap ou):=↑0
abbrev oq:Stmt:=cJ 77
theorem iX:ay ["moment","rule","lift","riders","house","cabin","word"] ["moment","rule","lift","riders"] (ap oq):=↑0
abbrev gK:Stmt:=cJ 78
theorem gh:ay ["moment","rule","lift","cabin","riders"] ["moment","rule","lift"] (ap gK):=↑0
abbrev N8:Stmt:=cJ 79
theorem N7:ay ["moment","rule","lift"] ["moment","rule","lift"] (ap N8):=↑0
abbrev ie:Stmt:=cJ 85
theorem qT:ay ["light","here","up","down"] ["light","here","up","down"] (ap ie):=↑0
abbrev yZ:Stmt:=cJ 89
theorem FE:ay ["_law_script","_law_k"] ["_law_script","_law_k"] (ap yZ):=↑0
abbrev yU:Stmt:=cJ 90
theorem FC:ay ["_law_script","_law_k","_law_prime","_law_many"] ["_law_script","_law_k","_law_prime","_law_many"] (ap yU):=↑0
abbrev vC:Stmt:=cJ 91
theorem xo:ay ["_law_script","_law_k","_law_most","_law_mixed"] ["_law_script","_law_k","_law_most"] (ap vC):=↑0
abbrev vy:Stmt:=cJ 92
theorem CO:ay ["_law_thing"] ["_law_thing"] (ap vy):=↑0
abbrev C2:Stmt:=cJ 93
theorem CP:ay ["_law_script","_law_number","_law_far"] ["_law_script","_law_number"] (ap C2):=↑0
abbrev yS:Stmt:=cJ 94
theorem vm:ay ["_law_script","_law_at","_law_floors","_law_kind","_law_start"] ["_law_script","_law_at","_law_floors"] (ap yS):=↑0
abbrev vB:Stmt:=cJ 95
theorem iC:ay ["_law_script","_law_most","_law_floors","_law_many","_law_locked","_law_sort"] ["_law_script","_law_most"] (ap vB):=↑0
abbrev vD:Stmt:=cJ 96
theorem xp:ay ["_law_house_here","_law_place","_law_light","_law_fire","_law_floors"] ["_law_house_here","_law_place","_law_light","_law_fire"] (ap vD):=↑0
abbrev vE:Stmt:=cJ 97
theorem c9:ay ["_law_script","_law_at","_law_house_here","_law_number","_law_fire","_law_lift_here","_law_place","_law_light","_law_count","_law_door","_law_marks","_law_goals_here","_law_aboard","_law_k","_law_goal"] ["_law_script","_law_at","_law_house_here","_law_number","_law_fire"] (ap vE):=↑0
abbrev vA:Stmt:=cJ 98
theorem qW:ay ["_law_script","_law_at","_law_house_here","_law_tag_here","_law_lifts","_law_start","_law_goal"] ["_law_script","_law_at","_law_house_here","_law_tag_here","_law_lifts"] (ap vA):=↑0
abbrev vz:Stmt:=cJ 99
theorem iB:ay ["_law_script","_law_house_here","_law_fire","_law_cabins","_law_lifts","_law_waiting","_law_k"] ["_law_script","_law_house_here","_law_fire"] (ap vz):=↑0
abbrev on:Stmt:=cJ 100
theorem yM:ay ["_law_script","_law_at"] ["_law_script","_law_at"] (ap on):=↑0
abbrev yQ:Stmt:=cJ 101
theorem vk:ay ["_law_log","_law_row","_law_number"] ["_law_log"] (ap yQ):=↑0
abbrev yR:Stmt:=cJ 102
theorem zY:ay ["_law_error","_law_names"] ["_law_error"] (ap yR):=↑0
abbrev yX:Stmt:=cJ 103
theorem qk:ay ["_law_cabins","_law_waiting","_law_rider_here","_law_last","_law_served","_law_mixed"] ["_law_cabins","_law_waiting","_law_rider_here","_law_last"] (ap yX):=↑0
abbrev yW:Stmt:=cJ 104
theorem eO:ay ["_law_script","_law_at","_law_house_here","_law_state_here","_law_way","_law_lift_here","_law_start","_law_goal","_law_tag_here","_law_odd","_law_known","_law_cabin_here"] ["_law_script","_law_at","_law_house_here","_law_state_here"] (ap yW):=↑0
abbrev C3:Stmt:=cJ 105
theorem CQ:ay ["_law_house_here","_law_deed_here","_law_known","_law_floor"] ["_law_house_here","_law_deed_here","_law_known"] (ap C3):=↑0
abbrev lV:Stmt:=cJ 106
theorem fU:ay ["_law_house_here","_law_state_here","_law_deeds","_law_known","_law_cabin_here","_law_k","_law_due_here"] ["_law_house_here","_law_state_here","_law_deeds"] (ap lV):=↑0
abbrev yY:Stmt:=cJ 107
theorem FD:ay ["_law_house_here","_law_kept_here","_law_deed_here"] ["_law_house_here","_law_kept_here","_law_deed_here"] (ap yY):=↑0
abbrev yV:Stmt:=cJ 108
theorem vn:ay ["_law_house_here","_law_kept_here","_law_cabins","_law_deed_here","_law_word","_law_good"] ["_law_house_here","_law_kept_here","_law_cabins","_law_deed_here"] (ap yV):=↑0
abbrev yT:Stmt:=cJ 109
theorem hJ:ay ["_law_house_here","_law_state_here","_law_deeds","_law_kept_here","_law_deed_here","_law_cabins","_law_k","_law_one","_law_told"] ["_law_house_here","_law_state_here","_law_deeds"] (ap yT):=↑0
abbrev ig:Stmt:=cJ 110
theorem dN:ay ["_law_told","_law_kept_here","_law_state_here","_law_many","_law_ins","_law_row"] ["_law_told","_law_kept_here"] (ap ig):=↑0
abbrev om:Stmt:=cJ 111
theorem iW:ay ["_law_court","_law_state_here","_law_deeds","_law_due_here","_law_error","e"] ["_law_court","_law_state_here","_law_deeds","_law_due_here"] (ap om):=↑0
abbrev IQ:Stmt:=cJ 112
theorem gx:ay ["_law_script","_law_house_here","_law_fire","_law_state_here","_law_cabins","_law_court","_law_count","_law_deeds","_law_bad","_law_handed","_law_kept_here","_law_told"] ["_law_script"] (ap IQ):=↑0
abbrev iZ:Stmt:=jz (cJ 36) 0
theorem tP:ay ["self","floor"] ["self","floor"] (ap iZ):=↑0
abbrev jN:Stmt:=jz (cJ 37) 0
theorem vi:ay ["self","lift"] ["self","lift"] (ap jN):=↑0
abbrev lO:Stmt:=jz (cJ 38) 0
theorem xg:ay ["self","tag"] ["self","tag"] (ap lO):=↑0
abbrev oy:Stmt:=jz (cJ 47) 0
theorem yO:ay ["self","turns"] ["self","turns"] (ap oy):=↑0
abbrev ow:Stmt:=jz (cJ 47) 1
theorem yN:ay ["self","count","blocked","stepped"] ["self","count","blocked","stepped"] (ap ow):=↑0
abbrev lW:Stmt:=jz (cJ 48) 0
theorem xq:ay ["self","count","blocked","stepped"] ["self","count","blocked","stepped"] (ap lW):=↑0
abbrev nY:Stmt:=jz (cJ 49) 0
theorem yI:ay ["self","count","blocked","stepped"] ["self","count","blocked","stepped"] (ap nY):=↑0
abbrev jO:Stmt:=jz (cJ 58) 0
theorem vj:ay ["self","house","state"] ["self","house","state"] (ap jO):=↑0
abbrev l6:Stmt:=jz (cJ 80) 0
theorem xu:ay ["self","house","rule","dealer"] ["self","house","rule","dealer"] (ap l6):=↑0
abbrev lZ:Stmt:=jz (cJ 80) 2
theorem hU:ay ["self","state","deeds","moment","deed","lift"] ["self","state","deeds"] (ap lZ):=↑0
abbrev lQ:Stmt:=jz (cJ 87) 0
theorem xi:ay ["self","letters"] ["self","letters"] (ap lQ):=↑0
abbrev lP:Stmt:=jz (cJ 87) 1
theorem xh:ay ["self","seen"] ["self","seen"] (ap lP):=↑0
section
variable {P:Program}{w:World}{K:Fg}{mg:Str->Option Value}{base:Heap}{f:Addr}{fd:FuncData}
theorem nL {n:Nat}(h:n<1000000):n<sizeLine:=by rw [sizeLine_eq];omega
def zM (K:Fg)(H:Hp)(a:Addr)(ns:List Int):Prop:=OQ K H a ns/\∀i∈ns,Builtin.Int.intBits i<=2^20
theorem zM.same {H H':Hp}{a:Addr}{ns:List Int}(h:zM K H a ns)(s:ar H H'):zM K H' a ns:=⟨⟨s.seq h.1.1,h.1.2⟩,h.2⟩
inductive qO (K:Fg)(vs:List V)(H:Hp)(Q:VK)(_e:XK):Prop
 |mk (a ns k:_) (_:vs=[.ref a,.int k]) (_:zM K H a ns) (_:0<=k) (_:∀i:Int,Builtin.Int.intBits i<=2^20->Q (.int i) H)
theorem Go (F:bY K "_law_cell" "_law_cell" yZ f fd)(bh:mg "len"=none):aQ P w K mg base b8 1 f fd ["_law_script","_law_k"] (qO K):=by
 rwa[F.ok FE ↑8 ↑2]
 ·obtain ⟨a,ns,k,rfl,_⟩:=h;rfl
 obtain ⟨a,ns,k,rfl,⟨⟨hS,h63⟩,hB⟩,k0,q⟩:=h;erw[⟨_,(af (aJ (az w_lt (wv 1) (ax ↑32 rfl bh PySem.boot_len (ac (wv 0) ae)) (au _)) (ag (aD (ak ↑4 (wv 0) (wv 1) ↑3))) aF) (ag (aD aa))),?_⟩];erw[cr hS ?_];rw [List.length_map];rwa[hV (λhl=> ?_) (λhl=> ?_)]
 ·ext;rwa[bi hS (tJ k0 hl) (q _ (hB _ ?_))]
  first|exact List.getElem_mem _|exact List.get_mem _ _|(rw [List.getD_eq_getElem?_getD,List.getElem?_eq_getElem ↑5];exact List.getElem_mem _)
 ·exact q 0 ↑1
inductive cq (K:Fg)(vs:List V)(H:Hp)(Q:VK)(_e:XK):Prop
 |mk (a ns k p m:_) (_:vs=[.ref a,.int k,.int p,.int m]) (_:zM K H a ns) (_:0<=k) (_:k<1000) (_:0<p) (_:0<m) (_:∀i:Int,0<=i->i<m->Q (.int i) H)
theorem LY (F:bY K "_law_draw" "_law_draw" yU f fd)(gD:bO P w K mg base 1 "_law_cell" ["_law_script","_law_k"] (qO K)):aQ P w K mg base b8 2 f fd ["_law_script","_law_k","_law_prime","_law_many"] (cq K):=by
 rwa[F.ok FC ↑8 ↑2]
 ·obtain ⟨a,ns,k,p,m,rfl,_⟩:=h;rfl
 obtain ⟨a,ns,k,p,m,rfl,hS,k0,k1,p0,m0,q⟩:=h;erw[⟨_,(ag (aD (aG iu (aG iu (aG ↑23 (aG ↑23 (aG fv (ao gD hr ↑1 rfl (ac (wv 0) ↑34)) aa) (aG fv (aG fv aa (wv 1)) (wv 1))) aa) (wv 2)) (wv 3)))),?_⟩];rwa[qO.mk _ _ _ rfl hS k0 λi hi=> ?_];rwa[⟨jl ↑1 ↑1,fJ ↑1 ↑1,jl ↑5 ↑5,by omega,by omega,?_⟩];exact q _ (Int.emod_nonneg _ ↑5) (Int.emod_lt_of_pos _ m0)
inductive II (K:Fg)(vs:List V)(H:Hp)(Q:VK)(_e:XK):Prop
 |mk (a ns k m:_) (_:vs=[.ref a,.int k,.int m]) (_:zM K H a ns) (_:0<=k) (_:k<1000) (_:0<=m) (_:∀i:Int,0<=i->i<=m->Q (.int i) H)
theorem LV (F:bY K "_law_great" "_law_great" vC f fd)(gD:bO P w K mg base 1 "_law_cell" ["_law_script","_law_k"] (qO K)):aQ P w K mg base b8 2 f fd ["_law_script","_law_k","_law_most"] (II K):=by
 rwa[F.ok xo ↑8 ↑2]
 ·obtain ⟨a,ns,k,m,rfl,_⟩:=h;rfl
 obtain ⟨a,ns,k,m,rfl,hS,k0,k1,m0,q⟩:=h;erw[⟨_,(af (aA (i:=3) xo.nd rfl ↑6 (aG ↑23 (aG ↑23 (aG uW (ao gD hr ↑1 rfl (ac (wv 0) ↑34)) aa) (aG uW (aG uW aa (wv 1)) (wv 1))) aa)) (ag (aD (aG iu (aG uW (wv 3) (aG Ce aa aa)) (aG ↑23 (wv 2) aa))))),?_⟩];rwa[qO.mk _ _ _ rfl hS k0 λi hi=> ?_];erw[⟨(jl ↑1 ↑1).ok,(fJ ↑1 ↑1).ok,(jl ↑5 ↑5).ok,?_⟩];erw[⟨xU ↑1 ↑1 ↑1,Ee hi k0 k1,?_⟩];rwa[⟨by omega,?_⟩];exact q _ (Int.emod_nonneg _ ↑5) (Int.le_of_lt_add_one (Int.emod_lt_of_pos _ ↑5))
inductive fN (vs:List V)(H:Hp)(Q:VK)(_e:XK):Prop
 |mk (i:Int) (_:vs=[.int i]) (_:Q (.bl true) H)
theorem Dx (F:bY K "_law_whole" "_law_whole" vy f fd)(aM:mg "isinstance"=none)(JM:mg "int"=none)(uw:mg "bool"=none):aQ P w K mg base b8 1 f fd ["_law_thing"] fN:=by
 rwa[F.ok CO ↑8 ↑2]
 ·obtain ⟨i,rfl,_⟩:=h;rfl
 obtain ⟨i,rfl,q⟩:=h;rwa[⟨_,(ag (aD (ib (ax (eh (K:=K) rfl) rfl aM boot_isinstance (ac (wv 0) (ac (gz (v:= .ty "int") rfl JM boot_int rfl) ae))) (jQ (B9 (K:=K) rfl (ax (eh (K:=K) rfl) rfl aM boot_isinstance (ac (wv 0) (ac (gz (v:= .ty "bool") rfl uw boot_bool rfl) ae)))))))),?_⟩];rwa[⟨rfl,bj rfl ⟨rfl,q⟩⟩]
inductive pJ (K:Fg)(vs:List V)(H:Hp)(Q:VK)(_e:XK):Prop
 |mk (a ns k:_) (_:vs=[.ref a,.int k]) (_:zM K H a ns) (_:0<=k) (_:k<1000) (_:∀i:Int,Q (.int i) H)
theorem Ju (F:bY K "_law_tag" "_law_tag" C2 f fd)(aE:bO P w K mg base 2 "_law_draw" ["_law_script","_law_k","_law_prime","_law_many"] (cq K))(my:bO P w K mg base 2 "_law_great" ["_law_script","_law_k","_law_most"] (II K)):aQ P w K mg base b8 3 f fd ["_law_script","_law_number"] (pJ K):=by
 rwa[F.ok CP ↑8 ↑2]
 ·obtain ⟨a,ns,k,rfl,_⟩:=h;rfl
 obtain ⟨a,ns,k,rfl,hS,k0,k1,q⟩:=h;erw[⟨_,(af (aA (i:=2) CP.nd rfl ↑6 (ao my hr ↑1 rfl (ac (wv 0) (ac aa (ac (aG Ce aa aa) ae))))) (af (aJ (az ↑10 ↑25 aa (au _)) (ag (aD (wv 1))) aF) (af (aJ (az ↑10 ↑25 aa (au _)) (ag (aD (aG ↑23 (aG fv (wv 2) aa) (wv 1)))) aF) (ag (aD (aG ↑23 (aG fv (wv 1) (aG Ce aa aa)) (wv 2))))))),?_⟩];erw[⟨xU ↑1 ↑1 ↑1,?_⟩];erw[II.mk _ _ _ _ rfl hS ↑1 ↑1 ↑1 λx x0 x1=> ?_];erw[cq.mk _ _ _ _ _ rfl hS ↑1 ↑1 ↑1 ↑1 λi i0 i1=> ?_];rwa[hV (λz=> ?_) (λz=> ?_)]
 ·exact q _
 ext;erw[cq.mk _ _ _ _ _ rfl hS ↑1 ↑1 ↑1 ↑1 λj j0 j1=> ?_];rwa[hV (λz=> ?_) (λz=> ?_)]
 ·ext;exact ⟨jl ↑1 ↑1,q _⟩
 ·ext;erw[⟨xU ↑1 ↑1 ↑1,?_⟩];exact ⟨fJ ↑5 ↑5,q _⟩
def vN (ks:List Nat):List V:=ks.map λk:Nat=>V.int (k:Int)
def LN:Option Nat->V
 |none=> .non
 |some n=> .int (n:Int)
theorem FR (n:Nat):(1:Int)*2^((n:Int)).toNat=((2^n:Nat):Int):=by rw [Int.toNat_natCast,Int.natCast_pow];simp
inductive mR (vs:List V)(H:Hp)(Q:VK)(_e:XK):Prop
 |mk (n:Nat) (_:vs=[.int (n:Int)]) (_:n<=1000) (_:Q (.int ((2^n:Nat):Int)) H)
theorem JF (F:bY K "bit" "bit" IT f fd):aQ P w K mg base b8 1 f fd ["k"] mR:=by
 rwa[F.ok Lx ↑8 ↑2]
 ·obtain ⟨i,rfl,_⟩:=h;rfl
 obtain ⟨n,rfl,hn,q⟩:=h;rwa[⟨_,(ag (aD (aG Hf aa (wv 0)))),?_⟩];rwa[⟨xU ↑5 ↑5 ↑1,?_⟩];rw [<-FR] at q;exact q
inductive gw (vs:List V)(H:Hp)(Q:VK)(_e:XK):Prop
 |mk (M n:Nat) (_:vs=[.int (M:Int),.int (n:Int)]) (_:n<=1000) (_:Q (.bl (M.testBit n)) H)
theorem JA (F:bY K "has" "has" IS f fd)(qd:bO P w K mg base 1 "bit" ["k"] mR):aQ P w K mg base b8 2 f fd ["mask","k"] gw:=by
 rwa[F.ok Lw ↑8 ↑2]
 ·obtain ⟨M,n,rfl,_⟩:=h;rfl
 obtain ⟨M,n,rfl,hn,q⟩:=h;rwa[⟨_,(ag (aD (ib (ce Fe (wv 1) aa (au _)) (jQ (ce (gv (K:=K) rfl hr) (aG Ci (wv 0) (ao qd hr ↑1 rfl ↑34)) aa (au _)))))),?_⟩];erw[j6 ↑5 ?_];rwa[mR.mk _ rfl hn ?_];show Q (.bl (!decide (Builtin.bitAnd (M:Int) ((2^n:Nat):Int)=0))) H;rw [Ar]
 have e:decide (((M&&&2^n:Nat):Int)=0)= !M.testBit n:=by
  rw [<-testBit_and];exact decide_eq_decide.mpr ↑5
 rw [e,Bool.not_not];exact q
inductive iU (vs:List V)(H:Hp)(Q:VK)(_e:XK):Prop
 |mk (M n:Nat) (_:vs=[.int (M:Int),.int (n:Int)]) (_:n<=1000) (_:Q (.int ((M|||2^n:Nat):Int)) H)
theorem Dv (F:bY K "with_bit" "with_bit" q8 f fd)(qd:bO P w K mg base 1 "bit" ["k"] mR):aQ P w K mg base b8 2 f fd ["mask","k"] iU:=by
 rwa[F.ok AD ↑8 ↑2]
 ·obtain ⟨M,n,rfl,_⟩:=h;rfl
 obtain ⟨M,n,rfl,hn,q⟩:=h;erw[⟨_,(ag (aD (aG KP (wv 0) (ao qd hr ↑1 rfl ↑34)))),?_⟩];rwa[mR.mk _ rfl hn ?_];rw [<-Dr] at q;exact q
inductive mT (vs:List V)(H:Hp)(Q:VK)(_e:XK):Prop
 |mk (M n:Nat) (_:vs=[.int (M:Int),.int (n:Int)]) (_:n<=1000) (_:Q (.int ((M% 2^n:Nat):Int)) H)
theorem DT (F:bY K "below" "below" y4 f fd)(qd:bO P w K mg base 1 "bit" ["k"] mR):aQ P w K mg base b8 2 f fd ["mask","k"] mT:=by
 rwa[F.ok FF ↑8 ↑2]
 ·obtain ⟨M,n,rfl,_⟩:=h;rfl
 obtain ⟨M,n,rfl,hn,q⟩:=h;rwa[⟨_,(af (aJ (az w_lt (wv 1) aa (au _)) (ag (aD aa)) aF) (ag (aD (aG iu (wv 0) (ao qd hr ↑1 rfl ↑34))))),?_⟩];erw[bz ↑5 ?_];rwa[mR.mk _ rfl hn ⟨?_,?_⟩]
 ·have:=Nat.two_pow_pos n;omega
 ·rw [Int.natCast_emod] at q;exact q
inductive ve (vs:List V)(H:Hp)(Q:VK)(_e:XK):Prop
 |mk (M n:Nat) (_:vs=[.int (M:Int),.int (n:Int)]) (_:n<1000) (_:Q (.int ((M - M% 2^(n+1):Nat):Int)) H)
theorem DV (F:bY K "above" "above" y6 f fd)(py:bO P w K mg base 2 "below" ["mask","k"] mT):aQ P w K mg base b8 3 f fd ["mask","k"] ve:=by
 rwa[F.ok FG ↑8 ↑2]
 ·obtain ⟨M,n,rfl,_⟩:=h;rfl
 obtain ⟨M,n,rfl,hn,q⟩:=h;erw[⟨_,(ag (aD (aG eX (wv 0) (ao py hr ↑1 rfl (ac (wv 0) (ac (aG ↑23 (wv 1) aa) ae)))))),?_⟩];rwa[mT.mk _ (n+1) rfl hn ?_]
 have e:((M - M% 2^(n+1):Nat):Int)=(M:Int) - ((M% 2^(n+1):Nat):Int):=by
  have:=Nat.mod_le M (2^(n+1));omega
 rw [e] at q;exact q
inductive mP (K:Fg)(vs:List V)(H:Hp)(Q:VK)(_e:XK):Prop
 |mk (p:Addr) (ks:List Nat) (_:vs=[.ref p]) (_:aN K H p (vN ks)) (_:(∀k∈ks,k<=1000)) (_:Q (.int (pO ks:Int)) H)
theorem Ir {ks:List Nat}{i:Nat}{x:V}(h:(vN ks)[i]? =some x):∃k,ks[i]? =some k/\x=V.int (k:Int):=by
 unfold vN at h;rw [List.getElem?_map] at h
 cases e:ks[i]? with
 |none=>rw [e] at h;cases h
 |some k=>rw [e] at h;exact ⟨k,rfl,(Option.some.inj h).symm⟩
theorem Cm (ks:List Nat):(vN ks).length=ks.length:=List.length_map _
theorem AY (F:bY K "mask_of" "mask_of" vv f fd)(d6:bO P w K mg base 2 "with_bit" ["mask","k"] iU):aQ P w K mg base b8 3 f fd ["numbers"] (mP K):=by
 rwa[F.ok mV ↑8 ↑2]
 ·obtain ⟨p,ks,rfl,_⟩:=h;rfl
 obtain ⟨p,ks,rfl,hS,hk,q⟩:=h;erw[⟨_,(af (aA (i:=1) mV.nd rfl ↑6 aa) (af (du PassesOwn.never rfl (bg (K:=K) rfl (wv 0)) (aC (i:=2) mV.nd rfl ↑6) (ag (aA (i:=1) mV.nd rfl ↑6 (ao d6 hr ↑1 rfl (ac (wv 1) (ac (wv 2) ae)))))) (ag (aD (wv 1))))),?_⟩];rwa[cW hS ?_];rwa[fH (xs:=vN ks) (λi σ H'=>H'=H/\∃o,σ=[some (.ref p),some (.int (pO (ks.take i):Int)),o]) ⟨rfl,_,by rfl⟩ (λi σ H' _ h=>by rw [h.1];exact hS) ?_ ?_]
 ·rintro i x σ H' hx ⟨rfl,o,rfl⟩;obtain ⟨k,hk',rfl⟩:=Ir hx;ext;rwa[iU.mk _ _ rfl (hk k (List.mem_of_getElem? hk')) ⟨rfl,some (.int (k:Int)),?_⟩]
  have e:pO (ks.take (i+1))=pO (ks.take i)|||2^k:=by
   unfold pO;rw [List.take_add_one,hk',List.foldl_append];rfl
  rw [e];rfl
 ·rintro σ H' ⟨rfl,o,rfl⟩;rw [Cm,List.take_of_length_le ↑15];exact q
inductive yy (vs:List V)(H:Hp)(Q:VK)(_e:XK):Prop
 |mk (M:Nat) (_:vs=[.int (M:Int)]) (_:M<2^200) (_:∀p,H p=none->Q (.ref p) (upd H p (.lst (vN (k6 M)))))
theorem Bb (F:bY K "listed" "listed" vx f fd)(bA:mg "range"=none)(im:bO P w K mg base 2 "has" ["mask","k"] gw):aQ P w K mg base b8 3 f fd ["mask"] yy:=by
 rwa[F.ok CN ↑8 ↑2]
 ·obtain ⟨M,rfl,_⟩:=h;rfl
 obtain ⟨M,rfl,hM,q⟩:=h;have hL:=MV hM;have hsl:=sizeLine_eq;rwa[⟨_,(ag (aD (bD rfl (aI (N':=["k","mask"]) (pk:=[none,some 0]) ↑33) (cy rfl bA (ac (Ca (K:=K) rfl PySem.F.plainAttrs_int PySem.F.slot_int_bit_length PySem.F.type_int_bit_length Ch (wv 0)) ae)) (λC s H ex=>(aC (i:=0) (show List.Nodup (["k","mask"]:List Str) by decide+kernel) rfl ↑6)) (λC s H ex=>(fO (bt (K:=K) rfl (ao im hr ↑1 rfl (ac (wv 1) (ac (wv 0) ae)))))) (λC s H ex=>(wv 0))))),?_⟩];rwa[⟨rfl,⟨by show -4611686018427387904<=((L M:Nat):Int);omega,by show ((L M:Nat):Int)<4611686018427387904;omega⟩,?_⟩];show wy (G9 0 (L M)) _ _ _ _ _ _ _
 refine eV (λi ys H'=>H'=H/\ys=vN (lx M i)) ↑5 (λi ys H' p=>by
  rw [p.2,Cm];unfold lx;exact Nat.le_trans (List.length_filter_le _ _) ↑27) ⟨rfl,rfl⟩ ?_ ?_
 ·rintro i ys H' hi ⟨rfl,rfl⟩;erw[⟨N6,?_⟩];show gw [.int (M:Int),.int (0+(i:Int))] _ _ _;rw [Int.zero_add];rwa[gw.mk _ _ rfl ↑5 ?_];show if M.testBit i=true then _ else _
  cases h:M.testBit i with
  |true=>
   rw [if_pos rfl];rwa[⟨rfl,?_⟩];rw [mG,h];unfold vN;rw [List.map_append];rfl
  |false=>
   rw [if_neg Bool.false_ne_true];rwa[⟨rfl,?_⟩];rw [mG,h];simp
 ·rintro ys H' ⟨rfl,rfl⟩ p hp;exact q p hp
inductive qG (vs:List V)(H:Hp)(Q:VK)(_e:XK):Prop
 |mk (M:Nat) (_:vs=[.int (M:Int)]) (_:M<2^200) (_:∀H',ar H H'->Q (LN (k6 M)[0]?) H')
theorem C0 {H:Hp}{p:Addr}(h:H p=none)(o:HO):ar H (upd H p o):=λb u q=>by rw [am (bQ q h)];exact q
theorem Ba (F:bY K "lowest" "lowest" vw f fd)(wG:bO P w K mg base 3 "listed" ["mask"] yy):aQ P w K mg base b8 4 f fd ["mask"] qG:=by
 rwa[F.ok xn ↑8 ↑2]
 ·obtain ⟨M,rfl,_⟩:=h;rfl
 obtain ⟨M,rfl,hM,q⟩:=h;erw[⟨_,(af (aA (i:=1) xn.nd rfl ↑6 (ao wG hr ↑1 rfl (ac (wv 0) ae))) (ag (aD (fR (bt (K:=K) rfl (wv 1)) ↑14 jR)))),?_⟩];erw[yy.mk _ rfl hM λp hp=> ?_];have z:=q _ (C0 hp (.lst (vN (k6 M))));rwa[Fz (aN.of aj) ?_]
 cases hb:k6 M with
 |nil=>
  rw [hb] at z;exact aB rfl z
 |cons k ks=>
  rw [hb] at z;erw[bj rfl ?_];exact bi (aN.of aj) (dE (j:=0) (v:=V.int (k:Int)) rfl) z
inductive nR (vs:List V)(H:Hp)(Q:VK)(_e:XK):Prop
 |mk (M:Nat) (_:vs=[.int (M:Int)]) (_:Q (LN (if M=0 then none else some (L M - 1))) H)
theorem zh (F:bY K "highest" "highest" rh f fd):aQ P w K mg base b8 1 f fd ["mask"] nR:=by
 rwa[F.ok AG ↑8 ↑2]
 ·obtain ⟨M,rfl,_⟩:=h;rfl
 obtain ⟨M,rfl,q⟩:=h;rwa[⟨_,(ag (aD (fR (az lF (wv 0) aa (au _)) (aG eX (Ca (K:=K) rfl PySem.F.plainAttrs_int PySem.F.slot_int_bit_length PySem.F.type_int_bit_length Ch (wv 0)) aa) jR))),?_⟩];rwa[hV (λh=> ?_) (λh=> ?_)]
 ·rwa[⟨rfl,?_⟩]
  have h0:M≠0:=by omega
  rw [if_neg h0] at q
  have e:((L M - 1:Nat):Int)=((L M:Nat):Int) - 1:=by
   have:=ES M;rw [if_neg h0] at this;omega
  show Q (.int (((L M:Nat):Int) - 1)) H;rw [<-e];exact q
 ·have h0:M=0:=by omega
  rw [if_pos h0] at q;exact q
def fb (p:Int×Int):D:= .tup [.int p.1,.int p.2]
inductive cA (K:Fg)(H:Hp)(t:Addr)(pl li dr mk:Int)(ps:List (Int×Int)):Prop
 |mk (b xs:_) (_:H t=some (.tup [.int pl,.int li,.int dr,.int mk,.ref b])) (_:H b=some (.tup xs)) (_:aO K H xs (ps.map fb))
theorem cA.same {H H':Hp}{t:Addr}{pl li dr mk:Int}{ps:List (Int×Int)}(h:cA K H t pl li dr mk ps)(s:ar H H'):cA K H' t pl li dr mk ps:=by
 obtain ⟨b,xs,e1,e2,d⟩:=h;exact ⟨b,xs,s.get e1,s.get e2,aO.same d s⟩
theorem Ky:5<=sizeLine:=by rw [sizeLine_eq];omega
def dI (so:Str)(pl li:Int)(ps:List (Int×Int))(wd:Str):Str:=
 if so=Str.ofString "free"\/ps=[] then wd else if ps.any (λp=>decide (2*p.2=pl))=true then Str.ofString "o" else if wd=Str.ofString "x" then Str.ofString "o" else
 if (wd=Str.ofString "u"/\li<0)\/(wd=Str.ofString "d"/\0<li) then Str.ofString "s" else wd
def jH:List Str:=[Str.ofString "o",Str.ofString "x",Str.ofString "u",Str.ofString "d",Str.ofString "s"]
theorem OI {x:Str}(h:x∈jH):x=Str.ofString "o"\/x=Str.ofString "x"\/x=Str.ofString "u"\/x=Str.ofString "d"\/x=Str.ofString "s":=by
 simpa [jH] using h
theorem w4 {so:Str}{pl li:Int}{ps:List (Int×Int)}{wd:Str}(h:wd∈jH):dI so pl li ps wd∈jH:=by
 unfold dI;split
 ·exact h
 split
 ·exact .head _
 split
 ·exact .head _
 split
 ·exact .tail _ (.tail _ (.tail _ (.tail _ (.head _))))
 ·exact h
def gU (fl tu pl li dr:Int)(ps:List (Int×Int))(x:Str):Int×Int×Int:=
 if x=Str.ofString "o" then (pl,li,tu) else if x=Str.ofString "x" then (pl,0,tu) else if x=Str.ofString "u"/\pl / 2<fl - 1 then (pl+1,1,dr) else if x=Str.ofString "d"/\0<pl then (pl - 1,-1,dr) else (pl,if ps=[] then 0 else li,dr)
section
variable {fl tu pl li dr:Int}{ps:List (Int×Int)}
theorem Mz:gU fl tu pl li dr ps (Str.ofString "o")=(pl,li,tu):=if_pos rfl
theorem Mw:gU fl tu pl li dr ps (Str.ofString "x")=(pl,0,tu):=by unfold gU;rw [if_neg ↑1,if_pos rfl]
theorem Kg (h:pl / 2<fl - 1):gU fl tu pl li dr ps (Str.ofString "u")=(pl+1,1,dr):=by unfold gU;rw [if_neg ↑1,if_neg ↑1,if_pos ⟨rfl,h⟩]
theorem Eo (h: ¬pl / 2<fl - 1):gU fl tu pl li dr ps (Str.ofString "u")=(pl,if ps=[] then 0 else li,dr):=by unfold gU;rw [if_neg ↑1,if_neg ↑1,if_neg (λz=>h z.2),if_neg (λz=>absurd z.1 ↑1)]
theorem Kh (h:0<pl):gU fl tu pl li dr ps (Str.ofString "d")=(pl - 1,-1,dr):=by unfold gU;rw [if_neg ↑1,if_neg ↑1,if_neg (λz=>absurd z.1 ↑1),if_pos ⟨rfl,h⟩]
theorem Ep (h: ¬0<pl):gU fl tu pl li dr ps (Str.ofString "d")=(pl,if ps=[] then 0 else li,dr):=by unfold gU;rw [if_neg ↑1,if_neg ↑1,if_neg (λz=>absurd z.1 ↑1),if_neg (λz=>h z.2)]
theorem Hx:gU fl tu pl li dr ps (Str.ofString "s")=(pl,if ps=[] then 0 else li,dr):=by unfold gU;rw [if_neg ↑1,if_neg ↑1,if_neg (λz=>absurd z.1 ↑1),if_neg (λz=>absurd z.1 ↑1)]
end
def qv (ps:List (Int×Int)):Prop:=ps.length<=100/\∀p∈ps,0<=p.2/\p.2<100
inductive dJ (K:Fg)(vs:List V)(H:Hp)(Q:VK)(_e:XK):Prop
 |mk (c pl li dr mk ps:_) (_:vs=[.ref c]) (_:cA K H c pl li dr mk ps) (_:Q (.int (pl / 2)) H)
theorem DP (F:bY K "floor_of" "floor_of" rn f fd):aQ P w K mg base b8 1 f fd ["cabin"] (dJ K):=by
 rwa[F.ok AH ↑8 ↑2]
 ·obtain ⟨c,pl,li,dr,mk,ps,rfl,_⟩:=h;rfl
 obtain ⟨c,pl,li,dr,mk,ps,rfl,hc,q⟩:=h;obtain ⟨b,xs,ec,eb,dx⟩:=id hc;rwa[⟨_,(ag (aD (aG Cg ↑11 aa))),?_⟩];left;exact q
def fF (ps:List (Int×Int)):List V:=ps.map λp=>V.int p.2
inductive iV (K:Fg)(vs:List V)(H:Hp)(Q:VK)(_e:XK):Prop
 |mk (c pl li dr mk ps:_) (_:vs=[.ref c]) (_:cA K H c pl li dr mk ps) (_:ps.length<=100) (_:∀p H',ar H H'->H p=none->H' p=some (.lst (fF ps))->Q (.ref p) H')
theorem DO (F:bY K "goals_aboard" "goals_aboard" ja f fd):aQ P w K mg base b8 1 f fd ["cabin"] (iV K):=by
 rwa[F.ok tQ ↑8 ↑2]
 ·obtain ⟨c,pl,li,dr,mk,ps,rfl,_⟩:=h;rfl
 obtain ⟨c,pl,li,dr,mk,ps,rfl,hc,hl,q⟩:=h;obtain ⟨b,xs,ec,eb,dx⟩:=id hc;have hx:=aT dx;rwa[⟨_,(ag (aD (bD rfl (aI (N':=["tag","goal"]) (pk:=[none,none]) ↑33) (bg (K:=K) rfl ↑11) (λC s H ex=>(ge (K:=K) (n:=2) rfl rfl (aV (aC (i:=0) ↑44 rfl ↑6) (aV (aC (i:=1) ↑44 rfl ↑6) eM)))) ↑37 (λC s H ex=>(wv 1))))),?_⟩];left;rwa[dj (by walk_at "l3sq") ?_];rwa[ck (xs:=xs) (λi ys H'=>H'=H/\ys=(fF ps).take i) (bB ↑5) (λi ys H' p=>by rw [p.2,List.length_take];exact Nat.min_le_left _ _) ⟨rfl,rfl⟩ (λi ys H' _ p=>by rw [p.1];exact aK.of eb) (λi x ys H' hxi p=> ?_) (λys H' p l2 n2=> ?_)]
 ·obtain ⟨rfl,rfl⟩:=p;obtain ⟨pr,hpr,dp⟩:=b6 dx hxi;obtain ⟨u,us,rfl,hu,dus⟩:=dp.outT
  cases dus with|cons q0 t0=>cases t0 with|cons q1 t1=>
  cases t1;cases q0.isInt;cases q1.isInt;left;rwa[⟨iy,?_⟩];left;rwa[⟨rfl,?_⟩];rw [List.take_succ];congr 1;unfold fF;rw [List.getElem?_map,hpr];rfl
 ·obtain ⟨rfl,rfl⟩:=p;rwa[q l2 _ (.upd n2) n2 ?_];rw [aj,List.take_of_length_le (by unfold fF;rw [List.length_map];omega)]
structure be where
 tag:Int
 start:Int
 goal:Int
 lift:Int
def be.d (r:be):D:= .tup [.int r.tag,.int r.start,.int r.goal,.int r.lift]
def Kt (rs:List be):Prop:=rs.length<=64/\∀r∈rs,r.start≠r.goal
theorem cE (rs:List be):noLs (rs.map be.d)=true:=by
 induction rs with
 |nil=>rfl
 |cons r rs ih=>rw [List.map_cons,noLs,ih];rfl
theorem gB (ps:List (Int×Int)):noLs (ps.map fb)=true:=by
 induction ps with
 |nil=>rfl
 |cons r rs ih=>rw [List.map_cons,noLs,ih];rfl
theorem ar.updF {H0 H1:Hp}{o:Addr}{x:HO}(s:ar H0 H1)(h:H0 o=none):ar H0 (upd H1 o x):=λb u z=>by
 rw [am (λe=>by rw [e,h] at z;cases z)];exact s b u z
def uV (s g:Int):Int:=if s<g then 1 else -1
inductive qE (vs:List V)(H:Hp)(Q:VK)(_e:XK):Prop
 |mk (s g:Int) (_:vs=[.int s,.int g]) (_:Q (.int (uV s g)) H)
theorem Jt (F:bY K "way_of" "way_of" yP f fd):aQ P w K mg base b8 1 f fd ["start","goal"] qE:=by
 rwa[F.ok FA ↑8 ↑2]
 ·obtain ⟨s,g,rfl,_⟩:=h;rfl
 obtain ⟨s,g,rfl,q⟩:=h;rwa[⟨_,(ag (aD (fR (az lF (wv 1) (wv 0) (au _)) aa (iG ir aa)))),?_⟩];unfold uV at q;by_cases h:s<g
 ·rw [if_pos h] at q;left;exact q
 ·rw [if_neg h] at q;left;exact q
def tk (room:Int)(ps:List (Int×Int))(rs:List be)(f:Int):Bool:=ps.any (λp=>decide (p.2=f))||(decide ((ps.length:Int)<room)&&rs.any (λr=>decide (r.start=f)))
def ET (t:Int->Bool)(f u:Int):Prop:=(u=0/\∀j:Int,1<=j->j<=7->t (f+j)=false)\/(1<=u/\u<=7/\t (f+u)=true/\∀j:Int,1<=j->j<u->t (f+j)=false)
def EU (t:Int->Bool)(f d:Int):Prop:=(d=0/\∀j:Int,1<=j->j<=7->j<=f->t (f - j)=false)\/(1<=d/\d<=7/\d<=f/\t (f - d)=true/\∀j:Int,1<=j->j<d->t (f - j)=false)
def HK (ps:List (Int×Int))(f:Int):Bool:=ps.any λp=>decide (p.2=f)
def G6 (rs:List be)(f li:Int):Bool:=rs.any λr=>decide (r.start=f)&&decide (uV r.start r.goal=li)
def m7 (so:Str)(li:Int)(t0 ab al:Bool):Int:=if t0=false then 0 else if so=Str.ofString "free"\/li=0 then 2 else if ab=true\/al=true then 2 else 1
def Ng (ps:List (Int×Int))(rs:List be):Prop:=(∀p∈ps,0<=p.2/\p.2<8)/\(∀r∈rs,0<=r.start/\r.start<8)/\ps.length<=64/\rs.length<=64
theorem oC (ks:List Nat)(i:Nat):(pO ks).testBit i=decide (i∈ks):=by
 unfold pO;rw [rG];simp
theorem xA {ks:List Nat}(h:∀k∈ks,k<8):pO ks<2^8:=Nat.lt_pow_two_of_testBit _ λi hi=>by
 rw [oC]
 exact decide_eq_false λz=>by have:=h i z;omega
theorem Ef {ps:List (Int×Int)}(h:∀p∈ps,0<=p.2/\p.2<8):fF ps=vN (ps.map λp=>p.2.toNat):=by
 unfold fF vN;rw [List.map_map];rwa[List.map_congr_left λp hp=> ?_];show V.int p.2=V.int ((p.2.toNat:Nat):Int);rw [Int.toNat_of_nonneg (h p hp).1]
def fk (rs:List be):List V:=rs.map λr=>V.int r.start
theorem AA {rs:List be}(h:∀r∈rs,0<=r.start/\r.start<8):fk rs=vN (rs.map λr=>r.start.toNat):=by
 unfold fk vN;rw [List.map_map];rwa[List.map_congr_left λp hp=> ?_];show V.int p.start=V.int ((p.start.toNat:Nat):Int);rw [Int.toNat_of_nonneg (h p hp).1]
theorem uu {ps:List (Int×Int)}(h:∀p∈ps,0<=p.2/\p.2<8)(i:Nat):decide (i∈ps.map λp=>p.2.toNat)=ps.any λp=>decide (p.2=(i:Int)):=by
 rw [Bool.eq_iff_iff,decide_eq_true_eq,List.mem_map,List.any_eq_true];constructor
 ·rintro ⟨p,hp,e⟩;exact ⟨p,hp,decide_eq_true (by have:=h p hp;omega)⟩
 ·rintro ⟨p,hp,e⟩;exact ⟨p,hp,by have:=of_decide_eq_true e;omega⟩
theorem zo {rs:List be}(h:∀r∈rs,0<=r.start/\r.start<8)(i:Nat):decide (i∈rs.map λr=>r.start.toNat)=rs.any λr=>decide (r.start=(i:Int)):=by
 rw [Bool.eq_iff_iff,decide_eq_true_eq,List.mem_map,List.any_eq_true];constructor
 ·rintro ⟨p,hp,e⟩;exact ⟨p,hp,decide_eq_true (by have:=h p hp;omega)⟩
 ·rintro ⟨p,hp,e⟩;exact ⟨p,hp,by have:=of_decide_eq_true e;omega⟩
theorem oO (ps:List (Int×Int)):(fF ps).length=ps.length:=by unfold fF;rw [List.length_map]
inductive uZ (K:Fg)(vs:List V)(H:Hp)(Q:VK)(_e:XK):Prop
 |mk (room c p pl li dr mk ps xs:_) (rs:List be) (_:vs=[.int room,.ref c,.ref p]) (_:cA K H c pl li dr mk ps) (_:H p=some (.lst xs)) (_:aO K H xs (rs.map be.d)) (_:Ng ps rs) (_:∀(M:Nat) H',ar H H'->(∀i:Nat,M.testBit i=tk room ps rs i)->M<2^8->Q (.int (M:Int)) H')
theorem Dy (F:bY K "tasks_of" "tasks_of" rb f fd)(bh:mg "len"=none)(b7:bO P w K mg base 1 "goals_aboard" ["cabin"] (iV K))(nu:bO P w K mg base 3 "mask_of" ["numbers"] (mP K)):aQ P w K mg base b8 4 f fd ["room","cabin","riders"] (uZ K):=by
 rwa[F.ok uj ↑8 ↑2]
 ·obtain ⟨room,c,p,pl,li,dr,mk,ps,xs,rs,rfl,_⟩:=h;rfl
 obtain ⟨room,c,p,pl,li,dr,mk,ps,xs,rs,rfl,hc,ep,dp,hf,q⟩:=h;have xl:=aT dp;have l20:=hf.2.2.2;have g20:=hf.2.2.1;rwa[⟨_,(af (aA (i:=3) uj.nd rfl ↑6 (ao b7 hr ↑1 rfl ↑34)) (af (aJ (az Fe (ax ↑32 rfl bh PySem.boot_len (ac (wv 3) ae)) (wv 0) (au _)) (ag (aD (ao nu hr ↑1 rfl (ac (wv 3) ae)))) aF) (ag (aD (ao nu hr ↑1 rfl (ac (aG ↑23 (wv 3) (bD rfl (aI (N':=["tag","start","goal","lift"]) (pk:=[none,none,none,none]) ↑33) (bg (K:=K) rfl (wv 2)) (λC s H ex=>(ge (K:=K) (n:=4) rfl rfl (aV (aC (i:=0) ↑16 rfl ↑6) (aV (aC (i:=1) ↑16 rfl ↑6) (aV (aC (i:=2) ↑16 rfl ↑6) (aV (aC (i:=3) ↑16 rfl ↑6) eM)))))) ↑37 (λC s H ex=>(wv 1)))) ae)))))),?_⟩];left;rwa[iV.mk _ _ _ _ _ _ rfl hc ↑5 λg H1 s1 n1 e1=> ?_];have ev:=Ef hf.1;left;rw [oO];rwa[hV (λh1=> ?_) (λh1=> ?_)]
 ·left
  refine mP.mk _ (ps.map λp=>p.2.toNat) rfl (aN.of (by rw [<-ev];exact e1)) (λk hk=>by
   obtain ⟨p,hp,rfl⟩:=List.mem_map.mp hk
   have:=hf.1 p hp;omega) ?_
  refine q _ H1 s1 (λi=> ?_) (xA λk hk=>by
   obtain ⟨p,hp,rfl⟩:=List.mem_map.mp hk
   have:=hf.1 p hp;omega)
  rw [oC,uu hf.1];unfold tk;rw [decide_eq_false (show ¬(ps.length:Int)<room by omega),Bool.false_and,Bool.or_false]
 ·left;rwa[cW (by walk_at "l3sq") ?_];rwa[bZ (xs:=xs) (λi ys H'=>H'=H1/\ys=(fk rs).take i) (bB ↑5) (λi ys H' p=>by rw [p.2,List.length_take];exact Nat.min_le_left _ _) ⟨rfl,rfl⟩ (λi ys H' _ p=>by rw [p.1];exact s1.seq (aN.of ep)) (λi x ys H' hxi p=> ?_) (λys H' p l2 n2=> ?_)]
  ·obtain ⟨rfl,rfl⟩:=p;obtain ⟨r,hr',dr'⟩:=b6 dp hxi;obtain ⟨u,us,rfl,hu,dus⟩:=dr'.outT
   cases dus with|cons q0 r0=>cases r0 with|cons q1 r1=>cases r1 with|cons q2 r2=>cases r2 with|cons q3 r3=>
   cases r3;cases q0.isInt;cases q1.isInt;cases q2.isInt;cases q3.isInt;left;rwa[⟨mJ,?_⟩];left;rwa[⟨rfl,?_⟩];rw [List.take_succ];congr 1;unfold fk;rw [List.getElem?_map,hr'];rfl
  ·obtain ⟨rfl,rfl⟩:=p
   have e2:upd H' l2 (.lst ((fk rs).take xs.length)) l2=some (.lst (fk rs)):=by rw [aj,List.take_of_length_le (by unfold fk;rw [List.length_map];omega)]
   have s2:ar H' (upd H' l2 (.lst ((fk rs).take xs.length))):= .upd n2;generalize upd H' l2 (.lst ((fk rs).take xs.length))=H2 at e2 s2 ⊢
   have sl:(fk rs).length=rs.length:=by unfold fk;rw [List.length_map]
   ext;erw[An (s2.get e1) e2 (bB (by rw [oO,sl];omega)) λl3 H3 s3 n3 e3=> ?_];have ev2:=AA hf.2.1
   refine mP.mk _ ((ps.map λp=>p.2.toNat)++rs.map λr=>r.start.toNat) rfl (aN.of (by rw [e3,ev,ev2];unfold vN;rw [List.map_append])) (λk hk=>by
    rcases List.mem_append.mp hk with hk|hk
    ·obtain ⟨p,hp,rfl⟩:=List.mem_map.mp hk;have:=hf.1 p hp;omega
    ·obtain ⟨p,hp,rfl⟩:=List.mem_map.mp hk
     have:=hf.2.1 p hp;omega) ?_
   refine q _ H3 ((s1.trans s2).trans s3) (λi=> ?_) (xA λk hk=>by
    rcases List.mem_append.mp hk with hk|hk
    ·obtain ⟨p,hp,rfl⟩:=List.mem_map.mp hk;have:=hf.1 p hp;omega
    ·obtain ⟨p,hp,rfl⟩:=List.mem_map.mp hk
     have:=hf.2.1 p hp;omega)
   rw [oC];unfold tk;rw [decide_eq_true (show (ps.length:Int)<room by omega),Bool.true_and,<-uu hf.1,<-zo hf.2.1,<-Bool.decide_or];exact decide_eq_decide.mpr List.mem_append
inductive vd (K:Fg)(vs:List V)(H:Hp)(Q:VK)(_e:XK):Prop
 |mk (f li p xs:_) (rs:List be) (_:vs=[.int f,.int li,.ref p]) (_:H p=some (.lst xs)) (_:aO K H xs (rs.map be.d)) (_:rs.length<=64) (_:∀H',ar H H'->Q (.bl (G6 rs f li)) H')
def jI (rs:List be)(f:Int):List V:=(rs.filter λr=>decide (r.start=f)).map λr=>V.int (uV r.start r.goal)
theorem GJ {rs:List be}{f li:Int}:xI (.int li) (jI rs f)=G6 rs f li:=by
 unfold xI jI G6;rw [List.any_map,List.any_filter];rfl
theorem DU (F:bY K "goes_along" "goes_along" lX f fd)(gA:bO P w K mg base 1 "way_of" ["start","goal"] qE):aQ P w K mg base b8 2 f fd ["floor","light","riders"] (vd K):=by
 rwa[F.ok pM ↑8 ↑2]
 ·obtain ⟨f,li,p,xs,rs,rfl,_⟩:=h;rfl
 obtain ⟨f,li,p,xs,rs,rfl,ep,dp,l20,q⟩:=h;have xl:=aT dp;erw[⟨_,(af (fM (i:=3) rfl pM.nd rfl ↑6 (aI (N':=["tag","start","goal","lift","floor"]) (pk:=[none,none,none,none,some 0]) ↑33) (bg (K:=K) rfl (wv 2)) (λC s H ex=>(ge (K:=K) (n:=4) rfl rfl (aV (aC (i:=0) (show List.Nodup (["tag","start","goal","lift","floor"]:List Str) by decide+kernel) rfl ↑6) (aV (aC (i:=1) (show List.Nodup (["tag","start","goal","lift","floor"]:List Str) by decide+kernel) rfl ↑6) (aV (aC (i:=2) (show List.Nodup (["tag","start","goal","lift","floor"]:List Str) by decide+kernel) rfl ↑6) (aV (aC (i:=3) (show List.Nodup (["tag","start","goal","lift","floor"]:List Str) by decide+kernel) rfl ↑6) eM)))))) (λC s H ex=>(fO (az ↑10 (wv 1) (wv 4) (au _)))) (λC s H ex=>(ao gA hr ↑1 rfl (ac (wv 1) (ac (wv 2) ae))))) (ag (aD (ce (Fd (K:=K) rfl) (wv 1) (wv 3) (by with_unfolding_all rfl))))),?_⟩];rwa[cW (aN.of ep) ?_]
 refine bZ (xs:=xs) (λi ys H'=>H'=H/\ys=jI (rs.take i) f) (bB ↑5) (λi ys H' p=>by
  rw [p.2];unfold jI;rw [List.length_map];have:=List.length_filter_le (λr:be=>decide (r.start=f)) (rs.take i);rw [List.length_take] at this;omega) ⟨rfl,rfl⟩ (λi ys H' _ p=>by rw [p.1];exact aN.of ep) (λi x ys H' hxi p=> ?_) (λys H' p l2 n2=> ?_)
 ·obtain ⟨rfl,rfl⟩:=p;obtain ⟨r,hr',dr'⟩:=b6 dp hxi;obtain ⟨u,us,rfl,hu,dus⟩:=dr'.outT
  cases dus with|cons q0 r0=>cases r0 with|cons q1 r1=>cases r1 with|cons q2 r2=>cases r2 with|cons q3 r3=>
  cases r3;cases q0.isInt;cases q1.isInt;cases q2.isInt;cases q3.isInt;left;rwa[⟨mJ,?_⟩];show if decide (r.start=f)=true then _ else _
  have e:jI (rs.take (i+1)) f=jI (rs.take i) f++if decide (r.start=f)=true then [V.int (uV r.start r.goal)] else []:=by
   unfold jI;rw [List.take_succ,hr',List.filter_append,List.map_append];congr 1;cases z:decide (r.start=f)<;>simp [z]
  by_cases h1:r.start=f
  ·rw [if_pos (decide_eq_true h1)];ext;rwa[qE.mk _ _ rfl ?_];rw [e,if_pos (decide_eq_true h1)];exact ⟨rfl,rfl⟩
  ·rw [if_neg (by rw [decide_eq_false h1];decide),e,if_neg (by rw [decide_eq_false h1];decide),List.append_nil];exact ⟨rfl,rfl⟩
 ·obtain ⟨rfl,rfl⟩:=p
  have e2:upd H' l2 (.lst (jI (rs.take xs.length) f)) l2=some (.lst (jI rs f)):=by rw [aj,List.take_of_length_le ↑5]
  have s2:ar H' (upd H' l2 (.lst (jI (rs.take xs.length) f))):= .upd n2;generalize upd H' l2 (.lst (jI (rs.take xs.length) f))=H2 at e2 s2 ⊢;ext;rwa[vh (aN.of e2) rfl ?_ ?_]
  ·rwa[List.all_eq_true.mpr λx hx=> ?_];obtain ⟨r,_,rfl⟩:=List.mem_map.mp hx;rfl
  ·rw [GJ];exact q H2 s2
inductive nU (K:Fg)(vs:List V)(H:Hp)(Q:VK)(_e:XK):Prop
 |mk (so c p pl li dr mk ps xs:_) (rs:List be) (M f0:Nat) (_:vs=[.str so,.ref c,.int (M:Int),.ref p]) (_:cA K H c pl li dr mk ps) (_:H p=some (.lst xs)) (_:aO K H xs (rs.map be.d)) (_:Ng ps rs) (_:pl=2*(f0:Int)) (_:f0<8) (_:∀H',ar H H'->Q (.int (m7 so li (M.testBit f0) (HK ps f0) (G6 rs f0 li))) H')
theorem Ec {f:Int}{ps:List (Int×Int)}:xI (.int f) (fF ps)=HK ps f:=by
 unfold xI fF HK;rw [List.any_map];rfl
theorem sh (ps:List (Int×Int)):(fF ps).all fc=true:=by
 rwa[List.all_eq_true.mpr λx hx=> ?_];obtain ⟨p,_,rfl⟩:=List.mem_map.mp hx;rfl
theorem Gi (F:bY K "here_of" "here_of" vH f fd)(bG:bO P w K mg base 1 "floor_of" ["cabin"] (dJ K))(im:bO P w K mg base 2 "has" ["mask","k"] gw)(b7:bO P w K mg base 1 "goals_aboard" ["cabin"] (iV K))(km:bO P w K mg base 2 "goes_along" ["floor","light","riders"] (vd K)):aQ P w K mg base b8 3 f fd ["sort","cabin","tasks","riders"] (nU K):=by
 rwa[F.ok qX ↑8 ↑2]
 ·obtain ⟨so,c,p,pl,li,dr,mk,ps,xs,rs,M,f0,rfl,_⟩:=h;rfl
 obtain ⟨so,c,p,pl,li,dr,mk,ps,xs,rs,M,f0,rfl,hc,ep,dp,hf,hpl,hf0,q⟩:=h;obtain ⟨b,bs,ec,eb,db⟩:=id hc;have l20:=hf.2.2.2;have g20:=hf.2.2.1;rwa[⟨_,(af (aA (i:=4) qX.nd rfl ↑6 (ao bG hr ↑1 rfl ↑34)) (af (aA (i:=5) qX.nd rfl ↑6 ↑14) (af (aJ (de (bt (K:=K) rfl (ao im hr ↑1 rfl (ac (wv 2) (ac (wv 4) ae))))) (ag (aD aa)) aF) (af (aJ (PW.pt (cG (az ↑10 (wv 0) aq (au _)) (cu (az ↑10 (wv 5) aa (au _))))) (ag (aD aa)) aF) (ag (aD (fR (PW.pt (cG (az (Fd (K:=K) rfl) (wv 4) (ao b7 hr ↑1 rfl ↑34) (by with_unfolding_all rfl)) (cu (bt (K:=K) rfl (ao km hr ↑1 rfl (ac (wv 4) (ac (wv 5) (ac (wv 3) ae)))))))) aa aa))))))),?_⟩]
 have e0:pl / 2=(f0:Int):=by omega
 left;rwa[dJ.mk _ _ _ _ _ _ rfl hc ?_];rw [e0];left;rwa[gw.mk _ _ rfl ↑5 ?_];unfold m7 at q
 cases ht:M.testBit f0 with
 |false=>rw [ht,if_pos rfl] at q;left;exact q H (.refl _)
 |true=>
  rw [ht,if_neg ↑1] at q;left;by_cases h1:so=Str.ofString "free"
  ·rw [if_pos (.inl h1)] at q;left;exact q H (.refl _)
  ·by_cases h2:li=0
   ·rw [if_pos (.inr h2)] at q;left;exact q H (.refl _)
   ·rw [if_neg (λz=>z.elim h1 h2)] at q;left;erw[iV.mk _ _ _ _ _ _ rfl hc ↑5 λg H1 s1 n1 e1=> ?_];rwa[vh (aN.of e1) rfl (sh ps) ?_];rw [Ec]
    cases hab:HK ps f0 with
    |true=>rw [hab,if_pos (.inl rfl)] at q;left;exact q H1 s1
    |false=>
     rw [hab] at q;left;rwa[vd.mk _ _ _ _ _ rfl (s1.get ep) (aO.same dp s1) ↑5 λH2 s2=> ?_]
     cases hal:G6 rs f0 li with
     |true=>rw [hal,if_pos (.inr rfl)] at q;left;exact q H2 (s1.trans s2)
     |false=>rw [hal,if_neg ↑1] at q;left;exact q H2 (s1.trans s2)
theorem xZ (M:Nat):(k6 M).Pairwise (· < ·):=List.Pairwise.filter _ List.pairwise_lt_range
theorem pB (M n i:Nat):(M - M% 2^(n+1)).testBit i=(M.testBit i&&decide (n<i)):=by
 have e:M - M% 2^(n+1)=2^(n+1)*(M / 2^(n+1)):=by have:=Nat.div_add_mod M (2^(n+1));omega
 rw [e,Nat.testBit_two_pow_mul,Nat.testBit_div_two_pow];by_cases h:n<i
 ·rw [decide_eq_true h,decide_eq_true (show i≥n+1 from h),Nat.sub_add_cancel h,Bool.true_and,Bool.and_true]
 ·rw [decide_eq_false h,decide_eq_false (show ¬i≥n+1 by omega),Bool.false_and,Bool.and_false]
theorem Ll {M n:Nat}{t:Int->Bool}(ht:∀i:Nat,M.testBit i=t i)(hM:M<2^8):ET t n (match ((k6 (M - M% 2^(n+1)))[(0:Nat)]? :Option Nat) with|none=>0|some k=>(k:Int) - n):=by
 cases hb:k6 (M - M% 2^(n+1)) with
 |nil=>
  rwa[.inl ⟨rfl,λj j1 j7=> ?_⟩];have h0:=EE.mp hb;have:=pB M n (n+j.toNat);rw [h0,Nat.zero_testBit,decide_eq_true ↑5,Bool.and_true,ht] at this;rw [<-this.symm];congr 1;omega
 |cons k ks=>
  have hs:=xZ (M - M% 2^(n+1));rw [hb] at hs
  have hk:k∈k6 (M - M% 2^(n+1)):=by rw [hb];exact .head _
  have hk':=m4.mp hk;rw [pB,Bool.and_eq_true] at hk';have nk:=of_decide_eq_true hk'.2;have k8:k<8:=Ap (M:=M) hM (m4.mpr hk'.1);rwa[.inr ⟨by show 1<=(k:Int) - n;omega,by show (k:Int) - n<=7;omega,?_,λj j1 jk=> ?_⟩]
  ·show t ((n:Int)+((k:Int) - n))=true;rw [show (n:Int)+((k:Int) - n)=(k:Int) by omega,<-ht];exact hk'.1
  ·have jk:j<(k:Int) - n:=jk
   cases z:t ((n:Int)+j) with
   |false=>rfl
   |true=>
    have z':M.testBit (n+j.toNat)=true:=by rw [ht,<-z];congr 1;omega
    have hm:n+j.toNat∈k6 (M - M% 2^(n+1)):=m4.mpr (by rw [pB,z',decide_eq_true ↑5];rfl);rw [hb] at hm
    rcases List.mem_cons.mp hm with e|hm
    ·omega
    ·have:=List.rel_of_pairwise_cons hs hm;omega
theorem MB {M n:Nat}{t:Int->Bool}(hn:n<8)(ht:∀i:Nat,M.testBit i=t i)(hM:M<2^8):EU t n (match (if M% 2^n=0 then none else some (L (M% 2^n) - 1):Option Nat) with|none=>0|some k=>(n:Int) - k):=by
 by_cases h0:M% 2^n=0
 ·rw [if_pos h0];rwa[.inl ⟨rfl,λj j1 j7 jn=> ?_⟩];have:=Nat.testBit_mod_two_pow M n (n - j.toNat);rw [h0,Nat.zero_testBit,decide_eq_true ↑5,Bool.true_and,ht] at this;rw [<-this.symm];congr 1;omega
 ·rw [if_neg h0];have hk:=zT h0;have hl:=MU (M% 2^n);rw [Nat.testBit_mod_two_pow,Bool.and_eq_true] at hk;have kn:=of_decide_eq_true hk.1;have k8:L (M% 2^n) - 1<8:=Ap (M:=M) hM (m4.mpr hk.2);rwa[.inr ⟨by show 1<=(n:Int) - ((L (M% 2^n) - 1:Nat):Int);omega,?_,by show (n:Int) - ((L (M% 2^n) - 1:Nat):Int)<=n;omega,?_,λj j1 jk=> ?_⟩]
  ·show (n:Int) - ((L (M% 2^n) - 1:Nat):Int)<=7;omega
  ·show t ((n:Int) - ((n:Int) - ((L (M% 2^n) - 1:Nat):Int)))=true;rw [show (n:Int) - ((n:Int) - ((L (M% 2^n) - 1:Nat):Int))=((L (M% 2^n) - 1:Nat):Int) by omega,<-ht];exact hk.2
  ·have jk:j<(n:Int) - ((L (M% 2^n) - 1:Nat):Int):=jk
   cases z:t ((n:Int) - j) with
   |false=>rfl
   |true=>
    have z':(M% 2^n).testBit (n - j.toNat)=true:=by rw [Nat.testBit_mod_two_pow,decide_eq_true ↑5,ht,Bool.true_and,<-z];congr 1;omega
    have:=Nat.testBit_lt_two_pow (Nat.lt_of_lt_of_le hl (Nat.pow_le_pow_right ↑1 (show L (M% 2^n)<=n - j.toNat by omega)));rw [z'] at this;cases this
def Lk (room:Int)(so:Str)(li:Int)(ps:List (Int×Int))(rs:List be)(f0:Nat)(u d:Int):List V:=[.int (f0:Int),.int li,.int (m7 so li (tk room ps rs f0) (HK ps f0) (G6 rs f0 li)),.int u,.int d]
inductive yr (K:Fg)(vs:List V)(H:Hp)(Q:VK)(_e:XK):Prop
 |mk (so room c p pl li dr mk ps xs:_) (rs:List be) (f0:Nat) (_:vs=[.str so,.int room,.ref c,.ref p]) (_:cA K H c pl li dr mk ps) (_:H p=some (.lst xs)) (_:aO K H xs (rs.map be.d)) (_:Ng ps rs) (_:pl=2*(f0:Int)) (_:f0<8) (_:∀r u d H',ar H H'->ET (tk room ps rs) f0 u->EU (tk room ps rs) f0 d->H' r=some (.tup (Lk room so li ps rs f0 u d))->Q (.ref r) H')
theorem Mb {M n:Nat}(h:M<2^8):M - n<2^200:=Nat.lt_of_le_of_lt (Nat.sub_le _ _) (Nat.lt_trans h ↑1)
theorem F4 (F:bY K "view" "view" C1 f fd)(bG:bO P w K mg base 1 "floor_of" ["cabin"] (dJ K))(oV:bO P w K mg base 4 "tasks_of" ["room","cabin","riders"] (uZ K))(zI:bO P w K mg base 3 "above" ["mask","k"] ve)(wF:bO P w K mg base 4 "lowest" ["mask"] qG)(py:bO P w K mg base 2 "below" ["mask","k"] mT)(sU:bO P w K mg base 1 "highest" ["mask"] nR)(sV:bO P w K mg base 3 "here_of" ["sort","cabin","tasks","riders"] (nU K)):aQ P w K mg base b8 5 f fd ["sort","room","cabin","riders"] (yr K):=by
 rwa[F.ok lK ↑8 ↑2]
 ·obtain ⟨so,room,c,p,pl,li,dr,mk,ps,xs,rs,f0,rfl,_⟩:=h;rfl
 obtain ⟨so,room,c,p,pl,li,dr,mk,ps,xs,rs,f0,rfl,hc,ep,dp,hf,hpl,hf0,q⟩:=h;obtain ⟨b,bs,ec,eb,db⟩:=id hc;rwa[⟨_,(af (aA (i:=4) lK.nd rfl ↑6 (ao bG hr ↑1 rfl (ac (wv 2) ae))) (af (aA (i:=5) lK.nd rfl ↑6 (ao oV hr ↑1 rfl (ac (wv 1) (ac (wv 2) (ac (wv 3) ae))))) (af (aA (i:=6) lK.nd rfl ↑6 (ao wF hr ↑1 rfl (ac (ao zI hr ↑1 rfl (ac (wv 5) (ac (wv 4) ae))) ae))) (af (aA (i:=7) lK.nd rfl ↑6 (ao sU hr ↑1 rfl (ac (ao py hr ↑1 rfl (ac (wv 5) (ac (wv 4) ae))) ae))) (af (aA (i:=8) lK.nd rfl ↑6 (fR (az Hg (wv 6) jR (au _)) aa (aG eX (wv 6) (wv 4)))) (af (aA (i:=9) lK.nd rfl ↑6 (fR (az Hg (wv 7) jR (au _)) aa (aG eX (wv 4) (wv 7)))) (ag (aD (aP (ac (wv 4) (ac ↑13 (ac (ao sV hr ↑1 rfl (ac (wv 0) (ac (wv 2) (ac (wv 5) (ac (wv 3) ae))))) (ac (wv 8) (ac (wv 9) ae)))))))))))))),?_⟩]
 have e0:pl / 2=(f0:Int):=by omega
 left;rwa[dJ.mk _ _ _ _ _ _ rfl hc ?_];rw [e0];left;rwa[uZ.mk _ _ _ _ _ _ _ _ _ _ rfl hc ep dp hf λM H1 s1 hM h8=> ?_];left;erw[ve.mk _ _ rfl ↑5 ?_];rwa[qG.mk _ rfl (Mb h8) λH2 s2=> ?_];left;erw[mT.mk _ _ rfl ↑5 ?_];rwa[nR.mk _ rfl ?_];have U:=Ll (n:=f0) hM h8;have D:=MB (n:=f0) hf0 hM h8;have sm:=s1.trans s2;have hc2:=hc.same sm
 cases hu:((k6 (M - M% 2^(f0+1)))[(0:Nat)]? :Option Nat) with
 |none=>
  rw [hu] at U
  cases hd:(if M% 2^f0=0 then none else some (L (M% 2^f0) - 1):Option Nat) with
  |none=>
   rw [hd] at D;left;rwa[nU.mk _ _ _ _ _ _ _ _ _ _ _ _ rfl hc2 (sm.get ep) (aO.same dp sm) hf hpl hf0 λH5 s5=> ?_];rw [hM];left;exact bK Ky λr H6 s6 _ e6=>q r _ _ H6 ((sm.trans s5).trans s6) U D e6
  |some k=>
   rw [hd] at D;left;rwa[nU.mk _ _ _ _ _ _ _ _ _ _ _ _ rfl hc2 (sm.get ep) (aO.same dp sm) hf hpl hf0 λH5 s5=> ?_];rw [hM];left;exact bK Ky λr H6 s6 _ e6=>q r _ _ H6 ((sm.trans s5).trans s6) U D e6
 |some k'=>
  rw [hu] at U
  cases hd:(if M% 2^f0=0 then none else some (L (M% 2^f0) - 1):Option Nat) with
  |none=>
   rw [hd] at D;left;rwa[nU.mk _ _ _ _ _ _ _ _ _ _ _ _ rfl hc2 (sm.get ep) (aO.same dp sm) hf hpl hf0 λH5 s5=> ?_];rw [hM];left;exact bK Ky λr H6 s6 _ e6=>q r _ _ H6 ((sm.trans s5).trans s6) U D e6
  |some k=>
   rw [hd] at D;left;rwa[nU.mk _ _ _ _ _ _ _ _ _ _ _ _ rfl hc2 (sm.get ep) (aO.same dp sm) hf hpl hf0 λH5 s5=> ?_];rw [hM];left;exact bK Ky λr H6 s6 _ e6=>q r _ _ H6 ((sm.trans s5).trans s6) U D e6
theorem Bt {pl:Int}{f0:Int}{ps:List (Int×Int)}(h:pl=2*f0):xI (.int (pl / 2)) (fF ps)=ps.any (λp=>decide (2*p.2=pl)):=by
 unfold xI fF;rw [List.any_map];congr 1
 funext p
 show (p.2==pl / 2)=decide (2*p.2=pl);by_cases e:p.2=pl / 2
 ·rw [decide_eq_true ↑5,beq_iff_eq];exact e
 ·rw [decide_eq_false ↑5,beq_eq_false_iff_ne];exact e
inductive nQ (K:Fg)(vs:List V)(H:Hp)(Q:VK)(_e:XK):Prop
 |mk (so c wd pl li dr mk ps f0:_) (_:vs=[.str so,.ref c,.str wd]) (_:cA K H c pl li dr mk ps) (_:qv ps) (_:pl=2*f0) (_: -1<=li) (_:li<=1) (_:∀H',ar H H'->Q (.str (dI so pl li ps wd)) H')
theorem zg (F:bY K "turned" "turned" vp f fd)(bh:mg "len"=none)(bG:bO P w K mg base 1 "floor_of" ["cabin"] (dJ K))(b7:bO P w K mg base 1 "goals_aboard" ["cabin"] (iV K)):aQ P w K mg base b8 2 f fd ["sort","cabin","word"] (nQ K):=by
 rwa[F.ok qS ↑8 ↑2]
 ·obtain ⟨so,c,wd,pl,li,dr,mk,ps,f0,rfl,_⟩:=h;rfl
 obtain ⟨so,c,wd,pl,li,dr,mk,ps,f0,rfl,hc,hg,hpl,hl1,hl2,q⟩:=h;obtain ⟨b,xs,ec,eb,dx⟩:=id hc;rwa[⟨_,(af (aA (i:=3) qS.nd rfl ↑6 (ao b7 hr ↑1 rfl ↑34)) (af (aA (i:=4) qS.nd rfl ↑6 ↑14) (af (aJ (PW.pt (cG (az ↑10 (wv 0) aq (au _)) (cu (az ↑10 (ax ↑32 rfl bh PySem.boot_len (ac (wv 3) ae)) aa (au _))))) (ag (aD (wv 2))) aF) (af (aJ (PW.pt (cG (az (Fd (K:=K) rfl) (ao bG hr ↑1 rfl ↑34) (wv 3) (by with_unfolding_all rfl)) (cu (az ↑10 (wv 2) aq (au _))))) (ag (aD aq)) aF) (af (aJ (PW.pt (cG (PW.pt (eR (az ↑10 (wv 2) aq (au _)) (dS (az ↑10 (wv 4) (iG ir aa) (au _))))) (cu (PW.pt (eR (az ↑10 (wv 2) aq (au _)) (dS (az ↑10 (wv 4) aa (au _)))))))) (ag (aD aq)) aF) (ag (aD (wv 2)))))))),?_⟩];unfold dI at q;left;rwa[iV.mk _ _ _ _ _ _ rfl hc hg.1 λp H1 s1 n1 e1=> ?_];left;rwa[hV (λh1=> ?_) (λh1=> ?_)]
 ·rw [if_pos (.inl h1)] at q;left;exact q H1 s1
 left;rw [oO];rwa[hV (λh2=> ?_) (λh2=> ?_)]
 ·rw [if_pos (.inr (List.length_eq_zero_iff.mp ↑5))] at q;left;exact q H1 s1
 rw [if_neg (λz=>z.elim h1 λz=>h2 (by rw [z];rfl))] at q;left;rwa[dJ.mk _ _ _ _ _ _ rfl (hc.same s1) ?_];left;rwa[vh (aN.of e1) rfl (sh ps) ?_];rw [Bt hpl];rwa[wg (λh3=> ?_) (λh3=> ?_)]
 ·rw [if_pos h3] at q;left;exact q H1 s1
 rw [if_neg (by rw [h3];decide)] at q;left;rwa[hV (λh4=> ?_) (λh4=> ?_)]
 ·rw [if_pos h4] at q;left;exact q H1 s1
 rw [if_neg h4] at q;by_cases h5:wd=Str.ofString "u"
 ·have h7: ¬wd=Str.ofString "d":=by rw [h5];decide
  by_cases h6:li= -1
  ·rw [if_pos (.inl ⟨h5,by omega⟩)] at q;left;exact q H1 s1
  ·rw [if_neg (λz=>z.elim (λz=>h6 ↑5) (λz=>h7 z.1))] at q;left;exact q H1 s1
 ·by_cases h7:wd=Str.ofString "d"
  ·by_cases h8:li=1
   ·rw [if_pos (.inr ⟨h7,by omega⟩)] at q;left;exact q H1 s1
   ·rw [if_neg (λz=>z.elim (λz=>h5 z.1) (λz=>h8 ↑5))] at q;left;exact q H1 s1
  ·rw [if_neg (λz=>z.elim (λz=>h5 z.1) (λz=>h7 z.1))] at q;left;exact q H1 s1
def cm (fl pl:Int)(x:Str):Str:=if x=Str.ofString "u"/\pl / 2=fl - 1 then Str.ofString "s" else if x=Str.ofString "d"/\pl / 2=0 then Str.ofString "s" else x
inductive nV (K:Fg)(vs:List V)(H:Hp)(Q:VK)(_e:XK):Prop
 |mk (fl c wd pl li dr mk ps:_) (_:vs=[.int fl,.ref c,.str wd]) (_:cA K H c pl li dr mk ps) (_:Q (.str (cm fl pl wd)) H)
theorem zj (F:bY K "bounded" "bounded" rz f fd)(bG:bO P w K mg base 1 "floor_of" ["cabin"] (dJ K)):aQ P w K mg base b8 2 f fd ["floors","cabin","word"] (nV K):=by
 rwa[F.ok AJ ↑8 ↑2]
 ·obtain ⟨fl,c,wd,pl,li,dr,mk,ps,rfl,_⟩:=h;rfl
 obtain ⟨fl,c,wd,pl,li,dr,mk,ps,rfl,hc,q⟩:=h;rwa[⟨_,(af (aJ (PW.pt (eR (az ↑10 (wv 2) aq (au _)) (dS (az ↑10 (ao bG hr ↑1 rfl ↑34) (aG eX (wv 0) aa) (au _))))) (ag (aD aq)) aF) (af (aJ (PW.pt (eR (az ↑10 (wv 2) aq (au _)) (dS (az ↑10 (ao bG hr ↑1 rfl ↑34) aa (au _))))) (ag (aD aq)) aF) (ag (aD (wv 2))))),?_⟩];unfold cm at q;by_cases h1:wd=Str.ofString "u"
 ·have h7: ¬wd=Str.ofString "d":=by rw [h1];decide
  left;erw[dJ.mk _ _ _ _ _ _ rfl hc ?_];rwa[hV (λh2=> ?_) (λh2=> ?_)]
  ·rw [if_pos ⟨h1,h2⟩] at q;left;exact q
  ·rw [if_neg (λz=>h2 z.2),if_neg (λz=>h7 z.1)] at q;left;exact q
 ·by_cases h7:wd=Str.ofString "d"
  ·left;erw[dJ.mk _ _ _ _ _ _ rfl hc ?_];rwa[hV (λh2=> ?_) (λh2=> ?_)]
   ·rw [if_neg (λz=>h1 z.1),if_pos ⟨h7,h2⟩] at q;left;exact q
   ·rw [if_neg (λz=>h1 z.1),if_neg (λz=>h2 z.2)] at q;left;exact q
  ·rw [if_neg (λz=>h1 z.1),if_neg (λz=>h7 z.1)] at q;left;exact q
inductive eu (K:Fg)(vs:List V)(H:Hp)(Q:VK)(_e:XK):Prop
 |mk (c p l d pl li dr mk ps:_) (_:vs=[.ref c,.int p,.int l,.int d]) (_:cA K H c pl li dr mk ps) (_:∀r H',ar H H'->cA K H' r p l d mk ps->Q (.ref r) H')
theorem F3 (F:bY K "with_changes" "with_changes" iY f fd):aQ P w K mg base b8 1 f fd ["cabin","place","light","door"] (eu K):=by
 rwa[F.ok tO ↑8 ↑2]
 ·obtain ⟨c,p,l,d,pl,li,dr,mk,ps,rfl,_⟩:=h;rfl
 obtain ⟨c,p,l,d,pl,li,dr,mk,ps,rfl,hc,q⟩:=h;obtain ⟨b,xs,ec,eb,dx⟩:=id hc;rwa[⟨_,(ag (aD (aP (ac (wv 1) (ac (wv 2) (ac (wv 3) (ac ↑11 (ac ↑11 ae)))))))),?_⟩];left;exact bK Ky λr H1 s1 _ e1=>q r H1 s1 ⟨b,xs,e1,s1.get eb,aO.same dx s1⟩
theorem OM {fl pl:Int}:cm fl pl (Str.ofString "o")=Str.ofString "o":=by unfold cm;rw [if_neg (λz=>absurd z.1 ↑1),if_neg (λz=>absurd z.1 ↑1)]
theorem OK {fl pl:Int}:cm fl pl (Str.ofString "x")=Str.ofString "x":=by unfold cm;rw [if_neg (λz=>absurd z.1 ↑1),if_neg (λz=>absurd z.1 ↑1)]
theorem OL {fl pl:Int}:cm fl pl (Str.ofString "s")=Str.ofString "s":=by unfold cm;rw [if_neg (λz=>absurd z.1 ↑1),if_neg (λz=>absurd z.1 ↑1)]
theorem MG {fl pl:Int}(h:pl / 2=fl - 1):cm fl pl (Str.ofString "u")=Str.ofString "s":=by unfold cm;rw [if_pos ⟨rfl,h⟩]
theorem MH {fl pl:Int}(h: ¬pl / 2=fl - 1):cm fl pl (Str.ofString "u")=Str.ofString "u":=by unfold cm;rw [if_neg (λz=>h z.2),if_neg (λz=>absurd z.1 ↑1)]
theorem MI {fl pl:Int}(h:pl / 2=0):cm fl pl (Str.ofString "d")=Str.ofString "s":=by unfold cm;rw [if_neg (λz=>absurd z.1 ↑1),if_pos ⟨rfl,h⟩]
theorem MJ {fl pl:Int}(h: ¬pl / 2=0):cm fl pl (Str.ofString "d")=Str.ofString "d":=by unfold cm;rw [if_neg (λz=>absurd z.1 ↑1),if_neg (λz=>h z.2)]
inductive nP (K:Fg)(vs:List V)(H:Hp)(Q:VK)(_e:XK):Prop
 |mk (so fl tu c wd pl li dr mk ps f0:_) (_:vs=[.str so,.int fl,.int tu,.ref c,.str wd]) (_:cA K H c pl li dr mk ps) (_:wd∈jH) (_:qv ps) (_:pl=2*f0) (_:0<=f0) (_:f0<fl) (_: -1<=li) (_:li<=1) (_:∀r H',ar H H'->cA K H' r (gU fl tu pl li dr ps (dI so pl li ps wd)).1 (gU fl tu pl li dr ps (dI so pl li ps wd)).2.1 (gU fl tu pl li dr ps (dI so pl li ps wd)).2.2 mk ps->Q (.ref r) H')
theorem Cy {H:Hp}{so:Str}{fl tu:Int}{c:Addr}{wd:Str}{pl li dr mk:Int}{ps:List (Int×Int)}{f0:Int}{Q:VK}{E:XK}(h1:cA K H c pl li dr mk ps)(h2:wd∈jH)(h3:qv ps)(h4:pl=2*f0)(h5:0<=f0)(h6:f0<fl)(h7: -1<=li)(h8:li<=1)
(g:∀r H',ar H H'->cA K H' r (gU fl tu pl li dr ps (dI so pl li ps wd)).1 (gU fl tu pl li dr ps (dI so pl li ps wd)).2.1 (gU fl tu pl li dr ps (dI so pl li ps wd)).2.2 mk ps->Q (.ref r) H'):nP K [.str so,.int fl,.int tu,.ref c,.str wd] H Q E:=⟨so,fl,tu,c,wd,pl,li,dr,mk,ps,f0,rfl,h1,h2,h3,h4,h5,h6,h7,h8,g⟩
theorem zf (F:bY K "steered" "steered" rc f fd)(bh:mg "len"=none)(wE:bO P w K mg base 2 "turned" ["sort","cabin","word"] (nQ K))(tD:bO P w K mg base 2 "bounded" ["floors","cabin","word"] (nV K))(aZ:bO P w K mg base 1 "with_changes" ["cabin","place","light","door"] (eu K)):aQ P w K mg base b8 3 f fd ["sort","floors","turns","cabin","word"] (nP K):=by
 rwa[F.ok iA ↑8 ↑2]
 ·obtain ⟨so,fl,tu,c,wd,pl,li,dr,mk,ps,f0,rfl,_⟩:=h;rfl
 obtain ⟨so,fl,tu,c,wd,pl,li,dr,mk,ps,f0,rfl,hc,hw,hg,hpl,hf0,hf1,hl1,hl2,q⟩:=h;obtain ⟨b,xs,ec,eb,dx⟩:=id hc;have hx:=aT dx;rwa[⟨_,(af (aA (i:=5) iA.nd rfl ↑6 ↑28) (af (aA (i:=6) iA.nd rfl ↑6 ↑28) (af (aA (i:=7) iA.nd rfl ↑6 ↑28) (af (aA (i:=8) iA.nd rfl ↑6 (ao tD hr ↑1 rfl (ac (wv 1) (ac (wv 3) (ac (ao wE hr ↑1 rfl (ac (wv 0) (ac (wv 3) (ac (wv 4) ae)))) ae))))) (af (aJ (az ↑10 (wv 8) aq (au _)) (ag (aD (ao aZ hr ↑1 rfl (ac (wv 3) (ac (wv 5) (ac (wv 6) (ac (wv 2) ae))))))) aF) (af (aJ (az ↑10 (wv 8) aq (au _)) (ag (aD (ao aZ hr ↑1 rfl (ac (wv 3) (ac (wv 5) (ac aa (ac (wv 2) ae))))))) aF) (af (aJ (az ↑10 (wv 8) aq (au _)) (ag (aD (ao aZ hr ↑1 rfl (ac (wv 3) (ac (aG ↑23 (wv 5) aa) (ac aa (ac (wv 7) ae))))))) aF) (af (aJ (az ↑10 (wv 8) aq (au _)) (ag (aD (ao aZ hr ↑1 rfl (ac (wv 3) (ac (aG eX (wv 5) aa) (ac (iG ir aa) (ac (wv 7) ae))))))) aF) (ag (aD (ao aZ hr ↑1 rfl (ac (wv 3) (ac (wv 5) (ac (fR (az lF (ax ↑32 rfl bh PySem.boot_len (ac ↑28 ae)) aa (au _)) (wv 6) aa) (ac (wv 7) ae))))))))))))))),?_⟩];left;erw[nQ.mk _ _ _ _ _ _ _ _ _ rfl hc hg hpl hl1 hl2 λH1 s1=> ?_];rwa[nV.mk _ _ _ _ _ _ _ _ rfl (hc.same s1) ?_];have hw':=w4 (so:=so) (pl:=pl) (li:=li) (ps:=ps) hw;generalize dI so pl li ps wd=w' at hw' q ⊢
 have en:∀pl' li' dr',gU fl tu pl li dr ps w'=(pl',li',dr')->∀r H',ar H1 H'->cA K H' r pl' li' dr' mk ps->Q (.ref r) H':=λpl' li' dr' e r H' s2 er=>by
  rwa[q r H' (s1.trans s2) ?_];rw [e];exact er
 have st:∀(Z:VK) (E':XK),(∀r H',ar H1 H'->cA K H' r pl (if ps=[] then 0 else li) dr mk ps->Z (.ref r) H')->∀l':Int,l'=(if ps=[] then 0 else li)->eu K [.ref c,.int pl,.int l',.int dr] H1 Z E':=λZ E' z l' e=>by
  subst e;exact eu.mk _ _ _ _ _ _ _ _ _ rfl (hc.same s1) z
 rcases OI hw' with rfl|rfl|rfl|rfl|rfl
 ·rw [OM];left;exact eu.mk _ _ _ _ _ _ _ _ _ rfl (hc.same s1) (en _ _ _ Mz)
 ·rw [OK];left;exact eu.mk _ _ _ _ _ _ _ _ _ rfl (hc.same s1) (en _ _ _ Mw)
 ·by_cases h1:pl / 2=fl - 1
  ·rw [MG h1];left;rwa[hV (λh2=> ?_) (λh2=> ?_)]
   ·left;exact st _ _ (en _ _ _ (Eo ↑5)) _ (by rw [if_neg (λz=>by rw [z] at hx;simp at hx;rw [hx] at h2;exact absurd h2 ↑1)])
   ·left;exact st _ _ (en _ _ _ (Eo ↑5)) _ (by rw [if_pos (List.length_eq_zero_iff.mp ↑5)])
  ·rw [MH h1];left;exact eu.mk _ _ _ _ _ _ _ _ _ rfl (hc.same s1) (en _ _ _ (Kg ↑5))
 ·by_cases h1:pl / 2=0
  ·rw [MI h1];left;rwa[hV (λh2=> ?_) (λh2=> ?_)]
   ·left;exact st _ _ (en _ _ _ (Ep ↑5)) _ (by rw [if_neg (λz=>by rw [z] at hx;simp at hx;rw [hx] at h2;exact absurd h2 ↑1)])
   ·left;exact st _ _ (en _ _ _ (Ep ↑5)) _ (by rw [if_pos (List.length_eq_zero_iff.mp ↑5)])
  ·rw [MJ h1];left;exact eu.mk _ _ _ _ _ _ _ _ _ rfl (hc.same s1) (en _ _ _ (Kh ↑5))
 ·rw [OL];left;rwa[hV (λh2=> ?_) (λh2=> ?_)]
  ·left;exact st _ _ (en _ _ _ Hx) _ (by rw [if_neg (λz=>by rw [z] at hx;simp at hx;rw [hx] at h2;exact absurd h2 ↑1)])
  ·left;exact st _ _ (en _ _ _ Hx) _ (by rw [if_pos (List.length_eq_zero_iff.mp ↑5)])
def Cc (r:be):Int:=if r.start<r.goal then 1 else -1
structure E1 where
 light:Int
 kept:List (Int×Int)
 ins:List Int
def kO (so:Str)(room pl:Int)(s:E1)(r:be):Bool:=decide (2*r.start=pl)&&decide ((s.kept.length:Int)<room)&&decide (so=Str.ofString "free"\/s.light=0\/s.light=Cc r)
def jx (so:Str)(room pl:Int)(s:E1)(r:be):E1:=if kO so room pl s r=true then ⟨if so=Str.ofString "way" then Cc r else s.light,s.kept++[(r.tag,r.goal)],s.ins++[r.tag]⟩ else s
def eN (so:Str)(room pl:Int)(s:E1)(rs:List be):E1:=rs.foldl (jx so room pl) s
theorem fj {so:Str}{room pl:Int}{s:E1}{rs:List be}{i:Nat}{r:be}(h:rs[i]? =some r):eN so room pl s (rs.take (i+1))=jx so room pl (eN so room pl s (rs.take i)) r:=by
 rw [List.take_succ,h];unfold eN;rw [List.foldl_append];rfl
theorem Cw {so:Str}{room pl:Int}(s:E1)(r:be):(jx so room pl s r).kept.length<=s.kept.length+1/\(jx so room pl s r).ins.length<=s.ins.length+1:=by
 unfold jx;split<;>simp
theorem nM {so:Str}{room pl:Int}:∀(rs:List be) (s:E1),(eN so room pl s rs).kept.length<=s.kept.length+rs.length/\(eN so room pl s rs).ins.length<=s.ins.length+rs.length
 |[],s=>⟨Nat.le_refl _,Nat.le_refl _⟩
 |r::rs,s=>by
  have h1:=nM (so:=so) (room:=room) (pl:=pl) rs (jx so room pl s r);have h2:=Cw (so:=so) (room:=room) (pl:=pl) s r;show (eN so room pl (jx so room pl s r) rs).kept.length<=_/\(eN so room pl (jx so room pl s r) rs).ins.length<=_;rw [List.length_cons];omega
def jy (pl:Int)(ps:List (Int×Int)):List (Int×Int):=ps.filter λp=> !decide (2*p.2=pl)
def fo (pl:Int)(ps:List (Int×Int)):List Int:=(ps.filter λp=>decide (2*p.2=pl)).map (·.1)
def ww (so:Str)(room pl li:Int)(ps:List (Int×Int))(rs:List be):E1:=eN so room pl ⟨li,jy pl ps,[]⟩ rs
theorem kN {α:Type}(f:α->Bool){xs:List α}{i:Nat}{x:α}(h:xs[i]? =some x):(xs.take (i+1)).filter f=(xs.take i).filter f++if f x=true then [x] else []:=by
 rw [List.take_succ,h,List.filter_append];congr 1;cases e:f x<;>simp [e]
def tZ (K:Fg)(H0 H:Hp)(n k:Addr)(ins:List Int)(kept:List (Int×Int)):Prop:=ar H0 H/\H0 n=none/\H0 k=none/\n≠k/\H n=some (.lst (ins.map V.int))/\∃ks,H k=some (.lst ks)/\aO K H ks (kept.map fb)
theorem tZ.pushN {H0 H:Hp}{n k:Addr}{ins:List Int}{kept:List (Int×Int)}(g:tZ K H0 H n k ins kept)(t:Int):tZ K H0 (upd H n (.lst (ins.map V.int++[.int t]))) n k (ins++[t]) kept:=by
 obtain ⟨s,hn,hk,ne,en,ks,ek,dk⟩:=g;rwa[⟨ar.updF s hn,hn,hk,ne,by rw [aj,List.map_append];rfl,ks,by rw [am (Ne.symm ne)];exact ek,cj dk (gB kept) en⟩]
theorem tZ.same {H0 H H':Hp}{n k:Addr}{ins:List Int}{kept:List (Int×Int)}(g:tZ K H0 H n k ins kept)(s':ar H H'):tZ K H0 H' n k ins kept:=by
 obtain ⟨s,hn,hk,ne,en,ks,ek,dk⟩:=g;exact ⟨s.trans s',hn,hk,ne,s'.get en,ks,s'.get ek,aO.same dk s'⟩
theorem tZ.pushK {H0 H:Hp}{n k l:Addr}{ins:List Int}{kept:List (Int×Int)}{ks:List V}{t g:Int}(G:tZ K H0 H n k ins kept)(ek:H k=some (.lst ks))(el:H l=some (.tup [.int t,.int g])):tZ K H0 (upd H k (.lst (ks++[.ref l]))) n k ins (kept++[(t,g)]):=by
 obtain ⟨s,hn,hk,ne,en,ks',ek',dk⟩:=G;rw [ek] at ek';cases ek';rwa[⟨ar.updF s hk,hn,hk,ne,by rw [am ne];exact en,_,aj,?_⟩];rw [List.map_append];exact Paired.app (cj dk (gB kept) ek) (.cons (cI.noL (d:=fb (t,g)) (ez (aK.of el) (.cons (.int _) (.cons (.int _) .nil))) rfl ek) .nil)
def EL (K:Fg)(H0 H:Hp)(r:Addr)(pl li dr mk:Int)(kept:List (Int×Int))(outs ins:List Int):Prop:=∃c o n,H r=some (.tup [.ref c,.ref o,.ref n])/\cA K H c pl li dr mk kept/\H o=some (.lst (outs.map V.int))/\H n=some (.lst (ins.map V.int))/\H0 o=none/\H0 n=none/\o≠n
inductive CD (vs:List V)(H:Hp)(Q:VK)(_e:XK):Prop
 |mk (so:_) (li s g:Int) (_:vs=[.str so,.int li,.int s,.int g]) (_:Q (.bl (decide (so=Str.ofString "free"\/li=0\/li=uV s g))) H)
theorem Jy (F:bY K "may_step_in" "may_step_in" lU f fd)(gA:bO P w K mg base 1 "way_of" ["start","goal"] qE):aQ P w K mg base b8 2 f fd ["sort","light","start","goal"] CD:=by
 rwa[F.ok xk ↑8 ↑2]
 ·obtain ⟨so,li,s,g,rfl,_⟩:=h;rfl
 obtain ⟨so,li,s,g,rfl,q⟩:=h;rwa[⟨_,(ag (aD (Hd (ce ↑10 (wv 0) aq (au _)) (Hd (ce ↑10 (wv 1) aa (au _)) (jQ (ce ↑10 (ao gA hr ↑1 rfl (ac (wv 2) (ac (wv 3) ae))) (wv 1) (au _))))))),?_⟩];by_cases h1:so=Str.ofString "free"
 ·rw [decide_eq_true (.inl h1)] at q;left;exact q
 ·by_cases h2:li=0
  ·rw [decide_eq_true (.inr (.inl h2))] at q;left;exact q
  ·left;rwa[qE.mk _ _ rfl ?_];have e:decide (so=Str.ofString "free"\/li=0\/li=uV s g)=decide (uV s g=li):=decide_eq_decide.mpr ⟨λz=>by rcases z with z|z|z;exact absurd z h1;exact absurd z h2;exact z.symm,λz=> .inr (.inr z.symm)⟩;rw [e] at q;exact q
inductive yD (K:Fg)(vs:List V)(H:Hp)(Q:VK)(_e:XK):Prop
 |mk (so room c p pl li dr mk ps xs:_) (rs:List be) (f0:Int) (_:vs=[.str so,.int room,.ref c,.ref p]) (_:cA K H c pl li dr mk ps) (_:ps.length<=64) (_:H p=some (.lst xs)) (_:aO K H xs (rs.map be.d)) (_:Kt rs) (_:pl=2*f0) (_:∀r H',ar H H'->EL K H H' r pl (ww so room pl li ps rs).light dr mk (ww so room pl li ps rs).kept (fo pl ps) (ww so room pl li ps rs).ins->Q (.ref r) H')
theorem Mt {H:Hp}{so:Str}{room:Int}{c p:Addr}{pl li dr mk:Int}{ps:List (Int×Int)}{xs:List V}{rs:List be}{f0:Int}{Q:VK}{E:XK}(h1:cA K H c pl li dr mk ps)(h2:ps.length<=64)(h3:H p=some (.lst xs))(h4:aO K H xs (rs.map be.d))(h5:Kt rs)(h6:pl=2*f0)
(g:∀r H',ar H H'->EL K H H' r pl (ww so room pl li ps rs).light dr mk (ww so room pl li ps rs).kept (fo pl ps) (ww so room pl li ps rs).ins->Q (.ref r) H'):yD K [.str so,.int room,.ref c,.ref p] H Q E:=⟨so,room,c,p,pl,li,dr,mk,ps,xs,rs,f0,rfl,h1,h2,h3,h4,h5,h6,g⟩
theorem Gk (F:bY K "exchanged" "exchanged" lY f fd)(bh:mg "len"=none)(bH:mg "tuple"=none)(bG:bO P w K mg base 1 "floor_of" ["cabin"] (dJ K))(gA:bO P w K mg base 1 "way_of" ["start","goal"] qE)(jp:bO P w K mg base 2 "may_step_in" ["sort","light","start","goal"] CD):aQ P w K mg base b8 3 f fd ["sort","room","cabin","riders"] (yD K):=by
 rwa[F.ok b9 ↑8 ↑2]
 ·obtain ⟨so,room,c,p,pl,li,dr,mk,ps,xs,rs,f0,rfl,_⟩:=h;rfl
 obtain ⟨so,room,c,p,pl,li,dr,mk,ps,xs,rs,f0,rfl,hc,hpl,ep,dp,hrs,hf,q⟩:=h;obtain ⟨b,bs,ec,eb,db⟩:=id hc;have bl:=aT db;have xl:=aT dp;rwa[⟨_,(af (aA (i:=4) b9.nd rfl (Or.inr rfl) (ao bG hr ↑1 rfl (ac (wv 2) ae))) (af (aA (i:=5) b9.nd rfl ↑6 ↑13) (af (fM (i:=6) rfl b9.nd rfl ↑6 (aI (N':=["tag","goal","floor"]) (pk:=[none,none,some 4]) ↑33) (bg (K:=K) rfl ↑13) (λC s H ex=>(ge (K:=K) (n:=2) rfl rfl (aV (aC (i:=0) (show List.Nodup (["tag","goal","floor"]:List Str) by decide+kernel) rfl ↑6) (aV (aC (i:=1) (show List.Nodup (["tag","goal","floor"]:List Str) by decide+kernel) rfl ↑6) eM)))) (λC s H ex=>(fO (az ↑10 (wv 1) (wv 2) (au _)))) (λC s H ex=>(wv 0))) (af (aA (i:=7) b9.nd rfl ↑6 (cZ ae)) (af (fM (i:=8) rfl b9.nd rfl ↑6 (aI (N':=["tag","goal","floor"]) (pk:=[none,none,some 4]) ↑33) (bg (K:=K) rfl ↑13) (λC s H ex=>(ge (K:=K) (n:=2) rfl rfl (aV (aC (i:=0) (show List.Nodup (["tag","goal","floor"]:List Str) by decide+kernel) rfl ↑6) (aV (aC (i:=1) (show List.Nodup (["tag","goal","floor"]:List Str) by decide+kernel) rfl ↑6) eM)))) (λC s H ex=>(fO (az (gv (K:=K) rfl hr) (wv 1) (wv 2) (au _)))) (λC s H ex=>(aP (ac (wv 0) ↑34)))) (af (du PassesOwn.never rfl (bg (K:=K) rfl (wv 3)) (ge (K:=K) (n:=4) rfl rfl (aV (aC (i:=9) b9.nd rfl ↑6) (aV (aC (i:=10) b9.nd rfl ↑6) (aV (aC (i:=11) b9.nd rfl ↑6) (aV (aC (i:=12) b9.nd rfl ↑6) eM))))) (ag (aJ (PW.pt (eR (az ↑10 (wv 10) (wv 4) (au _)) (eR (az w_lt (ax ↑32 rfl bh PySem.boot_len (ac (wv 8) ae)) (wv 1) (au _)) (dS (bt (K:=K) rfl (ao jp hr ↑1 rfl (ac (wv 0) (ac (wv 5) (ac (wv 10) (ac (wv 11) ae)))))))))) (af (aH (cz (K:=K) rfl PySem.F.plainAttrs_list PySem.F.slot_list_append PySem.F.type_list_append bw (wv 7) (ac (wv 9) ae))) (af (aH (cz (K:=K) rfl PySem.F.plainAttrs_list PySem.F.slot_list_append PySem.F.type_list_append bw (wv 8) (ac (aP (ac (wv 9) (ac (wv 11) ae))) ae))) (ag (aA (i:=5) b9.nd rfl ↑6 (fR (az ↑10 (wv 0) aq (au _)) (ao gA hr ↑1 rfl (ac (wv 10) (ac (wv 11) ae))) (wv 5)))))) aF))) (ag (aD (aP (ac (aP (ac ↑13 (ac (wv 5) (ac ↑13 (ac ↑13 (ac (br (fh (K:=K) rfl) rfl bH boot_tuple (ac (wv 8) ae)) ae)))))) (ac (wv 6) (ac (wv 7) ae)))))))))))),?_⟩];left;rwa[dJ.mk _ _ _ _ _ _ rfl hc ?_];left;rwa[dj (by walk_at "l3sq") ?_]
 refine ck (xs:=bs) (λi ys H'=>H'=H/\ys=(fo pl (ps.take i)).map V.int) (bB ↑5) (λi ys H' p=>by
  rw [p.2,List.length_map];unfold fo;rw [List.length_map];have:=List.length_filter_le (λp=>decide (2*p.2=pl)) (ps.take i);rw [List.length_take] at this;omega) ⟨rfl,rfl⟩ (λi ys H' _ p=>by rw [p.1];exact aK.of eb) (λi x ys H' hxi p=> ?_) (λys H' p o n1=> ?_)
 ·obtain ⟨rfl,rfl⟩:=p;obtain ⟨pr,hpr,dpr⟩:=b6 db hxi;obtain ⟨u,us,rfl,hu,dus⟩:=dpr.outT
  cases dus with|cons q0 r0=>cases r0 with|cons q1 r1=>
  cases r1;cases q0.isInt;cases q1.isInt;left;rwa[⟨iy,?_⟩];show if decide (pr.2=pl / 2)=true then _ else _;unfold fo;rw [kN _ hpr];by_cases h1:pr.2=pl / 2
  ·rw [if_pos (decide_eq_true h1),if_pos (decide_eq_true (show 2*pr.2=pl by omega)),List.map_append,List.map_append];exact ⟨rfl,rfl⟩
  ·rw [if_neg (by rw [decide_eq_false h1];decide),if_neg (by rw [decide_eq_false (show ¬2*pr.2=pl by omega)];decide),List.append_nil];exact ⟨rfl,rfl⟩
 obtain ⟨rfl,rfl⟩:=p;rw [List.take_of_length_le (show ps.length<=bs.length by omega)];have e1:upd H' o (.lst ((fo pl ps).map V.int)) o=some (.lst ((fo pl ps).map V.int)):=aj;have s1:ar H' (upd H' o (.lst ((fo pl ps).map V.int))):= .upd n1;generalize upd H' o (.lst ((fo pl ps).map V.int))=H1 at e1 s1 ⊢;left;rwa[iI (bB (by first|decide|simp)) λn H2 s2 n2 e2=> ?_]
 have no:n≠o:=λz=>by rw [z,e1] at n2;cases n2
 have nH:H' n=none:=s1.free n2;left;rwa[dj (by walk_at "l3sq") ?_]
 refine ck (xs:=bs) (λi ys HX=>ar H2 HX/\aO K HX ys ((jy pl (ps.take i)).map fb)) (bB ↑5) (λi ys HX p=>by
  rw [aT p.2];unfold jy;have:=List.length_filter_le (λp=> !decide (2*p.2=pl)) (ps.take i);rw [List.length_take] at this;omega) ⟨.refl _,.nil⟩ (λi ys HX _ p=>p.1.seqT (s2.seqT (s1.seqT (aK.of eb)))) (λi x ys HX hxi p=> ?_) (λys HX p k n3=> ?_)
 ·obtain ⟨sx,dy⟩:=p;obtain ⟨pr,hpr,dpr⟩:=b6 db hxi;obtain ⟨u,us,rfl,hu,dus⟩:=dpr.outT
  cases dus with|cons q0 r0=>cases r0 with|cons q1 r1=>
  cases r1;cases q0.isInt;cases q1.isInt;left;rwa[⟨iy,?_⟩];show if (!decide (pr.2=pl / 2))=true then _ else _;unfold jy;rw [kN _ hpr];by_cases h1:pr.2=pl / 2
  ·rw [if_neg (by rw [decide_eq_true h1];decide),if_neg (by rw [decide_eq_true (show 2*pr.2=pl by omega)];decide),List.append_nil];exact ⟨sx,dy⟩
  ·rw [if_pos (by rw [decide_eq_false h1];rfl),if_pos (by rw [decide_eq_false (show ¬2*pr.2=pl by omega)];rfl)];rwa[bK (bB (by first|decide|simp)) λl HY sy ny ey=> ?_];rwa[⟨sx.trans sy,?_⟩];rw [List.map_append];exact Paired.app (aO.same dy sy) (.cons (ez (aK.of ey) (.cons (.int _) (.cons (.int _) .nil))) .nil)
 obtain ⟨sx,dy⟩:=p;rw [List.take_of_length_le (show ps.length<=bs.length by omega)] at dy
 have nk:n≠k:=λz=>by rw [<-z,sx.get e2] at n3;cases n3
 have ok:o≠k:=λz=>by rw [<-z,sx.get (s2.get e1)] at n3;cases n3
 have kH:H' k=none:=s1.free (s2.free (sx.free n3));have sm3:ar H' (upd HX k (.lst ys)):=((s1.trans s2).trans sx).trans (.upd n3);have e3:upd HX k (.lst ys) n=some (.lst []):=(ar.upd n3).get (sx.get e2);have eo:upd HX k (.lst ys) o=some (.lst ((fo pl ps).map V.int)):=(ar.upd n3).get (sx.get (s2.get e1));have ek3:upd HX k (.lst ys) k=some (.lst ys):=aj;have dk3:aO K (upd HX k (.lst ys)) ys ((jy pl ps).map fb):=aO.same dy (.upd n3);generalize upd HX k (.lst ys)=H3 at sm3 e3 eo ek3 dk3 ⊢;left;rwa[cW (sm3.seq (aN.of ep)) ?_];rwa[fH (xs:=xs) (λi σ HX=>tZ K H' HX n k (eN so room pl ⟨li,jy pl ps,[]⟩ (rs.take i)).ins (eN so room pl ⟨li,jy pl ps,[]⟩ (rs.take i)).kept/\HX o=some (.lst ((fo pl ps).map V.int))/\∃t1 t2 t3 t4,σ=[some (.str so),some (.int room),some (.ref c),some (.ref p),some (.int (pl / 2)),some (.int (eN so room pl ⟨li,jy pl ps,[]⟩ (rs.take i)).light),some (.ref o),some (.ref n),some (.ref k),t1,t2,t3,t4]) ⟨⟨sm3,nH,kH,nk,e3,ys,ek3,dk3⟩,eo,_,_,_,_,rfl⟩ (λi σ HX _ pv=>by obtain ⟨⟨sm,_⟩,_⟩:=pv;exact sm.seq (aN.of ep)) (λi x σ HX hx pv=> ?_) (λσ HX pv=> ?_)]
 ·obtain ⟨G,eo,t1,t2,t3,t4,rfl⟩:=pv;obtain ⟨r,hri,dri⟩:=b6 dp hx;obtain ⟨u,us,rfl,hu,dus⟩:=dri.outT
  cases dus with|cons q0 r0=>cases r0 with|cons q1 r1=>cases r1 with|cons q2 r2=>cases r2 with|cons q3 r3=>
  cases r3;cases q0.isInt;cases q1.isInt;cases q2.isInt;cases q3.isInt;have sm:=G.1
  have lp:i<rs.length:=by have:=(List.getElem?_eq_some_iff.mp hri).1;omega
  have ll:=nM (so:=so) (room:=room) (pl:=pl) (rs.take i) ⟨li,jy pl ps,[]⟩;rw [List.length_take] at ll;have l20:=hrs.1;have kp:(jy pl ps).length<=ps.length:=List.length_filter_le _ _;generalize hS:eN so room pl ⟨li,jy pl ps,[]⟩ (rs.take i)=S at *;simp only [List.length_nil] at ll
  have nope:kO so room pl S r=false->jx so room pl S r=S:=λe=>by unfold jx;rw [e];rfl
  obtain ⟨ks,ek,dk⟩:=G.2.2.2.2.2;have kl:=aT dk;left;rwa[hV (λh1=> ?_) (λh1=> ?_)]
  ·have h1':2*r.start=pl:=by omega
   left;rw [kl];rwa[hV (λh2=> ?_) (λh2=> ?_)]
   ·left;rwa[CD.mk _ _ _ _ rfl ?_]
    have yes:(so=Str.ofString "free"\/S.light=0\/S.light=uV r.start r.goal)->jx so room pl S r=⟨if so=Str.ofString "way" then Cc r else S.light,S.kept++[(r.tag,r.goal)],S.ins++[r.tag]⟩:=λz=>by
     unfold jx kO;rw [if_pos (by rw [decide_eq_true h1',decide_eq_true h2,decide_eq_true (show so=Str.ofString "free"\/S.light=0\/S.light=Cc r from z)];rfl)]
    have en0:=G.2.2.2.2.1;rwa[hV (λh4=> ?_) (λh4=> ?_)]
    ·left;rwa[dM G.2.2.2.2.1 (zW (by rw [List.length_map];omega)) ?_];have GB:=G.pushN r.tag
     have eoB:upd HX n (.lst (S.ins.map V.int++[.int r.tag])) o=some (.lst ((fo pl ps).map V.int)):=by rw [am (Ne.symm no)];exact eo
     generalize upd HX n (.lst (S.ins.map V.int++[.int r.tag]))=HB at GB eoB ⊢;obtain ⟨ksB,ekB,dkB⟩:=GB.2.2.2.2.2;left;erw[bK (bB (by first|decide|simp)) λlA HA sA nA eA=> ?_];have GA:=GB.same sA;obtain ⟨ksA,ekA,dkA⟩:=GA.2.2.2.2.2;rwa[dM ekA (zW (by rw [aT dkA];omega)) ?_];have GC:=GA.pushK ekA eA
     have eoC:upd HA k (.lst (ksA++[.ref lA])) o=some (.lst ((fo pl ps).map V.int)):=by rw [am ok];exact sA.get eoB
     generalize upd HA k (.lst (ksA++[.ref lA]))=HC at GC eoC ⊢;ext;by_cases h5:so=Str.ofString "way"
     ·left;erw[qE.mk _ _ rfl ?_];rw [fj hri,hS,yes h4,if_pos h5];exact ⟨GC,eoC,_,_,_,_,rfl⟩
     ·left;rw [fj hri,hS,yes h4,if_neg h5];exact ⟨GC,eoC,_,_,_,_,rfl⟩
    ·left;rw [fj hri,hS,nope (by unfold kO;rw [decide_eq_false (show ¬(so=Str.ofString "free"\/S.light=0\/S.light=Cc r) from h4),Bool.and_false])];exact ⟨G,eo,_,_,_,_,rfl⟩
   ·left;rw [fj hri,hS,nope (by unfold kO;rw [decide_eq_false h2,Bool.and_false];rfl)];exact ⟨G,eo,_,_,_,_,rfl⟩
  ·left;rw [fj hri,hS,nope (by unfold kO;rw [decide_eq_false (show ¬2*r.start=pl by omega)];rfl)];exact ⟨G,eo,_,_,_,_,rfl⟩
 ·obtain ⟨G,eo,t1,t2,t3,t4,rfl⟩:=pv;rw [List.take_of_length_le (show rs.length<=xs.length by omega)] at G ⊢;obtain ⟨ks,ek,dk⟩:=G.2.2.2.2.2;have sm:=G.1;left;rwa[gH (aN.of ek) λl HA sA nA eA=> ?_];left;rwa[bK Ky λc' HB sB nB eB=> ?_];left;rwa[bK (bB (by first|decide|simp)) λr' HC sC nC eC=> ?_];exact q r' HC (((G.1.trans sA).trans sB).trans sC) ⟨c',o,n,eC,⟨l,ks,sC.get eB,sC.get (sB.get eA),by walk_at "l3sq"⟩,by walk_at "l3sq",sC.get (sB.get (sA.get G.2.2.2.2.1)),n1,nH,Ne.symm no⟩
abbrev Hr:Str:=Str.ofString "plain"
abbrev hst:Str:=Str.ofString "hasty"
abbrev EY:Str:=Str.ofString "slow"
def mj (k:Str):Prop:=k=Hr\/k=hst\/k=EY
def kc (kD kH kS:Addr)(k:Str):Addr:=if k=hst then kH else if k=EY then kS else kD
theorem JW {kD kH kS:Addr}:kc kD kH kS Hr=kD:=by unfold kc;rw [if_neg ↑1,if_neg ↑1]
theorem JX {kD kH kS:Addr}:kc kD kH kS hst=kH:=by unfold kc;rw [if_pos rfl]
theorem JV {kD kH kS:Addr}:kc kD kH kS EY=kS:=by unfold kc;rw [if_neg ↑1,if_pos rfl]
def jB (k:Str)(t n:Int)(b s:Bool):Int:=if (k=Hr/\b=true)\/(k=EY/\(b=true\/s=true)) then t else if k=hst/\b=true then n else n - 1
abbrev GY (C dx:Addr)(t:Int):HO:= .ins C dx [(Str.ofString "turns",.int t)]
inductive lI (K:Fg)(vs:List V)(H:Hp)(Q:VK)(_e:XK):Prop
 |mk (a t C dx:_) (_:vs=[.ref a,.int t]) (_:H a=some (.ins C dx [])) (_:ua K C) (_:bV K C "turns") (_:Q .non (upd H a (GY C dx t)))
theorem Gh (F:bY K "__init__" "Door.__init__" oy f fd):aQ P w K mg base b8 1 f fd ["self","turns"] (lI K):=by
 rwa[F.ok yO ↑8 ↑2]
 ·obtain ⟨a,t,C,dx,rfl,_⟩:=h;rfl
 obtain ⟨a,t,C,dx,rfl,ea,cl,na,q⟩:=h;erw[⟨_,(ag (dz (K:=K) rfl (wv 0) (wv 1))),?_⟩];exact dB ea cl na ↑1 q
inductive jK (K:Fg)(k:Str)(vs:List V)(H:Hp)(Q:VK)(_e:XK):Prop
 |mk (a n b s t C dx:_) (_:vs=[.ref a,.int n,.bl b,.bl s]) (_:H a=some (GY C dx t)) (_:ua K C) (_:bV K C "turns") (_:Q (.int (jB k t n b s)) H)
theorem DI (F:bY K "left" "Door.left" ow f fd):aQ P w K mg base b8 1 f fd ["self","count","blocked","stepped"] (jK K Hr):=by
 rwa[F.ok yN ↑8 ↑2]
 ·obtain ⟨a,n,b,s,t,C,dx,rfl,_⟩:=h;rfl
 obtain ⟨a,n,b,s,t,C,dx,rfl,ea,cl,na,q⟩:=h;rwa[⟨_,(ag (aD (fR (bt (K:=K) rfl (wv 2)) ↑12 (aG eX (wv 1) aa)))),?_⟩];cases b
 ·rw [show jB Hr t n false s=n - 1 from by unfold jB;rw [if_neg (by cases s<;>decide),if_neg ↑1]] at q;left;exact q
 ·rw [show jB Hr t n true s=t from by unfold jB;rw [if_pos (.inl ⟨rfl,rfl⟩)]] at q;left;exact ik ea cl na rfl q
theorem DH (F:bY K "left" "Hasty.left" lW f fd):aQ P w K mg base b8 1 f fd ["self","count","blocked","stepped"] (jK K hst):=by
 rwa[F.ok xq ↑8 ↑2]
 ·obtain ⟨a,n,b,s,t,C,dx,rfl,_⟩:=h;rfl
 obtain ⟨a,n,b,s,t,C,dx,rfl,ea,cl,na,q⟩:=h;rwa[⟨_,(ag (aD (fR (bt (K:=K) rfl (wv 2)) (wv 1) (aG eX (wv 1) aa)))),?_⟩];cases b
 ·rw [show jB hst t n false s=n - 1 from by unfold jB;rw [if_neg (by cases s<;>decide),if_neg ↑1]] at q;left;exact q
 ·rw [show jB hst t n true s=n from by unfold jB;rw [if_neg (by cases s<;>decide),if_pos ⟨rfl,rfl⟩]] at q;left;exact q
theorem DG (F:bY K "left" "Slow.left" nY f fd):aQ P w K mg base b8 1 f fd ["self","count","blocked","stepped"] (jK K EY):=by
 rwa[F.ok yI ↑8 ↑2]
 ·obtain ⟨a,n,b,s,t,C,dx,rfl,_⟩:=h;rfl
 obtain ⟨a,n,b,s,t,C,dx,rfl,ea,cl,na,q⟩:=h;rwa[⟨_,(ag (aD (fR (PW.pt (cG (bt (K:=K) rfl (wv 2)) (cu (bt (K:=K) rfl (wv 3))))) ↑12 (aG eX (wv 1) aa)))),?_⟩];cases b
 ·cases s
  ·rw [show jB EY t n false false=n - 1 from by unfold jB;rw [if_neg ↑1,if_neg ↑1]] at q;left;exact q
  ·rw [show jB EY t n false true=t from by unfold jB;rw [if_pos (.inr ⟨rfl,.inr rfl⟩)]] at q;left;exact ik ea cl na rfl q
 ·rw [show jB EY t n true s=t from by unfold jB;rw [if_pos (.inr ⟨rfl,.inl rfl⟩)]] at q;left;exact ik ea cl na rfl q
structure HS (K:Fg)(C:Addr):Prop where
 i:tY K C
 n:bV K C "turns"
unseal jV in
theorem JG {C:Addr}{E:XK}{t:Int}{H:Hp}{Q:VK}(c:HS K C)(g:∀a dx H',ar H H'->H a=none->H' a=some (GY C dx t)->Q (.ref a) H'):jV C (lI K) E [.int t] H Q:=by
 show ∀a dx,H a=none->H dx=none->dx≠a->lI K (.ref a::([.int t]++[])) (upd (upd H dx (.own a)) a (.ins C dx [])) (λv H2=>v= .non/\Q (.ref a) H2) E;intro a dx h1 h2 h3;rwa[lI.mk _ _ _ _ rfl aj c.i.cl c.n ⟨rfl,g a dx _ ?_ h1 aj⟩];intro b u z;rw [am (λe=>by rw [e,h1] at z;cases z)];exact iE h1 h2 b u z
inductive qM (K:Fg)(kD kH kS:Addr)(vs:List V)(H:Hp)(Q:VK)(_e:XK):Prop
 |mk (k t:_) (_:vs=[.str k,.int t]) (_:mj k) (_:∀a dx H',ar H H'->H a=none->H' a=some (GY (kc kD kH kS k) dx t)->Q (.ref a) H')
theorem Bg (F:bY K "door_of" "door_of" vI f fd)(cD:HS K tV)(cH:HS K m5)(cS:HS K v8)(D5:nJ P w K mg base b8 1 "Door" tV (lI K))(zv:nJ P w K mg base b8 1 "Hasty" m5 (lI K))(D4:nJ P w K mg base b8 1 "Slow" v8 (lI K)):aQ P w K mg base b8 3 f fd ["kind","turns"] (qM K tV m5 v8):=by
 rwa[F.ok CU ↑8 ↑2]
 ·obtain ⟨k,t,rfl,_⟩:=h;rfl
 obtain ⟨k,t,rfl,hk,q⟩:=h;rwa[⟨_,(af (aJ (az ↑10 (wv 0) aq (au _)) (ag (aD (kB zv pN hr ↑1 rfl ↑34))) aF) (af (aJ (az ↑10 (wv 0) aq (au _)) (ag (aD (kB D4 pN hr ↑1 rfl ↑34))) aF) (ag (aD (kB D5 pN hr ↑1 rfl ↑34))))),?_⟩]
 rcases hk with rfl|rfl|rfl
 ·rw [JW] at q;left;exact JG cD q
 ·rw [JX] at q;left;exact JG cH q
 ·rw [JV] at q;left;exact JG cS q
seal Fx
structure Lf where
 st:Int
 rm:Int
 tn:Int
 kd:Str
structure Hs where
 fl:Int
 ls:List Lf
 lo:Nat
 so:Str
structure Hs.ok (h:Hs):Prop where
 f2:2<=h.fl
 f8:h.fl<=8
 l1:1<=h.ls.length
 l3:h.ls.length<=3
 lf:∀l∈h.ls,1<=l.rm/\l.rm<=6/\1<=l.tn/\l.tn<=4/\mj l.kd
 so:h.so=Str.ofString "free"\/h.so=Str.ofString "way"
def Ku (K:Fg)(H:Hp)(x:V)(l:Lf):Prop:=∃b,x= .ref b/\aK K H b [.int l.st,.int l.rm,.int l.tn,.str l.kd]
def jE (K:Fg)(H:Hp)(a:Addr)(h:Hs):Prop:=h.ok/\∃p xs,aK K H a [.int h.fl,.ref p,.int (h.lo:Int),.str h.so]/\aK K H p xs/\Paired (Ku K H) xs h.ls
theorem jE.keep {H H':Hp}{a:Addr}{h:Hs}(c:jE K H a h)(s:bc H H'):jE K H' a h:=by
 obtain ⟨o,p,xs,h1,h2,h3⟩:=c;exact ⟨o,p,xs,s.sqT h1,s.sqT h2,Paired.imp' (λx l ⟨b,e,z⟩=>⟨b,e,s.sqT z⟩) h3⟩
theorem jE.same {H H':Hp}{a:Addr}{h:Hs}(c:jE K H a h)(s:ar H H'):jE K H' a h:=c.keep s.st
theorem jE.at {H:Hp}{a:Addr}{h:Hs}(c:jE K H a h){i:Int}{l:Lf}(h0:0<=i)(hl:h.ls[i.toNat]? =some l):∃p xs b,aK K H a [.int h.fl,.ref p,.int (h.lo:Int),.str h.so]/\aK K H p xs/\xs.length=h.ls.length/\ly xs i=some (.ref b)/\aK K H b [.int l.st,.int l.rm,.int l.tn,.str l.kd]:=by
 obtain ⟨o,p,xs,h1,h2,h3⟩:=c;obtain ⟨j,rfl⟩:=Int.eq_ofNat_of_zero_le h0;rw [show ((j:Int)).toNat=j by omega] at hl
 have hj:j<xs.length:=by rw [h3.len];exact (List.getElem?_eq_some_iff.mp hl).1
 obtain ⟨l',hl',b,eb,z⟩:=h3.get1 (List.getElem?_eq_getElem hj);rw [hl] at hl';cases hl';exact ⟨p,xs,b,h1,h2,h3.len,by rw [dE (List.getElem?_eq_getElem hj),eb],z⟩
inductive kQ (K:Fg)(g:Lf->V)(vs:List V)(H:Hp)(Q:VK)(_e:XK):Prop
 |mk (a h i l:_) (_:vs=[.ref a,.int i]) (_:jE K H a h) (_:0<=i) (_:h.ls[i.toNat]? =some l) (_:Q (g l) H)
theorem F8 (F:bY K "room_of" "room_of" vt f fd):aQ P w K mg base b8 1 f fd ["house","lift"] (kQ K λl=> .int l.rm):=by
 rwa[F.ok CM ↑8 ↑2]
 ·obtain ⟨a,h,i,l,rfl,_⟩:=h;rfl
 obtain ⟨a,h,i,l,rfl,hH,i0,hl,q⟩:=h;obtain ⟨p,xs,b,h1,h2,h3,h4,h5⟩:=hH.at i0 hl;erw[⟨_,(ag (aD (ak ↑4 (ak ↑4 ↑11 (wv 1) ↑3) aa ↑3))),?_⟩];erw[ai h1 rfl ?_];erw[ai h2 h4 ?_];exact ai h5 rfl q
theorem ze (F:bY K "turns_of" "turns_of" q9 f fd):aQ P w K mg base b8 1 f fd ["house","lift"] (kQ K λl=> .int l.tn):=by
 rwa[F.ok AE ↑8 ↑2]
 ·obtain ⟨a,h,i,l,rfl,_⟩:=h;rfl
 obtain ⟨a,h,i,l,rfl,hH,i0,hl,q⟩:=h;obtain ⟨p,xs,b,h1,h2,h3,h4,h5⟩:=hH.at i0 hl;erw[⟨_,(ag (aD (ak ↑4 (ak ↑4 ↑11 (wv 1) ↑3) aa ↑3))),?_⟩];erw[ai h1 rfl ?_];erw[ai h2 h4 ?_];exact ai h5 rfl q
theorem Bf (F:bY K "kind_of" "kind_of" vF f fd):aQ P w K mg base b8 1 f fd ["house","lift"] (kQ K λl=> .str l.kd):=by
 rwa[F.ok CS ↑8 ↑2]
 ·obtain ⟨a,h,i,l,rfl,_⟩:=h;rfl
 obtain ⟨a,h,i,l,rfl,hH,i0,hl,q⟩:=h;obtain ⟨p,xs,b,h1,h2,h3,h4,h5⟩:=hH.at i0 hl;erw[⟨_,(ag (aD (ak ↑4 (ak ↑4 ↑11 (wv 1) ↑3) aa ↑3))),?_⟩];erw[ai h1 rfl ?_];erw[ai h2 h4 ?_];exact ai h5 rfl q
structure Cb where
 pl:Int
 li:Int
 dr:Int
 mr:Int
 ps:List (Int×Int)
def cx (K:Fg)(H:Hp)(x:V)(c:Cb):Prop:=∃t,x= .ref t/\cA K H t c.pl c.li c.dr c.mr c.ps
theorem cA.keep {H H':Hp}{t:Addr}{pl li dr mk:Int}{ps:List (Int×Int)}(h:cA K H t pl li dr mk ps)(s:bc H H'):cA K H' t pl li dr mk ps:=by
 obtain ⟨b,xs,e1,e2,d⟩:=h;exact ⟨b,xs,s.tup e1,s.tup e2,s.dens d (gB ps)⟩
theorem cx.keep {H H':Hp}{x:V}{c:Cb}(h:cx K H x c)(s:bc H H'):cx K H' x c:=let ⟨t,e,z⟩:=h;⟨t,e,z.keep s⟩
structure MS where
 cs:List Cb
 ws:List be
 last:Int
 fire:Bool
 bl:Nat
 log:List D
abbrev oE (h lc lw:Addr)(last:Int)(fire:Bool)(bl:Nat)(ll:Addr):List (Str×V):=[(Str.ofString "house",.ref h),(Str.ofString "cabins",.ref lc),(Str.ofString "waiting",.ref lw),(Str.ofString "last",.int last),(Str.ofString "fire",.bl fire),(Str.ofString "blocked",.int (bl:Int)),(Str.ofString "log",.ref ll)]
structure uS (K:Fg)(C:Addr):Prop where
 i:tY K C
 house:bV K C "house"
 cabins:bV K C "cabins"
 waiting:bV K C "waiting"
 last:bV K C "last"
 fire:bV K C "fire"
 blocked:bV K C "blocked"
 log:bV K C "log"
structure gq (K:Fg)(C:Addr)(H0 H:Hp)(m h dx lc lw ll:Addr)(xs ys zs:List V)(M:MS):Prop where
 s:ar H0 H
 nm:H0 m=none
 nc:H0 lc=none
 nw:H0 lw=none
 nl:H0 ll=none
 cw:lc≠lw
 cl:lc≠ll
 wl:lw≠ll
 em:H m=some (.ins C dx (oE h lc lw M.last M.fire M.bl ll))
 ec:H lc=some (.lst xs)
 ew:H lw=some (.lst ys)
 el:H ll=some (.lst zs)
 dc:Paired (cx K H) xs M.cs
 dw:aO K H ys (M.ws.map be.d)
 dl:aO K H zs M.log
 ln:noLs M.log=true
inductive gu (K:Fg)(C:Addr)(H0 H:Hp)(m h:Addr)(M:MS):Prop
 |mk (dx lc lw ll xs ys zs:_) (_:gq K C H0 H m h dx lc lw ll xs ys zs M)
section
variable {C:Addr}{H0 H H':Hp}{m h dx lc lw ll:Addr}{xs ys zs:List V}{M:MS}
theorem gq.same (a:gq K C H0 H m h dx lc lw ll xs ys zs M)(s':ar H H'):gq K C H0 H' m h dx lc lw ll xs ys zs M:=
 ⟨a.s.trans s',a.nm,a.nc,a.nw,a.nl,a.cw,a.cl,a.wl,s' _ _ a.em,s' _ _ a.ec,s' _ _ a.ew,s' _ _ a.el,Paired.imp' (λx c z=>cx.keep z s'.st) a.dc,aO.same a.dw s',aO.same a.dl s',a.ln⟩
theorem gu.same (a:gu K C H0 H m h M)(s':ar H H'):gu K C H0 H' m h M:=let ⟨dx,lc,lw,ll,xs,ys,zs,z⟩:=a;⟨dx,lc,lw,ll,xs,ys,zs,z.same s'⟩
theorem gq.setC (a:gq K C H0 H m h dx lc lw ll xs ys zs M){i:Nat}{v:V}{c:Cb}(hv:cx K H v c):gq K C H0 (upd H lc (.lst (xs.set i v))) m h dx lc lw ll (xs.set i v) ys zs {M with cs:=M.cs.set i c}:=by
 have st:bc H (upd H lc (.lst (xs.set i v))):= .updL a.ec;rwa[⟨λb u z=> ?_,a.nm,a.nc,a.nw,a.nl,a.cw,a.cl,a.wl,?_,aj,?_,?_,jc (Paired.imp' (λx c z=>cx.keep z st) a.dc) (hv.keep st),st.dens a.dw (cE _),st.dens a.dl a.ln,a.ln⟩]
 ·rw [am (λe=>by rw [e,a.nc] at z;cases z)];exact a.s b u z
 ·rw [am (λe=>by have:=a.em;rw [e,a.ec] at this;cases this)];exact a.em
 ·rw [am a.cw.symm];exact a.ew
 ·rw [am a.cl.symm];exact a.el
theorem gq.setL (a:gq K C H0 H m h dx lc lw ll xs ys zs M){vs:List V}{ds:List D}(hv:aO K H vs ds)(hn:noLs ds=true):gq K C H0 (upd H ll (.lst (zs++vs))) m h dx lc lw ll xs ys (zs++vs) {M with log:=M.log++ds}:=by
 have st:bc H (upd H ll (.lst (zs++vs))):= .updL a.el;rwa[⟨λb u z=> ?_,a.nm,a.nc,a.nw,a.nl,a.cw,a.cl,a.wl,?_,?_,?_,aj,Paired.imp' (λx c z=>cx.keep z st) a.dc,st.dens a.dw (cE _),Paired.app (st.dens a.dl a.ln) (st.dens hv hn),rL a.ln hn⟩]
 ·rw [am (λe=>by rw [e,a.nl] at z;cases z)];exact a.s b u z
 ·rw [am (λe=>by have:=a.em;rw [e,a.el] at this;cases this)];exact a.em
 ·rw [am a.cl];exact a.ec
 ·rw [am a.wl];exact a.ew
theorem gq.setW (a:gq K C H0 H m h dx lc lw ll xs ys zs M){vs:List V}{rs:List be}(hv:aO K H vs (rs.map be.d)):gq K C H0 (upd H lw (.lst vs)) m h dx lc lw ll xs vs zs {M with ws:=rs}:=by
 have st:bc H (upd H lw (.lst vs)):= .updL a.ew;rwa[⟨λb u z=> ?_,a.nm,a.nc,a.nw,a.nl,a.cw,a.cl,a.wl,?_,?_,aj,?_,Paired.imp' (λx c z=>cx.keep z st) a.dc,st.dens hv (cE _),st.dens a.dl a.ln,a.ln⟩]
 ·rw [am (λe=>by rw [e,a.nw] at z;cases z)];exact a.s b u z
 ·rw [am (λe=>by have:=a.em;rw [e,a.ew] at this;cases this)];exact a.em
 ·rw [am a.cw];exact a.ec
 ·rw [am a.wl.symm];exact a.el
theorem gq.putW (a:gq K C H0 H m h dx lc lw ll xs ys zs M){l:Addr}{vs:List V}{rs:List be}(nl0:H0 l=none)(ncl:lc≠l)(nll:l≠ll)(e:H l=some (.lst vs))(hv:aO K H vs (rs.map be.d)):gq K C H0 (upd H m (.ins C dx (oE h lc l M.last M.fire M.bl ll))) m h dx lc l ll xs vs zs {M with ws:=rs}:=by
 have st:bc H (upd H m (.ins C dx (oE h lc l M.last M.fire M.bl ll))):= .updI a.em
 have nm:∀ {p:Addr} {us:List V},H p=some (.lst us)->p≠m:=λ{p us} e z=>by rw [z,a.em] at e;cases e
 rwa[⟨λb u z=> ?_,a.nm,a.nc,nl0,a.nl,ncl,a.cl,nll,aj,?_,?_,?_,Paired.imp' (λx c z=>cx.keep z st) a.dc,st.dens hv (cE _),st.dens a.dl a.ln,a.ln⟩]
 ·rw [am (λe=>by rw [e,a.nm] at z;cases z)];exact a.s b u z
 ·rw [am (nm a.ec)];exact a.ec
 ·rw [am (nm e)];exact e
 ·rw [am (nm a.el)];exact a.el
theorem gq.putF (a:gq K C H0 H m h dx lc lw ll xs ys zs M)(last:Int)(fire:Bool)(bl:Nat):gq K C H0 (upd H m (.ins C dx (oE h lc lw last fire bl ll))) m h dx lc lw ll xs ys zs {M with last:=last,fire:=fire,bl:=bl}:=by
 have st:bc H (upd H m (.ins C dx (oE h lc lw last fire bl ll))):= .updI a.em
 have nm:∀ {p:Addr} {us:List V},H p=some (.lst us)->p≠m:=λ{p us} e z=>by rw [z,a.em] at e;cases e
 rwa[⟨λb u z=> ?_,a.nm,a.nc,a.nw,a.nl,a.cw,a.cl,a.wl,aj,?_,?_,?_,Paired.imp' (λx c z=>cx.keep z st) a.dc,st.dens a.dw (cE _),st.dens a.dl a.ln,a.ln⟩]
 ·rw [am (λe=>by rw [e,a.nm] at z;cases z)];exact a.s b u z
 ·rw [am (nm a.ec)];exact a.ec
 ·rw [am (nm a.ew)];exact a.ew
 ·rw [am (nm a.el)];exact a.el
end
inductive Dd where
 |come (t s g:Int) (k:Bool)
 |lf (x:Str) (n:Int)
 |sg (x:Str)
abbrev fS:Str:=Str.ofString "come"
def Dd.v:Dd->List V
 | .come t s g k=>[.str fS,.int t,.int s,.int g,.bl k]
 | .lf x n=>[.str x,.int n]
 | .sg x=>[.str x]
def Dd.ok:Dd->Prop
 | .come _ _ _ _=>True
 | .lf x _=>x=Str.ofString "block"\/x=Str.ofString "stick"\/x=Str.ofString "free"\/x=Str.ofString "goods"\/x=Str.ofString "back"
 | .sg x=>x=Str.ofString "fire"\/x=Str.ofString "calm"
def jv (H:Hp)(a:Addr)(d:Dd):Prop:=H a=some (.tup d.v)/\d.ok
theorem jv.keep {H H':Hp}{a:Addr}{d:Dd}(h:jv H a d)(s:bc H H'):jv H' a d:=⟨s.tup h.1,h.2⟩
theorem jv.same {H H':Hp}{a:Addr}{d:Dd}(h:jv H a d)(s:ar H H'):jv H' a d:=⟨s _ _ h.1,h.2⟩
def FK (t:Int):D:= .tup [.str (Str.ofString "barred"),.int t]
def tS (t:Int):D:= .tup [.str (Str.ofString "sent"),.int t]
def kh (lo:Nat)(M:MS)(t s g:Int)(k:Bool):MS:=if lo.testBit g.toNat=true/\k=false then {M with log:=M.log++[FK t]} else if M.fire=true then {M with log:=M.log++[tS t]} else {M with ws:=M.ws++[⟨t,s,g,-1⟩]}
theorem cc {C:Addr}{H0 H:Hp}{m h dx lc lw ll:Addr}{xs ys zs:List V}{M:MS}{fn:Str}{v:V}{Q:VK}(a:gq K C H0 H m h dx lc lw ll xs ys zs M)(c:ua K C)(n:bV K C fn)(e:(oE h lc lw M.last M.fire M.bl ll).lookup fn=some v)(g:Q v H):pU K fn m H Q:=ik a.em c n e g
inductive yF (K:Fg)(C:Addr)(vs:List V)(H:Hp)(Q:VK)(_e:XK):Prop
 |mk (m t s g k h hs H0 M:_) (_:vs=[.ref m,.int t,.int s,.int g,.bl k]) (_:jE K H h hs) (_:gu K C H0 H m h M) (_:M.ws.length<=1000) (_:M.log.length<=1000) (_:0<=g) (_:g<1000) (_:∀H',bc H H'->gu K C H0 H' m h (kh hs.lo M t s g k)->Q .non H')
theorem Gn {C:Addr}{t1:Tok}(F:bY K "do_come" "do_come" vL f fd)(cM:uS K C)(dF:mg "NO_LIFT"=some (.int (-1) t1))(im:bO P w K mg base 2 "has" ["mask","k"] gw):aQ P w K mg base b8 3 f fd ["moment","tag","start","goal","key"] (yF K C):=by
 have gN:bp (.int (-1)) (.int (-1) t1):=⟨_,rfl⟩;rwa[F.ok CW ↑8 ↑2]
 ·obtain ⟨m,t,s,g,k,h,hs,H0,M,rfl,_⟩:=h;rfl
 obtain ⟨m,t,s,g,k,h,hs,H0,M,rfl,hH,hM,wl,ll',g0,g1,q⟩:=h;obtain ⟨dx,lc,lw,ll,xs,ys,zs,a⟩:=hM;obtain ⟨o,p,ps,h1,h2,h3⟩:=hH;obtain ⟨gn,rfl⟩:=Int.eq_ofNat_of_zero_le g0;have yl:=aT a.dw;have zl:zs.length=M.log.length:=a.dl.len;have cl:=cM.i.cl;erw[⟨_,(ag (aJ (PW.pt (eR (bt (K:=K) rfl (ao im hr ↑1 rfl (ac (ak ↑4 ↑12 aa ↑3) (ac (wv 3) ae)))) (dS (de (bt (K:=K) rfl (wv 4)))))) (ag (aH (cz (K:=K) rfl PySem.F.plainAttrs_list PySem.F.slot_list_append PySem.F.type_list_append bw ↑12 (ac (aP (ac aq ↑34)) ae)))) (ag (aJ (bt (K:=K) rfl ↑12) (ag (aH (cz (K:=K) rfl PySem.F.plainAttrs_list PySem.F.slot_list_append PySem.F.type_list_append bw ↑12 (ac (aP (ac aq ↑34)) ae)))) (ag (aH (cz (K:=K) rfl PySem.F.plainAttrs_list PySem.F.slot_list_append PySem.F.type_list_append bw ↑12 (ac (aP (ac (wv 1) (ac (wv 2) (ac (wv 3) (ac (eQ rfl dF gN) ae))))) ae)))))))),?_⟩];erw[cc a cl cM.house rfl ?_];erw[ai h1 rfl ?_];rwa[gw.mk _ _ rfl ↑5 ?_];unfold kh at q;rw [show ((gn:Int)).toNat=gn by omega] at q;ext;by_cases hb:hs.lo.testBit gn=true
 ·rwa[bj hb ?_]
  cases k with
  |false=>
   rw [if_pos ⟨hb,rfl⟩] at q;ext;erw[bj rfl ?_];erw[cc a cl cM.log (v:= .ref ll) rfl ?_];erw[⟨.inl ⟨rfl,_,aN.of a.el⟩,?_⟩];erw[bK ↑17 λr H1 s1 n1 e1=> ?_];rwa[dM (s1 _ _ a.el) (nL ↑5) ?_];exact q _ (s1.st.trans (.updL (s1 _ _ a.el))) ⟨dx,lc,lw,ll,xs,ys,_,(a.same s1).setL (ds:=[FK t]) (.cons (ez (aK.of e1) (.cons (.str _) (.cons (.int _) .nil))) .nil) rfl⟩
  |true=>
   rw [if_neg (λz=>by cases z.2)] at q;ext;erw[aB rfl ?_];erw[cc a cl cM.fire (v:= .bl M.fire) rfl ?_]
   cases hf:M.fire with
   |true=>
    rw [if_pos hf] at q;erw[bj rfl ?_];erw[cc a cl cM.log (v:= .ref ll) rfl ?_];erw[⟨.inl ⟨rfl,_,aN.of a.el⟩,?_⟩];erw[bK ↑17 λr H1 s1 n1 e1=> ?_];rwa[dM (s1 _ _ a.el) (nL ↑5) ?_];exact q _ (s1.st.trans (.updL (s1 _ _ a.el))) ⟨dx,lc,lw,ll,xs,ys,_,(a.same s1).setL (ds:=[tS t]) (.cons (ez (aK.of e1) (.cons (.str _) (.cons (.int _) .nil))) .nil) rfl⟩
   |false=>
    rw [if_neg (by rw [hf];decide)] at q;erw[aB rfl ?_];erw[cc a cl cM.waiting (v:= .ref lw) rfl ?_];erw[⟨.inl ⟨rfl,_,aN.of a.ew⟩,?_⟩];erw[bK (bB (by show 4<=1000000;decide)) λr H1 s1 n1 e1=> ?_];rwa[dM (s1 _ _ a.ew) (nL ↑5) ?_];rwa[q _ (s1.st.trans (.updL (s1 _ _ a.ew))) ⟨dx,lc,lw,ll,xs,_,zs,(a.same s1).setW (rs:=M.ws++[⟨t,s,(gn:Int),-1⟩]) ?_⟩];rw [List.map_append];exact Paired.app (aO.same a.dw s1) (.cons (ez (aK.of e1) (.cons (.int _) (.cons (.int _) (.cons (.int _) (.cons (.int _) .nil))))) .nil)
 ·erw[aB (by simpa using hb) ?_];rwa[aB rfl ?_];rw [if_neg (λz=>hb z.1)] at q;ext;erw[cc a cl cM.fire (v:= .bl M.fire) rfl ?_]
  cases hf:M.fire with
  |true=>
   rw [if_pos hf] at q;erw[bj rfl ?_];erw[cc a cl cM.log (v:= .ref ll) rfl ?_];erw[⟨.inl ⟨rfl,_,aN.of a.el⟩,?_⟩];erw[bK ↑17 λr H1 s1 n1 e1=> ?_];rwa[dM (s1 _ _ a.el) (nL ↑5) ?_];exact q _ (s1.st.trans (.updL (s1 _ _ a.el))) ⟨dx,lc,lw,ll,xs,ys,_,(a.same s1).setL (ds:=[tS t]) (.cons (ez (aK.of e1) (.cons (.str _) (.cons (.int _) .nil))) .nil) rfl⟩
  |false=>
   rw [if_neg (by rw [hf];decide)] at q;erw[aB rfl ?_];erw[cc a cl cM.waiting (v:= .ref lw) rfl ?_];erw[⟨.inl ⟨rfl,_,aN.of a.ew⟩,?_⟩];erw[bK (bB (by show 4<=1000000;decide)) λr H1 s1 n1 e1=> ?_];rwa[dM (s1 _ _ a.ew) (nL ↑5) ?_];rwa[q _ (s1.st.trans (.updL (s1 _ _ a.ew))) ⟨dx,lc,lw,ll,xs,_,zs,(a.same s1).setW (rs:=M.ws++[⟨t,s,(gn:Int),-1⟩]) ?_⟩];rw [List.map_append];exact Paired.app (aO.same a.dw s1) (.cons (ez (aK.of e1) (.cons (.int _) (.cons (.int _) (.cons (.int _) (.cons (.int _) .nil))))) .nil)
theorem cB {H:Hp}{x:V}{r:be}(h:cI K H x r.d):∃a,x= .ref a/\aK K H a [.int r.tag,.int r.start,.int r.goal,.int r.lift]:=by
 obtain ⟨a,xs,rfl,h1,h2⟩:=h.outT
 cases h2 with|cons q0 t0=>cases t0 with|cons q1 t1=>cases t1 with|cons q2 t2=>cases t2 with|cons q3 t3=>
 cases t3;cases q0.isInt;cases q1.isInt;cases q2.isInt;cases q3.isInt;exact ⟨a,rfl,h1⟩
inductive mQ (K:Fg)(vs:List V)(H:Hp)(Q:VK)(_e:XK):Prop
 |mk (x r i:_) (_:vs=[x,.int i]) (_:cI K H x (be.d r)) (_:∀v H',ar H H'->cI K H' v (be.d {r with lift:=i})->Q v H')
theorem DQ (F:bY K "dealt_to" "dealt_to" rp f fd):aQ P w K mg base b8 1 f fd ["rider","lift"] (mQ K):=by
 rwa[F.ok AI ↑8 ↑2]
 ·obtain ⟨x,r,i,rfl,_⟩:=h;rfl
 obtain ⟨x,r,i,rfl,hd,q⟩:=h;obtain ⟨a,rfl,hT⟩:=cB hd;erw[⟨_,(ag (aD (aP (ac ↑11 (ac ↑11 (ac ↑11 ↑34)))))),?_⟩];erw[ai hT rfl ?_];erw[ai hT rfl ?_];erw[ai hT rfl ?_];exact bK (bB (by show 4<=1000000;decide)) λb H2 s2 n2 e2=>q _ H2 s2 (ez (aK.of e2) (.cons (.int _) (.cons (.int _) (.cons (.int _) (.cons (.int _) .nil)))))
inductive w9 (K:Fg)(vs:List V)(H:Hp)(Q:VK)(_e:XK):Prop
 |mk (c i pl li dr mk ps:_) (_:vs=[.ref c,.int i]) (_:cA K H c pl li dr mk ps) (_:∀r H',ar H H'->cA K H' r pl li dr i ps->Q (.ref r) H')
theorem Js (F:bY K "with_marks" "with_marks" lN f fd):aQ P w K mg base b8 1 f fd ["cabin","marks"] (w9 K):=by
 rwa[F.ok xf ↑8 ↑2]
 ·obtain ⟨c,i,pl,li,dr,mk,ps,rfl,_⟩:=h;rfl
 obtain ⟨c,i,pl,li,dr,mk,ps,rfl,⟨b,xs,ec,eb,dx⟩,q⟩:=h;rwa[⟨_,(ag (aD (aP (ac ↑11 (ac ↑11 (ac ↑11 (ac (wv 1) (ac ↑11 ae)))))))),?_⟩];have hT:=aK.of (K:=K) ec;ext;erw[ai hT rfl ?_];erw[ai hT rfl ?_];erw[ai hT rfl ?_];erw[ai hT rfl ?_];exact bK (bB (by show 5<=1000000;decide)) λr H2 s2 n2 e2=>q r H2 s2 ⟨b,xs,e2,s2 _ _ eb,aO.same dx s2⟩
def pQ (M n:Nat):Nat:=if M.testBit n=true then M - 2^n else M
theorem Kk {M n:Nat}(h:M.testBit n=true):2^n<=M:=Nat.ge_two_pow_of_testBit h
inductive nO (vs:List V)(H:Hp)(Q:VK)(_e:XK):Prop
 |mk (M n:Nat) (_:vs=[.int (M:Int),.int (n:Int)]) (_:n<=1000) (_:Q (.int ((pQ M n:Nat):Int)) H)
theorem zd (F:bY K "without" "without" qZ f fd)(qd:bO P w K mg base 1 "bit" ["k"] mR)(im:bO P w K mg base 2 "has" ["mask","k"] gw):aQ P w K mg base b8 3 f fd ["mask","k"] nO:=by
 rwa[F.ok AC ↑8 ↑2]
 ·obtain ⟨M,n,rfl,_⟩:=h;rfl
 obtain ⟨M,n,rfl,hn,q⟩:=h;erw[⟨_,(af (aJ (bt (K:=K) rfl (ao im hr ↑1 rfl (ac (wv 0) ↑34))) (ag (aD (aG eX (wv 0) (ao qd hr ↑1 rfl ↑34)))) aF) (ag (aD (wv 0)))),?_⟩];erw[gw.mk _ _ rfl hn ?_];unfold pQ at q;by_cases hb:M.testBit n=true
 ·rw [if_pos hb] at q;erw[bj hb ?_];rwa[mR.mk _ rfl hn ?_];have:=Kk hb;rw [show ((M - 2^n:Nat):Int)=(M:Int) - ((2^n:Nat):Int) by omega] at q;exact q
 ·rw [if_neg hb] at q;rwa[aB (by simpa using hb) ?_];exact q
def atC (M:MS)(i:Int)(c:Cb):Prop:=0<=i/\M.cs[i.toNat]? =some c
theorem gq.atC {C:Addr}{H0 H:Hp}{m h dx lc lw ll:Addr}{xs ys zs:List V}{M:MS}(a:gq K C H0 H m h dx lc lw ll xs ys zs M){i:Int}{c:Cb}(hc:atC M i c):∃t,xs[i.toNat]? =some (.ref t)/\ly xs i=some (.ref t)/\cA K H t c.pl c.li c.dr c.mr c.ps/\i.toNat<xs.length:=by
 obtain ⟨i0,hc⟩:=hc;obtain ⟨j,rfl⟩:=Int.eq_ofNat_of_zero_le i0;rw [show ((j:Int)).toNat=j by omega] at hc ⊢
 have hj:j<xs.length:=by rw [a.dc.len];exact (List.getElem?_eq_some_iff.mp hc).1
 obtain ⟨c',hc',t,et,ht⟩:=a.dc.get1 (List.getElem?_eq_getElem hj);rw [hc] at hc';cases hc';exact ⟨t,by rw [List.getElem?_eq_getElem hj,et],by rw [dE (List.getElem?_eq_getElem hj),et],ht,hj⟩
theorem pT {xs:List V}{i:Int}(h0:0<=i)(h1:i.toNat<xs.length):xH xs.length i=some i.toNat:=by
 unfold xH;rw [if_pos ↑5,if_pos ↑5]
def dR (i:Int)(ws:List be):List be:=ws.map λr=>if r.lift=i then {r with lift:= -1} else r
def rB (i:Int)(k:Nat)(c:Cb)(M:MS):MS:= {M with cs:=M.cs.set i.toNat {c with mr:=((c.mr.toNat|||2^k:Nat):Int)},ws:=dR i M.ws}
def me (i:Int)(k:Nat)(c:Cb)(M:MS):MS:= {M with cs:=M.cs.set i.toNat {c with mr:=((pQ c.mr.toNat k:Nat):Int)}}
inductive u1 (K:Fg)(C:Addr)(vs:List V)(H:Hp)(Q:VK)(_e:XK):Prop
 |mk (m i h H0 M c:_) (k:Nat) (_:vs=[.ref m,.int i,.int (k:Int)]) (_:k<=1000) (_:gu K C H0 H m h M) (_:M.ws.length<=1000) (_:atC M i c) (_:0<=c.mr) (_:∀H',bc H H'->gu K C H0 H' m h (rB i k c M)->Q .non H')
theorem F9 {C:Addr}{t1:Tok}(F:bY K "put_mark" "put_mark" rf f fd)(cM:uS K C)(dF:mg "NO_LIFT"=some (.int (-1) t1))(d6:bO P w K mg base 2 "with_bit" ["mask","k"] iU)(fe:bO P w K mg base 1 "with_marks" ["cabin","marks"] (w9 K))(gE:bO P w K mg base 1 "dealt_to" ["rider","lift"] (mQ K)):aQ P w K mg base b8 3 f fd ["moment","lift","mark"] (u1 K C):=by
 have gN:bp (.int (-1)) (.int (-1) t1):=⟨_,rfl⟩;rwa[F.ok uk ↑8 ↑2]
 ·obtain ⟨m,i,h,H0,M,c,k,rfl,_⟩:=h;rfl
 obtain ⟨m,i,h,H0,M,c,k,rfl,k1,⟨dx,lc,lw,ll,xs,ys,zs,a⟩,wl,hc,m0,q⟩:=h;obtain ⟨t,hx,hi,ht,hlt⟩:=a.atC hc;obtain ⟨mn,hmn⟩:=Int.eq_ofNat_of_zero_le m0;have cl:=cM.i.cl;erw[⟨_,(af (aA (i:=3) uk.nd rfl ↑6 (ak ↑4 ↑12 (wv 1) ↑3)) (af (fA (ao fe hr ↑1 rfl (ac (wv 3) (ac (ao d6 hr ↑1 rfl (ac ↑28 (ac (wv 2) ae))) ae))) (fB ↑12 (wv 1) iq)) (ag (dz (K:=K) rfl (wv 0) (bD rfl (aI (N':=["rider","lift"]) (pk:=[none,some 1]) ↑33) (bg (K:=K) rfl ↑12) (λC s H ex=>(aC (i:=0) (show List.Nodup (["rider","lift"]:List Str) by decide+kernel) rfl ↑6)) ↑37 (λC s H ex=>(fR (az ↑10 ↑11 (wv 1) (au _)) (ao gE hr ↑1 rfl (ac (wv 0) (ac (eQ rfl dF gN) ae))) (wv 0)))))))),?_⟩];erw[cc a cl cM.cabins (v:= .ref lc) rfl ?_];erw[bi (aN.of a.ec) hi ?_];obtain ⟨b,bs,et,eb,db⟩:=id ht;rwa[ai (aK.of et) rfl ?_];rw [hmn] at ht ⊢;ext;erw[iU.mk _ _ rfl k1 ?_];erw[w9.mk _ _ _ _ _ _ _ rfl ht λt2 H1 s1 ht2=> ?_];have a1:=a.same s1;erw[cc a1 cl cM.cabins (v:= .ref lc) rfl ?_];rwa[gI (j:=i.toNat) a1.ec (pT hc.1 hlt) ?_];have a2:=a1.setC (i:=i.toNat) (c:= {c with mr:=((mn|||2^k:Nat):Int)}) ⟨t2,rfl,ht2⟩;generalize hH2:upd H1 lc (.lst (xs.set i.toNat (.ref t2)))=H2 at a2
 have st2:bc H H2:=by rw [<-hH2];exact s1.st.trans (.updL a1.ec)
 clear hH2;ext;erw[cc a2 cl cM.waiting (v:= .ref lw) rfl ?_];rwa[cW (aN.of a2.ew) ?_];have yl:ys.length=M.ws.length:=aT a.dw;rwa[bZ (xs:=ys) (λj us HX=>ar H2 HX/\us.length=j/\aO K HX us ((dR i (M.ws.take j)).map be.d)) (bB ↑5) (λj us HX h=>Nat.le_of_eq h.2.1) ⟨.refl _,rfl,.nil⟩ (λj us HX _ h=>h.1.seq (aN.of a2.ew)) ↑29 (λus HX hP l n=> ?_)]
 ·obtain ⟨sx,hul,hd⟩:=hP;obtain ⟨r,hr',dr⟩:=b6 (f:=be.d) a2.dw hy;have hr':M.ws[j]? =some r:=hr';obtain ⟨ra,rfl,hT⟩:=cB (cI.same dr sx)
  have nx:dR i (M.ws.take (j+1))=dR i (M.ws.take j)++[if r.lift=i then {r with lift:= -1} else r]:=by
   unfold dR;rw [List.take_add_one,hr',List.map_append];rfl
  erw[⟨bC,?_⟩];erw[ai hT rfl ?_];rwa[hV (λz=> ?_) (λz=> ?_)]
  ·ext;rwa[mQ.mk _ _ _ rfl (cI.same dr sx) λv H3 s3 dv=>⟨sx.trans s3,by simp [hul],?_⟩];rw [nx,if_pos z,List.map_append];exact Paired.app (aO.same hd s3) (.cons dv .nil)
  ·ext;rwa[⟨sx,by simp [hul],?_⟩];rw [nx,if_neg z,List.map_append];exact Paired.app hd (.cons (cI.same dr sx) .nil)
 obtain ⟨sx,hul,hd⟩:=hP;rw [yl,List.take_of_length_le ↑15] at hd;have aX:=a2.same sx;have s3:ar HX (upd HX l (.lst us)):= .upd n;have a3:=aX.same s3;have e3:upd HX l (.lst us) l=some (.lst us):=aj;generalize hH3:upd HX l (.lst us)=H3 at s3 a3 e3 ⊢
 have nlc:lc≠l:=λz=>by rw [<-z,aX.ec] at n;cases n
 have nll:l≠ll:=λz=>by rw [z,aX.el] at n;cases n
 ext;rwa[dB a3.em cl cM.waiting (by show 7<1000;decide) ?_];have a4:=a3.putW (rs:=dR i M.ws) (none_of aX.s n) nlc nll e3 (aO.same hd s3);rwa[q _ ((st2.trans (sx.trans s3).st).trans (.updI a3.em)) ⟨dx,lc,l,ll,xs.set i.toNat (.ref t2),us,zs,?_⟩]
 have ec:rB i k c M= {M with cs:=M.cs.set i.toNat {c with mr:=((mn|||2^k:Nat):Int)},ws:=dR i M.ws}:=by
  unfold rB;rw [hmn];rfl
 rw [ec];exact a4
inductive qi (K:Fg)(C:Addr)(vs:List V)(H:Hp)(Q:VK)(_e:XK):Prop
 |mk (m i h H0 M c:_) (k:Nat) (_:vs=[.ref m,.int i,.int (k:Int)]) (_:k<=1000) (_:gu K C H0 H m h M) (_:atC M i c) (_:0<=c.mr) (_:∀H',bc H H'->gu K C H0 H' m h (me i k c M)->Q .non H')
theorem DE {C:Addr}(F:bY K "lose_mark" "lose_mark" oh f fd)(cM:uS K C)(sM:bO P w K mg base 3 "without" ["mask","k"] nO)(fe:bO P w K mg base 1 "with_marks" ["cabin","marks"] (w9 K)):aQ P w K mg base b8 4 f fd ["moment","lift","mark"] (qi K C):=by
 rwa[F.ok qU ↑8 ↑2]
 ·obtain ⟨m,i,h,H0,M,c,k,rfl,_⟩:=h;rfl
 obtain ⟨m,i,h,H0,M,c,k,rfl,k1,⟨dx,lc,lw,ll,xs,ys,zs,a⟩,hc,m0,q⟩:=h;obtain ⟨t,hx,hi,ht,hlt⟩:=a.atC hc;obtain ⟨mn,hmn⟩:=Int.eq_ofNat_of_zero_le m0;have cl:=cM.i.cl;erw[⟨_,(af (aA (i:=3) qU.nd rfl ↑6 (ak ↑4 ↑12 (wv 1) ↑3)) (ag (fA (ao fe hr ↑1 rfl (ac (wv 3) (ac (ao sM hr ↑1 rfl (ac ↑28 (ac (wv 2) ae))) ae))) (fB ↑12 (wv 1) iq)))),?_⟩];erw[cc a cl cM.cabins (v:= .ref lc) rfl ?_];erw[bi (aN.of a.ec) hi ?_];obtain ⟨b,bs,et,eb,db⟩:=id ht;rwa[ai (aK.of et) rfl ?_];rw [hmn] at ht ⊢;ext;erw[nO.mk _ _ rfl k1 ?_];erw[w9.mk _ _ _ _ _ _ _ rfl ht λt2 H1 s1 ht2=> ?_];have a1:=a.same s1;erw[cc a1 cl cM.cabins (v:= .ref lc) rfl ?_];rwa[gI (j:=i.toNat) a1.ec (pT hc.1 hlt) ?_];have a2:=a1.setC (i:=i.toNat) (c:= {c with mr:=((pQ mn k:Nat):Int)}) ⟨t2,rfl,ht2⟩;rwa[q _ (s1.st.trans (.updL a1.ec)) ⟨dx,lc,lw,ll,xs.set i.toNat (.ref t2),ys,zs,?_⟩]
 have ec:me i k c M= {M with cs:=M.cs.set i.toNat {c with mr:=((pQ mn k:Nat):Int)}}:=by
  unfold me;rw [hmn];rfl
 rw [ec];exact a2
def xO (M:MS):MS:= {M with fire:=true,log:=M.log++M.ws.map λr=>tS r.tag,ws:=[]}
theorem xv (rs:List be):noLs (rs.map λr=>tS r.tag)=true:=by
 induction rs with
 |nil=>rfl
 |cons r rs ih=>rw [List.map_cons,noLs,ih];rfl
inductive yC (K:Fg)(C:Addr)(vs:List V)(H:Hp)(Q:VK)(_e:XK):Prop
 |mk (m h H0 M:_) (_:vs=[.ref m]) (_:gu K C H0 H m h M) (_:M.ws.length<=1000) (_:M.log.length<=1000) (_:∀H',bc H H'->gu K C H0 H' m h (xO M)->Q .non H')
theorem Gj {C:Addr}(F:bY K "do_fire" "do_fire" vJ f fd)(cM:uS K C):aQ P w K mg base b8 1 f fd ["moment"] (yC K C):=by
 rwa[F.ok CV ↑8 ↑2]
 ·obtain ⟨m,h,H0,M,rfl,_⟩:=h;rfl
 obtain ⟨m,h,H0,M,rfl,⟨dx,lc,lw,ll,xs,ys,zs,a⟩,wl,gl,q⟩:=h;have cl:=cM.i.cl;have yl:ys.length=M.ws.length:=aT a.dw;have zl:zs.length=M.log.length:=a.dl.len;erw[⟨_,(af (dz (K:=K) rfl (wv 0) gy) (af (aH (cz (K:=K) rfl PySem.F.plainAttrs_list PySem.F.slot_list_extend PySem.F.type_list_extend iw ↑12 (ac (bD rfl (aI (N':=["tag","start","goal","lift"]) (pk:=[none,none,none,none]) ↑33) (bg (K:=K) rfl ↑12) (λC s H ex=>(ge (K:=K) (n:=4) rfl rfl (aV (aC (i:=0) ↑16 rfl ↑6) (aV (aC (i:=1) ↑16 rfl ↑6) (aV (aC (i:=2) ↑16 rfl ↑6) (aV (aC (i:=3) ↑16 rfl ↑6) eM)))))) ↑37 (λC s H ex=>(aP (ac aq (ac (wv 0) ae))))) ae))) (ag (dz (K:=K) rfl (wv 0) (cZ ae))))),?_⟩];rwa[dB a.em cl cM.fire (by show 7<1000;decide) ?_];have a1:=a.putF M.last true M.bl;generalize hH1:upd H m (.ins C dx (oE h lc lw M.last true M.bl ll))=H1 at a1
 have st1:bc H H1:=by rw [<-hH1];exact .updI a.em
 have e0:putF (Str.ofString "fire") (.bl true) (oE h lc lw M.last M.fire M.bl ll)=oE h lc lw M.last true M.bl ll:=rfl;rw [e0,hH1];clear hH1 e0;ext;erw[cc a1 cl cM.log (v:= .ref ll) rfl ?_];erw[⟨.inl ⟨rfl,_,aN.of a1.el⟩,?_⟩];erw[cc a1 cl cM.waiting (v:= .ref lw) rfl ?_];rwa[cW (aN.of a1.ew) ?_];rwa[bZ (xs:=ys) (λj us HX=>ar H1 HX/\us.length=j/\aO K HX us ((M.ws.take j).map λr=>tS r.tag)) (bB ↑5) (λj us HX h=>Nat.le_of_eq h.2.1) ⟨.refl _,rfl,.nil⟩ (λj us HX _ h=>h.1.seq (aN.of a1.ew)) ↑29 (λus HX hP l n=> ?_)]
 ·obtain ⟨sx,hul,hd⟩:=hP;obtain ⟨r,hr',dr⟩:=b6 (f:=be.d) a1.dw hy;have hr':M.ws[j]? =some r:=hr';obtain ⟨ra,rfl,hT⟩:=cB (cI.same dr sx);ext;erw[pH hT rfl ?_];erw[⟨mJ,?_⟩];rwa[bK ↑17 λv H3 s3 n3 e3=>⟨sx.trans s3,by simp [hul],?_⟩];rw [List.take_add_one,hr',List.map_append];exact Paired.app (aO.same hd s3) (.cons (ez (aK.of e3) (.cons (.str _) (.cons (.int _) .nil))) .nil)
 obtain ⟨sx,hul,hd⟩:=hP;rw [yl,List.take_of_length_le ↑15] at hd;have aX:=a1.same sx;have s3:ar HX (upd HX l (.lst us)):= .upd n;have a3:=aX.same s3;have e3:upd HX l (.lst us) l=some (.lst us):=aj;generalize hH3:upd HX l (.lst us)=H3 at s3 a3 e3 ⊢;ext;rwa[uE a3.el e3 (bB ↑5) ?_];have a4:=a3.setL (aO.same hd s3) (xv M.ws);generalize hH4:upd H3 ll (.lst (zs++us))=H4 at a4
 have st4:bc H H4:=by rw [<-hH4];exact st1.trans ((sx.trans s3).st.trans (.updL a3.el))
 clear hH4;ext;rwa[iI ↑35 λl5 H5 s5 n5 e5=> ?_];have a5:=a4.same s5
 have nlc:lc≠l5:=λz=>by rw [<-z,a4.ec] at n5;cases n5
 have nll:l5≠ll:=λz=>by rw [z,a4.el] at n5;cases n5
 ext;rwa[dB a5.em cl cM.waiting (by show 7<1000;decide) ?_];have a6:=a5.putW (rs:=[]) (none_of a4.s n5) nlc nll e5 .nil;exact q _ ((st4.trans s5.st).trans (.updI a5.em)) ⟨dx,lc,l5,ll,xs,[],_,a6⟩
def cO (c:Cb):Bool:=decide (c.pl=0)&&decide (0<c.dr)&&decide (c.ps=[])
inductive u7 (K:Fg)(vs:List V)(H:Hp)(Q:VK)(_e:XK):Prop
 |mk (t c:_) (_:vs=[.ref t]) (_:cA K H t (Cb.pl c) (Cb.li c) (Cb.dr c) (Cb.mr c) (Cb.ps c)) (_:Q (.bl (cO c)) H)
theorem DJ (F:bY K "is_left" "is_left" vG f fd)(bh:mg "len"=none):aQ P w K mg base b8 1 f fd ["cabin"] (u7 K):=by
 rwa[F.ok CT ↑8 ↑2]
 ·obtain ⟨t,c,rfl,_⟩:=h;rfl
 obtain ⟨t,c,rfl,⟨b,bs,et,eb,db⟩,q⟩:=h;have hT:=aK.of (K:=K) et;have bl:=aT db;rwa[⟨_,(ag (aD (ib (ce ↑10 ↑11 aa (au _)) (ib (ce lF ↑11 aa (au _)) (jQ (ce ↑10 (ax ↑32 rfl bh PySem.boot_len (ac ↑11 ae)) aa (au _))))))),?_⟩];unfold cO at q;ext;erw[ai hT rfl ?_];rwa[hV (λz=> ?_) (λz=> ?_)]
 ·rw [decide_eq_true z] at q;ext;erw[ai hT rfl ?_];rwa[hV (λz2=> ?_) (λz2=> ?_)]
  ·rw [decide_eq_true (show 0<c.dr from z2)] at q;ext;erw[ai hT rfl ?_];erw[cY (aK.of eb) ?_];have e:decide (((bs.length:Nat):Int)=0)=decide (c.ps=[]):=decide_eq_decide.mpr ⟨λy=>List.length_eq_zero_iff.mp ↑5,λy=>by rw [bl,y];rfl⟩;show Q (.bl (decide (((bs.length:Nat):Int)=0))) H;rw [e];exact q
  ·rw [decide_eq_false (show ¬0<c.dr from z2)] at q;exact q
 ·rw [decide_eq_false z] at q;exact q
def pX (M:MS):MS:=if M.cs.all cO=true then {M with fire:=false} else M
inductive yG (K:Fg)(C:Addr)(vs:List V)(H:Hp)(Q:VK)(_e:XK):Prop
 |mk (m h H0 M:_) (_:vs=[.ref m]) (_:gu K C H0 H m h M) (_:M.cs.length<=10) (_:∀H',bc H H'->gu K C H0 H' m h (pX M)->Q .non H')
theorem Gp {C:Addr}(F:bY K "do_calm" "do_calm" vM f fd)(cM:uS K C)(Bl:mg "all"=none)(sS:bO P w K mg base 1 "is_left" ["cabin"] (u7 K)):aQ P w K mg base b8 2 f fd ["moment"] (yG K C):=by
 rwa[F.ok CY ↑8 ↑2]
 ·obtain ⟨m,h,H0,M,rfl,_⟩:=h;rfl
 obtain ⟨m,h,H0,M,rfl,⟨dx,lc,lw,ll,xs,ys,zs,a⟩,c10,q⟩:=h;have cl:=cM.i.cl;have xl:xs.length=M.cs.length:=a.dc.len;erw[⟨_,(ag (aJ (bt (K:=K) rfl (ax (Hh (K:=K) rfl rfl) rfl Bl boot_all (ac (bD rfl (aI (N':=["cabin"]) (pk:=[none]) ↑33) (bg (K:=K) rfl ↑12) (λC s H ex=>(aC (i:=0) (show List.Nodup (["cabin"]:List Str) by decide+kernel) rfl ↑6)) ↑37 (λC s H ex=>(ao sS hr ↑1 rfl (ac (wv 0) ae)))) ae))) (ag (dz (K:=K) rfl (wv 0) gy)) aF)),?_⟩];erw[cc a cl cM.cabins (v:= .ref lc) rfl ?_];rwa[cW (aN.of a.ec) ?_];rwa[bZ (xs:=xs) (λj us HX=>HX=H/\us=((M.cs.take j).map cO).map V.bl) (bB ↑5) ↑24 ⟨rfl,rfl⟩ (λj us HX _ h=>by rw [h.1];exact aN.of a.ec) ↑29 (λus HX hP l n=> ?_)]
 ·obtain ⟨rfl,rfl⟩:=hP;obtain ⟨c,hc,t,rfl,ht⟩:=a.dc.get1 hy;erw[⟨bC,?_⟩];rwa[u7.mk _ _ rfl ht ⟨rfl,?_⟩];rw [List.take_add_one,hc,List.map_append,List.map_append];rfl
 obtain ⟨rfl,rfl⟩:=hP;rw [xl,List.take_of_length_le ↑15];have s3:ar HX (upd HX l (.lst ((M.cs.map cO).map V.bl))):= .upd n;have a3:=a.same s3;have e3:upd HX l (.lst ((M.cs.map cO).map V.bl)) l=some (.lst ((M.cs.map cO).map V.bl)):=aj;generalize hH3:upd HX l (.lst ((M.cs.map cO).map V.bl))=H3 at s3 a3 e3 ⊢;clear hH3;ext;rwa[HH (bs:=M.cs.map cO) (aN.of e3) ?_];rw [List.all_map];ext;unfold pX at q;by_cases z:M.cs.all cO=true
 ·rw [if_pos z] at q;erw[bj z ?_];rwa[dB a3.em cl cM.fire (by show 7<1000;decide) ?_];exact q _ (s3.st.trans (.updI a3.em)) ⟨dx,lc,lw,ll,xs,ys,zs,a3.putF M.last false M.bl⟩
 ·rw [if_neg z] at q;rwa[aB (by simpa using z) ?_];exact q _ s3.st ⟨dx,lc,lw,ll,xs,ys,zs,a3⟩
def cf (M:MS)(i:Int):Cb:=M.cs.getD i.toNat ⟨0,0,0,0,[]⟩
def eK (lo:Nat)(M:MS):Dd->MS
 | .come t s g k=>kh lo M t s g k
 | .lf x i=>if x=Str.ofString "block" then {M with bl:=M.bl|||2^i.toNat} else if x=Str.ofString "stick" then rB i 0 (cf M i) M else if x=Str.ofString "goods" then rB i 1 (cf M i) M else if x=Str.ofString "free" then me i 0 (cf M i) M else me i 1 (cf M i) M
 | .sg x=>if x=Str.ofString "fire" then xO M else pX M
section
variable {lo:Nat}{M:MS}{i:Int}
theorem gZ:eK lo M (.lf (Str.ofString "block") i)= {M with bl:=M.bl|||2^i.toNat}:=by unfold eK;dsimp only;rw [if_pos rfl]
theorem gX:eK lo M (.lf (Str.ofString "stick") i)=rB i 0 (cf M i) M:=by unfold eK;dsimp only;rw [if_neg ↑26,if_pos rfl]
theorem gY:eK lo M (.lf (Str.ofString "goods") i)=rB i 1 (cf M i) M:=by unfold eK;dsimp only;rw [if_neg ↑26,if_neg ↑26,if_pos rfl]
theorem iO:eK lo M (.lf (Str.ofString "free") i)=me i 0 (cf M i) M:=by unfold eK;dsimp only;rw [if_neg ↑26,if_neg ↑26,if_neg ↑26,if_pos rfl]
theorem iR:eK lo M (.lf (Str.ofString "back") i)=me i 1 (cf M i) M:=by unfold eK;dsimp only;rw [if_neg ↑26,if_neg ↑26,if_neg ↑26,if_neg ↑26]
theorem iP:eK lo M (.sg (Str.ofString "fire"))=xO M:=by unfold eK;dsimp only;rw [if_pos rfl]
theorem iQ:eK lo M (.sg (Str.ofString "calm"))=pX M:=by unfold eK;dsimp only;rw [if_neg ↑26]
end
def Dd.fit (fl:Int)(n:Nat):Dd->Prop
 | .come _ s g _=>0<=s/\s<fl/\0<=g/\g<fl/\s≠g
 | .lf _ i=>0<=i/\i<(n:Int)
 | .sg _=>True
inductive IK (K:Fg)(C:Addr)(vs:List V)(H:Hp)(Q:VK)(_e:XK):Prop
 |mk (m a d h hs H0 M:_) (_:vs=[.ref m,.ref a]) (_:jE K H h hs) (_:jv H a d) (_:d.fit hs.fl hs.ls.length) (_:gu K C H0 H m h M) (_:M.ws.length<=1000) (_:M.log.length<=1000) (_:M.cs.length=hs.ls.length) (_:(∀c∈M.cs,0<=c.mr)) (_:∀H',bc H H'->gu K C H0 H' m h (eK hs.lo M d)->Q .non H')
theorem LZ {C:Addr}{t1 t2:Tok}(F:bY K "do_deed" "do_deed" vK f fd)(cM:uS K C)(mq:mg "STUCK"=some (.int 0 t1))(wo:mg "TAKEN"=some (.int 1 t2))(tq:bO P w K mg base 3 "do_come" ["moment","tag","start","goal","key"] (yF K C))(d6:bO P w K mg base 2 "with_bit" ["mask","k"] iU)(kP:bO P w K mg base 3 "put_mark" ["moment","lift","mark"] (u1 K C))(jq:bO P w K mg base 4 "lose_mark" ["moment","lift","mark"] (qi K C))(tf:bO P w K mg base 1 "do_fire" ["moment"] (yC K C))(tx:bO P w K mg base 2 "do_calm" ["moment"] (yG K C)):aQ P w K mg base b8 5 f fd ["moment","deed"] (IK K C):=by
 have vO:bp (.int 0) (.int 0 t1):=⟨_,rfl⟩;have De:bp (.int 1) (.int 1 t2):=⟨_,rfl⟩;rwa[F.ok xt ↑8 ↑2]
 ·obtain ⟨m,a,d,h,hs,H0,M,rfl,_⟩:=h;rfl
 obtain ⟨m,da,d,h,hs,H0,M,rfl,hH,⟨hd,ok⟩,fit,hM,wl,gl,cn,mr0,q⟩:=h;have f8:=hH.1.f8;have l3:=hH.1.l3;rwa[⟨_,(af (aA (i:=2) xt.nd rfl ↑6 ↑14) (ag (aJ (az ↑10 (wv 2) aq (au _)) (ag (aH (ao tq hr ↑1 rfl (ac (wv 0) (ac ↑14 (ac ↑14 (ac ↑14 (ac ↑14 ae)))))))) (ag (aJ (az ↑10 (wv 2) aq (au _)) (ag (dz (K:=K) rfl (wv 0) (ao d6 hr ↑1 rfl (ac ↑12 (ac ↑14 ae))))) (ag (aJ (az ↑10 (wv 2) aq (au _)) (ag (aH (ao kP hr ↑1 rfl (ac (wv 0) (ac ↑14 (ac (eQ rfl mq vO) ae)))))) (ag (aJ (az ↑10 (wv 2) aq (au _)) (ag (aH (ao kP hr ↑1 rfl (ac (wv 0) (ac ↑14 (ac (eQ rfl wo De) ae)))))) (ag (aJ (az ↑10 (wv 2) aq (au _)) (ag (aH (ao jq hr ↑1 rfl (ac (wv 0) (ac ↑14 (ac (eQ rfl mq vO) ae)))))) (ag (aJ (az ↑10 (wv 2) aq (au _)) (ag (aH (ao jq hr ↑1 rfl (ac (wv 0) (ac ↑14 (ac (eQ rfl wo De) ae)))))) (ag (aJ (az ↑10 (wv 2) aq (au _)) (ag (aH (ao tf hr ↑1 rfl (ac (wv 0) ae)))) (ag (aH (ao tx hr ↑1 rfl (ac (wv 0) ae))))))))))))))))))),?_⟩]
 cases d with
 |come t s' g k=>
  have hT:aK K H da [.str fS,.int t,.int s',.int g,.bl k]:=aK.of hd;have f8:=hH.1.f8;obtain ⟨_,_,g0,g1,_⟩:=fit;ext;erw[ai hT rfl ?_];erw[bj rfl ?_];erw[ai hT rfl ?_];erw[ai hT rfl ?_];erw[ai hT rfl ?_];erw[ai hT rfl ?_];exact yF.mk _ _ _ _ _ _ _ _ _ rfl hH hM wl gl g0 ↑5 λH' st hM'=>q H' st hM'
 |lf x i=>
  obtain ⟨i0,i1⟩:=fit;obtain ⟨j,rfl⟩:=Int.eq_ofNat_of_zero_le i0;have hT:aK K H da [.str x,.int (j:Int)]:=aK.of hd
  have hj:j<M.cs.length:=by omega
  have hc:atC M (j:Int) (cf M (j:Int)):=⟨i0,by
   show M.cs[((j:Int)).toNat]? =some (M.cs.getD ((j:Int)).toNat _)
   rw [show ((j:Int)).toNat=j by omega,List.getD_eq_getElem?_getD,List.getElem?_eq_getElem hj];rfl⟩
  have m0:0<=(cf M (j:Int)).mr:=mr0 _ (List.mem_of_getElem? hc.2);have ne:∀y z:Str,y≠z-> ¬y=z:=λ_ _ h=>h;ext;rwa[ai hT rfl ?_]
  rcases ok with hx|hx|hx|hx|hx
  ·rw [hx,gZ,show ((j:Int)).toNat=j by omega] at q;ext;erw[bz ↑7 ?_];rwa[j6 hx ?_];obtain ⟨dx,lc,lw,ll,xs,ys,zs,a⟩:=hM;ext;erw[cc a cM.i.cl cM.blocked (v:= .int (M.bl:Int)) rfl ?_];erw[ai hT rfl ?_];erw[iU.mk _ _ rfl ↑5 ?_];rwa[dB a.em cM.i.cl cM.blocked (by show 7<1000;decide) ?_];exact q _ (.updI a.em) ⟨dx,lc,lw,ll,xs,ys,zs,a.putF M.last M.fire (M.bl|||2^j)⟩
  ·ext;erw[bz ↑7 ?_];erw[bz ↑7 ?_];erw[j6 hx ?_];erw[ai hT rfl ?_];rw [hx,gX] at q;exact u1.mk _ _ _ _ _ _ 0 rfl ↑1 hM wl hc m0 λH' st hM'=>q H' st hM'
  ·ext;erw[bz ↑7 ?_];erw[bz ↑7 ?_];erw[bz ↑7 ?_];erw[bz ↑7 ?_];erw[j6 hx ?_];erw[ai hT rfl ?_];rw [hx,iO] at q;exact qi.mk _ _ _ _ _ _ 0 rfl ↑1 hM hc m0 λH' st hM'=>q H' st hM'
  ·ext;erw[bz ↑7 ?_];erw[bz ↑7 ?_];erw[bz ↑7 ?_];erw[j6 hx ?_];erw[ai hT rfl ?_];rw [hx,gY] at q;exact u1.mk _ _ _ _ _ _ 1 rfl ↑1 hM wl hc m0 λH' st hM'=>q H' st hM'
  ·ext;erw[bz ↑7 ?_];erw[bz ↑7 ?_];erw[bz ↑7 ?_];erw[bz ↑7 ?_];erw[bz ↑7 ?_];erw[j6 hx ?_];erw[ai hT rfl ?_];rw [hx,iR] at q;exact qi.mk _ _ _ _ _ _ 1 rfl ↑1 hM hc m0 λH' st hM'=>q H' st hM'
 |sg x=>
  have hT:aK K H da [.str x]:=aK.of hd;ext;rwa[ai hT rfl ?_]
  rcases ok with hx|hx
  ·ext;erw[bz ↑7 ?_];erw[bz ↑7 ?_];erw[bz ↑7 ?_];erw[bz ↑7 ?_];erw[bz ↑7 ?_];erw[bz ↑7 ?_];erw[j6 hx ?_];rw [hx,iP] at q;exact yC.mk _ _ _ _ rfl hM wl gl λH' st hM'=>q H' st hM'
  ·ext;erw[bz ↑7 ?_];erw[bz ↑7 ?_];erw[bz ↑7 ?_];erw[bz ↑7 ?_];erw[bz ↑7 ?_];erw[bz ↑7 ?_];erw[bz ↑7 ?_];rw [hx,iQ] at q;exact yG.mk _ _ _ _ rfl hM ↑5 λH' st hM'=>q H' st hM'
abbrev yc:=List Cb->List be->be->Int->Int×Int
inductive qN (K:Fg)(pre:List Cb->List be->be->Int->Prop)(dl:yc)(vs:List V)(H:Hp)(Q:VK)(_e:XK):Prop
 |mk (tc tw x cs ws r last xs ys:_) (_:vs=[.ref tc,.ref tw,x,.int last]) (_:H tc=some (.tup xs)) (_:Paired (cx K H) xs cs) (_:H tw=some (.tup ys)) (_:aO K H ys (ws.map be.d)) (_:cI K H x (be.d r)) (_:pre cs ws r last) (_:∀t H',ar H H'->H' t=some (.tup [.int (dl cs ws r last).1,.int (dl cs ws r last).2])->Q (.ref t) H')
def C8 (t i:Int):D:= .tup [.str (Str.ofString "deal"),.int t,.int i]
def g8 (dl:yc)(M:MS)(p:Nat)(r:be):MS:=if (dl M.cs M.ws r M.last).1= -1 then {M with last:=(dl M.cs M.ws r M.last).2} else {M with last:=(dl M.cs M.ws r M.last).2,ws:=M.ws.set p {r with lift:=(dl M.cs M.ws r M.last).1},log:=M.log++[C8 r.tag (dl M.cs M.ws r M.last).1]}
inductive yE (P:Program)(w:World)(K:Fg)(mg:Str->Option Value)(base:Heap)(C:Addr)(pre:List Cb->List be->be->Int->Prop)(dl:yc)(vs:List V)(H:Hp)(Q:VK)(_e:XK):Prop
 |mk (m df x h H0 M r:_) (p:Nat) (_:vs=[.ref m,.ref df,.int (p:Int),x]) (_:qf P w K mg base 5 df (qN K pre dl)) (_:gu K C H0 H m h M) (_:cI K H x (be.d r)) (_:p<M.ws.length) (_:M.ws.length<=1000) (_:M.log.length<=1000) (_:M.cs.length<=10) (_:pre M.cs M.ws r M.last) (_:∀H',bc H H'->gu K C H0 H' m h (g8 dl M p r)->Q .non H')
theorem Gm {C:Addr}{pre:List Cb->List be->be->Int->Prop}{dl:yc}{t1:Tok}(F:bY K "deal" "deal" C4 f fd)(cM:uS K C)(bH:mg "tuple"=none)(dF:mg "NO_LIFT"=some (.int (-1) t1))(gE:bO P w K mg base 1 "dealt_to" ["rider","lift"] (mQ K)):aQ P w K mg base b8 6 f fd ["moment","dealer","place","rider"] (yE P w K mg base C pre dl):=by
 have gN:bp (.int (-1)) (.int (-1) t1):=⟨_,rfl⟩;rwa[F.ok CZ ↑8 ↑2]
 ·obtain ⟨m,df,x,h,H0,M,r,p,rfl,_⟩:=h;rfl
 obtain ⟨m,df,x,h,H0,M,r,p,rfl,hcal,⟨dx,lc,lw,ll,xs,ys,zs,a⟩,hx,pw,wl,gl,c10,hpre,q⟩:=h;have cl:=cM.i.cl;have yl:ys.length=M.ws.length:=aT a.dw;have zl:zs.length=M.log.length:=a.dl.len;obtain ⟨ra,rfl,hT⟩:=cB hx;erw[⟨_,(af (aA (i:=4) CZ.nd rfl ↑6 (Dp 1 hr rfl ↑6 (ac (br (fh (K:=K) rfl) rfl bH boot_tuple (ac ↑12 ae)) (ac (br (fh (K:=K) rfl) rfl bH boot_tuple (ac ↑12 ae)) (ac (wv 3) (ac ↑12 ae)))))) (af (dz (K:=K) rfl (wv 0) (ak ↑4 (wv 4) aa ↑3)) (ag (aJ (az (gv (K:=K) rfl hr) (ak ↑4 (wv 4) aa ↑3) (eQ rfl dF gN) (au _)) (af (fA (ao gE hr ↑1 rfl (ac (wv 3) (ac (ak ↑4 (wv 4) aa ↑3) ae))) (fB ↑12 (wv 2) iq)) (ag (aH (cz (K:=K) rfl PySem.F.plainAttrs_list PySem.F.slot_list_append PySem.F.type_list_append bw ↑12 (ac (aP (ac aq (ac ↑28 (ac (ak ↑4 (wv 4) aa ↑3) ae)))) ae))))) aF)))),?_⟩];erw[⟨df,5,_,rfl,by decide,hcal,?_⟩];erw[cc a cl cM.cabins (v:= .ref lc) rfl ?_];rwa[gH (aN.of a.ec) λtc H1 s1 n1 e1=> ?_];have a1:=a.same s1;ext;erw[cc a1 cl cM.waiting (v:= .ref lw) rfl ?_];rwa[gH (aN.of a1.ew) λtw H2 s2 n2 e2=> ?_];have a2:=a1.same s2;have s02:=s1.trans s2;ext;rwa[cc a2 cl cM.last (v:= .int M.last) rfl ?_];rwa[⟨tc,tw,.ref ra,M.cs,M.ws,r,M.last,xs,ys,rfl,s2 _ _ e1,a2.dc,e2,a2.dw,cI.same hx s02,hpre,λt H3 s3 e3=> ?_⟩];have a3:=a2.same s3;have s03:=s02.trans s3;unfold g8 at q;generalize hd1:(dl M.cs M.ws r M.last).1=d1 at *;generalize hd2:(dl M.cs M.ws r M.last).2=d2 at *;ext;erw[ai (aK.of e3) rfl ?_];rwa[dB a3.em cl cM.last (by show 7<1000;decide) ?_];have a4:=a3.putF d2 M.fire M.bl;have e0:putF (Str.ofString "last") (.int d2) (oE h lc lw M.last M.fire M.bl ll)=oE h lc lw d2 M.fire M.bl ll:=rfl;rw [e0];generalize hH4:upd H3 m (.ins C dx (oE h lc lw d2 M.fire M.bl ll))=H4 at a4 ⊢
 have st4:bc H H4:=by rw [<-hH4];exact s03.st.trans (.updI a3.em)
 have e34:aK K H4 t [.int d1,.int d2]:=by rw [<-hH4];exact (bc.updI a3.em).sqT (aK.of e3)
 clear hH4;ext;erw[ai e34 rfl ?_];by_cases z:d1= -1
 ·rw [if_pos z] at q;rwa[aB (by simp [z]) ?_];exact q _ st4 ⟨dx,lc,lw,ll,xs,ys,zs,a4⟩
 ·rw [if_neg z] at q;erw[bj (by simp [z]) ?_];erw[ai e34 rfl ?_];rwa[mQ.mk _ _ _ rfl (st4.den hx rfl) λv H5 s5 dv=> ?_];have a5:=a4.same s5;ext;erw[cc a5 cl cM.waiting (v:= .ref lw) rfl ?_];rwa[gI (j:=p) a5.ew (by unfold xH;rw [if_pos ↑5,if_pos ↑5];congr 1) ?_]
  have dw5:aO K H5 (ys.set p v) ((M.ws.set p {r with lift:=d1}).map be.d):=by
   rw [List.map_set];exact jc a5.dw dv
  have a6:=a5.setW dw5;generalize hH6:upd H5 lw (.lst (ys.set p v))=H6 at a6 ⊢
  have st6:bc H H6:=by rw [<-hH6];exact (st4.trans s5.st).trans (.updL a5.ew)
  have e36:aK K H6 t [.int d1,.int d2]:=by rw [<-hH6];exact (bc.updL a5.ew).sqT (s5.seqT e34)
  clear hH6;ext;erw[cc a6 cl cM.log (v:= .ref ll) rfl ?_];erw[⟨.inl ⟨rfl,_,aN.of a6.el⟩,?_⟩];erw[ai (st6.sqT hT) rfl ?_];erw[ai e36 rfl ?_];rwa[bK (bB (by show 3<=1000000;decide)) λg7 H7 s7 n7 e7=> ?_];have a7:=a6.same s7;ext;rwa[dM a7.el (nL ↑5) ?_];exact q _ ((st6.trans s7.st).trans (.updL a7.el)) ⟨dx,lc,lw,ll,xs,_,_,a7.setL (ds:=[C8 r.tag d1]) (.cons (ez (aK.of e7) (.cons (.str _) (.cons (.int _) (.cons (.int _) .nil)))) .nil) rfl⟩
def bu (dl:yc)(W:List be):Nat->MS->MS
 |0,M=>M
 |i+1,M=>match W[i]? with
  |some r=>if r.lift= -1 then g8 dl (bu dl W i M) i r else bu dl W i M
  |none=>bu dl W i M
inductive vc (P:Program)(w:World)(K:Fg)(mg:Str->Option Value)(base:Heap)(C:Addr)(pre:List Cb->List be->be->Int->Prop)(dl:yc)(vs:List V)(H:Hp)(Q:VK)(_e:XK):Prop
 |mk (m df h H0 M:_) (_:vs=[.ref m,.ref df]) (_:qf P w K mg base 5 df (qN K pre dl)) (_:gu K C H0 H m h M) (_:M.ws.length<=500) (_:M.log.length<=400) (_:M.cs.length<=10) (_:(∀i r,M.ws[i]? =some r->r.lift= -1->pre (bu dl M.ws i M).cs (bu dl M.ws i M).ws r (bu dl M.ws i M).last)) (_:∀H',bc H H'->gu K C H0 H' m h (bu dl M.ws M.ws.length M)->Q .non H')
theorem Bz {dl:yc}{M:MS}{p:Nat}{r:be}:(g8 dl M p r).ws.length=M.ws.length/\(g8 dl M p r).cs=M.cs/\(g8 dl M p r).log.length<=M.log.length+1:=by
 unfold g8;split
 ·exact ⟨rfl,rfl,Nat.le_succ _⟩
 ·exact ⟨List.length_set,rfl,by simp⟩
theorem fI {dl:yc}{W:List be}{M:MS}:∀i,(bu dl W i M).ws.length=M.ws.length/\(bu dl W i M).cs=M.cs/\(bu dl W i M).log.length<=M.log.length+i
 |0=>⟨rfl,rfl,by simp [bu]⟩
 |i+1=>by
  have h:=fI (dl:=dl) (W:=W) (M:=M) i;unfold bu;split
  ·rename_i r _;split
   ·have g:=Bz (dl:=dl) (M:=bu dl W i M) (p:=i) (r:=r);exact ⟨g.1.trans h.1,g.2.1.trans h.2.1,by have:=g.2.2;omega⟩
   ·exact ⟨h.1,h.2.1,by omega⟩
  ·exact ⟨h.1,h.2.1,by omega⟩
def kg (H:Hp)(m lc lw ll:Addr):Hp:=λb=>if b=m\/b=lc\/b=lw\/b=ll then none else H b
theorem BG {H:Hp}{m lc lw ll:Addr}:ar (kg H m lc lw ll) H:=λb u z=>by
 unfold kg at z;split at z
 ·cases z
 ·exact z
theorem ia {H:Hp}{m lc lw ll b:Addr}{u:HO}(h:H b=some u)(h1:b≠m)(h2:b≠lc)(h3:b≠lw)(h4:b≠ll):kg H m lc lw ll b=some u:=by
 unfold kg;rw [if_neg (λz=>by rcases z with z|z|z|z;exact h1 z;exact h2 z;exact h3 z;exact h4 z)];exact h
theorem gq.wide {C:Addr}{H0 H:Hp}{m h dx lc lw ll:Addr}{xs ys zs:List V}{M:MS}(a:gq K C H0 H m h dx lc lw ll xs ys zs M):gq K C (kg H m lc lw ll) H m h dx lc lw ll xs ys zs M/\ar H0 (kg H m lc lw ll):=by
 rwa[⟨⟨BG,if_pos (.inl rfl),if_pos (.inr (.inl rfl)),if_pos (.inr (.inr (.inl rfl))),if_pos (.inr (.inr (.inr rfl))),a.cw,a.cl,a.wl,a.em,a.ec,a.ew,a.el,a.dc,a.dw,a.dl,a.ln⟩,λb u z=> ?_⟩];exact ia (a.s _ _ z) (λe=>by rw [e,a.nm] at z;cases z) (λe=>by rw [e,a.nc] at z;cases z) (λe=>by rw [e,a.nw] at z;cases z) (λe=>by rw [e,a.nl] at z;cases z)
theorem gu.onto {C:Addr}{H0 Hc H:Hp}{m h:Addr}{M:MS}(s:ar H0 Hc)(z:gu K C Hc H m h M):gu K C H0 H m h M:=by
 obtain ⟨dx,lc,lw,ll,xs,ys,zs,a⟩:=z;exact ⟨dx,lc,lw,ll,xs,ys,zs,s.trans a.s,none_of s a.nm,none_of s a.nc,none_of s a.nw,none_of s a.nl,a.cw,a.cl,a.wl,a.em,a.ec,a.ew,a.el,a.dc,a.dw,a.dl,a.ln⟩
theorem gu.s {C:Addr}{H0 H:Hp}{m h:Addr}{M:MS}(z:gu K C H0 H m h M):ar H0 H:=let ⟨_,_,_,_,_,_,_,a⟩:=z;a.s
theorem DR {C:Addr}{pre:List Cb->List be->be->Int->Prop}{dl:yc}{t1:Tok}(F:bY K "deal_all" "deal_all" rq f fd)(cM:uS K C)(eF:mg "list"=none)(md:mg "enumerate"=none)(dF:mg "NO_LIFT"=some (.int (-1) t1))(EC:bO P w K mg base 6 "deal" ["moment","dealer","place","rider"] (yE P w K mg base C pre dl)):aQ P w K mg base b8 7 f fd ["moment","dealer"] (vc P w K mg base C pre dl):=by
 have gN:bp (.int (-1)) (.int (-1) t1):=⟨_,rfl⟩;rwa[F.ok nW ↑8 ↑2]
 ·obtain ⟨m,df,h,H0,M,rfl,_⟩:=h;rfl
 obtain ⟨m,df,h,H0,M,rfl,hcal,⟨dx,lc,lw,ll,xs,ys,zs,a⟩,wl,gl,c10,hpre,q⟩:=h;have cl:=cM.i.cl;have yl:ys.length=M.ws.length:=aT a.dw;erw[⟨_,(ag (du PassesOwn.never rfl (Fc (K:=K) rfl rfl md (br (lE (K:=K) rfl) rfl eF boot_list (ac ↑12 ae))) (ge (K:=K) (n:=2) rfl rfl (aV (aC (i:=2) nW.nd rfl ↑6) (aV (aC (i:=3) nW.nd rfl ↑6) eM))) (ag (aJ (az ↑10 ↑28 (eQ rfl dF gN) (au _)) (ag (aH (ao EC hr ↑1 rfl (ac (wv 0) (ac (wv 1) (ac (wv 2) (ac (wv 3) ae))))))) aF)))),?_⟩];erw[cc a cl cM.waiting (v:= .ref lw) rfl ?_];rwa[jf (.inl (aN.of a.ew)) λlk H1 s1 n1 e1=> ?_];have a1:=a.same s1;have nk0:H0 lk=none:=none_of a.s n1;ext;erw[.inl ⟨ys,aN.of e1,?_⟩];obtain ⟨aw,sw⟩:=a1.wide;generalize hHc:kg H1 m lc lw ll=Hc at aw sw
 have kk:∀ {p:Addr} {us:List V},H1 p=some (.lst us)->p≠m:=λ{p us} e z=>by rw [z,a1.em] at e;cases e
 have nlk:∀ {p:Addr} {o:HO},H p=some o->lk≠p:=λ{p o} e z=>by rw [<-z,n1] at e;cases e
 have ek:Hc lk=some (.lst ys):=by rw [<-hHc];exact ia e1 (kk e1) (nlk a.ec) (nlk a.ew) (nlk a.el)
 have dy:∀ {i:Nat} {x:V},ys[i]? =some x->∃r b,M.ws[i]? =some r/\x= .ref b/\cI K H1 (.ref b) r.d:=λ{i x} hxi=>by
  obtain ⟨r,hr',dr⟩:=b6 (f:=be.d) a1.dw hxi;obtain ⟨b,rfl,_⟩:=cB dr;exact ⟨r,b,hr',rfl,dr⟩
 rwa[Ej (xs:=ys) (λi σ HX=>bc H1 HX/\gu K C Hc HX m h (bu dl M.ws i M)/\∃o2 o3,σ=[some (.ref m),some (.ref df),o2,o3]) ⟨.refl _,⟨dx,lc,lw,ll,xs,ys,zs,aw⟩,_,_,rfl⟩ (λi σ HX _ pv=>aN.of (pv.2.1.s _ _ ek)) (λi x σ HX T HY hxi pv sT eT=> ?_) (λσ HX pv=> ?_)]
 ·obtain ⟨st,hM,o2,o3,rfl⟩:=pv;obtain ⟨r,b,hr',rfl,dr⟩:=dy hxi;have hi:i<M.ws.length:=(List.getElem?_eq_some_iff.mp hr').1;have hl:=fI (dl:=dl) (W:=M.ws) (M:=M) i;have stY:=st.trans sT.st;have hMY:=hM.same sT;have drY:cI K HY (.ref b) r.d:=stY.den dr rfl;obtain ⟨b',eb',hT⟩:=cB drY;cases eb'
  have nx:bu dl M.ws (i+1) M=if r.lift= -1 then g8 dl (bu dl M.ws i M) i r else bu dl M.ws i M:=by
   show (match M.ws[i]? with|some r=>_|none=>_)=_;rw [hr']
  ext;erw[pH (aK.of eT) rfl ?_];erw[ai hT rfl ?_];by_cases z:r.lift= -1
  ·rw [if_pos z] at nx;erw[bj (decide_eq_true z) ?_];rwa[yE.mk _ _ _ _ _ _ _ _ rfl hcal hMY drY ↑5 ↑5 ↑5 (by rw [hl.2.1];omega) (hpre i r hr' z) λHZ stZ hMZ=> ?_];rw [<-nx] at hMZ;exact ⟨stY.trans stZ,hMZ,_,_,rfl⟩
  ·rw [if_neg z] at nx;rwa[aB (decide_eq_false z) ?_];rw [<-nx] at hMY;exact ⟨stY,hMY,_,_,rfl⟩
 ·obtain ⟨st,hM,o2,o3,rfl⟩:=pv;rw [yl] at hM;exact q _ (s1.st.trans st) (hM.onto sw)
def AK (wd:Str)(t i fl:Int):D:= .tup [.str wd,.int t,.int i,.int fl]
theorem C7 (wd:Str)(i fl:Int)(ts:List Int):noLs (ts.map λt=>AK wd t i fl)=true:=by
 induction ts with
 |nil=>rfl
 |cons r rs ih=>rw [List.map_cons,noLs,ih];rfl
def v5 (M:MS)(wd:Str)(ts:List Int)(i:Int)(c:Cb):MS:= {M with log:=M.log++ts.map λt=>AK wd t i (c.pl / 2)}
inductive u6 (K:Fg)(C:Addr)(vs:List V)(H:Hp)(Q:VK)(_e:XK):Prop
 |mk (m wd tg i h H0 M c:_) (ts:List Int) (_:vs=[.ref m,.str wd,.ref tg,.int i]) (_:gu K C H0 H m h M) (_:atC M i c) (_:(∃us,aN K H0 tg us/\us=ts.map V.int)) (_:ts.length<=1000) (_:M.log.length<=3000) (_:∀H',bc H H'->gu K C H0 H' m h (v5 M wd ts i c)->Q .non H')
theorem Aa {C:Addr}{H H0:Hp}{m tg h:Addr}{wd:Str}{i:Int}{M:MS}{c:Cb}{ts:List Int}{Q:VK}{E:XK}(h1:gu K C H0 H m h M)(h2:atC M i c)(h3:aN K H0 tg (ts.map V.int))(h4:ts.length<=1000)(h5:M.log.length<=3000)(q:∀H',bc H H'->gu K C H0 H' m h (v5 M wd ts i c)->Q .non H'):u6 K C [.ref m,.str wd,.ref tg,.int i] H Q E:=⟨m,wd,tg,i,h,H0,M,c,ts,rfl,h1,h2,⟨_,h3,rfl⟩,h4,h5,q⟩
theorem Gd {C:Addr}(F:bY K "log_steps" "log_steps" oj f fd)(cM:uS K C)(bG:bO P w K mg base 1 "floor_of" ["cabin"] (dJ K)):aQ P w K mg base b8 2 f fd ["moment","word","tags","lift"] (u6 K C):=by
 rwa[F.ok qV ↑8 ↑2]
 ·obtain ⟨m,wd,tg,i,h,H0,M,c,ts,rfl,_⟩:=h;rfl
 obtain ⟨m,wd,tg,i,h,H0,M,c,ts,rfl,⟨dx,lc,lw,ll,xs,ys,zs,a⟩,hc,⟨us,hts,rfl⟩,tl,gl,q⟩:=h;obtain ⟨t,hx,hi,ht,hlt⟩:=a.atC hc;have cl:=cM.i.cl;have zl:zs.length=M.log.length:=a.dl.len;erw[⟨_,(af (aA (i:=4) qV.nd rfl (Or.inr rfl) (ao bG hr ↑1 rfl (ac (ak ↑4 ↑12 (wv 3) ↑3) ae))) (ag (aH (cz (K:=K) rfl PySem.F.plainAttrs_list PySem.F.slot_list_extend PySem.F.type_list_extend iw ↑12 (ac (bD rfl (aI (N':=["tag","word","lift","floor"]) (pk:=[none,some 1,some 3,some 4]) ↑33) (bg (K:=K) rfl (wv 2)) (λC s H ex=>(aC (i:=0) (show List.Nodup (["tag","word","lift","floor"]:List Str) by decide+kernel) rfl ↑6)) ↑37 (λC s H ex=>(aP (ac (wv 1) (ac (wv 0) (ac (wv 2) (ac (wv 3) ae))))))) ae))))),?_⟩];erw[cc a cl cM.cabins (v:= .ref lc) rfl ?_];erw[bi (aN.of a.ec) hi ?_];erw[dJ.mk _ _ _ _ _ _ rfl ht ?_];erw[cc a cl cM.log (v:= .ref ll) rfl ?_];erw[⟨.inl ⟨rfl,_,aN.of a.el⟩,?_⟩];have hL:=a.s.seq hts;rwa[cW hL ?_];rwa[bZ (xs:=ts.map V.int) (λj us HX=>ar H HX/\us.length=j/\aO K HX us ((ts.take j).map λt=>AK wd t i (c.pl / 2))) (bB (by rw [List.length_map];omega)) (λj us HX h=>Nat.le_of_eq h.2.1) ⟨.refl _,rfl,.nil⟩ (λj us HX _ h=>h.1.seq hL) ↑29 (λus HX hP l n=> ?_)]
 ·obtain ⟨sx,hul,hd⟩:=hP;rw [List.getElem?_map] at hy;obtain ⟨v,hv,rfl⟩:=Option.map_eq_some_iff.mp hy;erw[⟨bC,?_⟩];rwa[bK (bB (by show 4<=1000000;decide)) λb H3 s3 n3 e3=>⟨sx.trans s3,by simp [hul],?_⟩];rw [List.take_add_one,hv,List.map_append];exact Paired.app (aO.same hd s3) (.cons (ez (aK.of e3) (.cons (.str _) (.cons (.int _) (.cons (.int _) (.cons (.int _) .nil))))) .nil)
 obtain ⟨sx,hul,hd⟩:=hP;rw [List.length_map,List.take_of_length_le ↑15] at hd;rw [List.length_map] at hul;have aX:=a.same sx;have s3:ar HX (upd HX l (.lst us)):= .upd n;have a3:=aX.same s3;have e3:upd HX l (.lst us) l=some (.lst us):=aj;generalize hH3:upd HX l (.lst us)=H3 at s3 a3 e3 ⊢;ext;rwa[uE a3.el e3 (bB ↑5) ?_];exact q _ ((sx.trans s3).st.trans (.updL a3.el)) ⟨dx,lc,lw,ll,xs,ys,_,a3.setL (aO.same hd s3) (C7 wd i _ ts)⟩
def fz (M:MS)(i:Int)(c:Cb):MS:= {M with cs:=M.cs.set i.toNat c}
def bL (c:Cb):List (Int×Int):=if 0<c.dr then c.ps else []
theorem mX (c:Cb):(bL c).length<=c.ps.length:=by
 unfold bL;split
 ·exact Nat.le_refl _
 ·exact Nat.zero_le _
def z4 (M:MS)(i:Int)(c:Cb)(l:Lf):MS:=fz (v5 M (Str.ofString "out") ((bL c).map (·.1)) i c) i ⟨0,0,l.tn,c.mr,c.ps.drop (bL c).length⟩
inductive yv (K:Fg)(C:Addr)(vs:List V)(H:Hp)(Q:VK)(_e:XK):Prop
 |mk (m i h hs l H0 M c:_) (_:vs=[.ref m,.int i]) (_:jE K H0 h hs) (_:hs.ls[i.toNat]? =some l) (_:gu K C H0 H m h M) (_:atC M i c) (_:c.ps.length<=64) (_:M.log.length<=3000) (_:∀H',bc H H'->gu K C H0 H' m h (z4 M i c l)->Q .non H')
theorem jS {H:Hp}{bs:List V}{ps:List (Int×Int)}(d:aO K H bs (ps.map fb)){j:Nat}{y:V}(hy:bs[j]? =some y):∃p t,ps[j]? =some p/\y= .ref t/\aK K H t [.int p.1,.int p.2]:=by
 obtain ⟨p,hp,dp⟩:=b6 (f:=fb) d hy;obtain ⟨t,xs,rfl,h1,h2⟩:=dp.outT
 cases h2 with|cons q0 t0=>cases t0 with|cons q1 t1=>
 cases t1;cases q0.isInt;cases q1.isInt;exact ⟨p,t,hp,rfl,h1⟩
theorem Paired.drop' {α β:Type}{R:α->β->Prop}:∀ {n:Nat} {xs:List α} {ys:List β},Paired R xs ys->Paired R (xs.drop n) (ys.drop n)
 |0,_,_,h=>h
 |n+1,[],_,h=>by cases h;exact .nil
 |n+1,x::xs,_,h=>by
  cases h with
  |cons _ t=>exact Paired.drop' (n:=n) t
theorem Ga {C:Addr}(F:bY K "open_below" "open_below" lR f fd)(cM:uS K C)(bh:mg "len"=none)(eW:bO P w K mg base 2 "log_steps" ["moment","word","tags","lift"] (u6 K C))(d7:bO P w K mg base 1 "turns_of" ["house","lift"] (kQ K λl=> .int l.tn)):aQ P w K mg base b8 3 f fd ["moment","lift"] (yv K C):=by
 rwa[F.ok jL ↑8 ↑2]
 ·obtain ⟨m,i,h,hs,l,H0,M,c,rfl,_⟩:=h;rfl
 obtain ⟨m,i,h,hs,l,H0,M,c,rfl,hH,hl,hM,hc,pl64,gl,q⟩:=h;have hM0:=hM;obtain ⟨dx,lc,lw,ll,xs,ys,zs,a⟩:=hM;obtain ⟨t,hx,hi,ht,hlt⟩:=a.atC hc;obtain ⟨b,bs,et,eb,db⟩:=id ht;have hT:=aK.of (K:=K) et;have bl:bs.length=c.ps.length:=aT db;have cl:=cM.i.cl;erw[⟨_,(af (aA (i:=2) jL.nd rfl ↑6 (ak ↑4 ↑12 (wv 1) ↑3)) (af (aA (i:=3) jL.nd rfl ↑6 (fR (az lF ↑13 aa (au _)) ↑13 (aP ae))) (af (aH (ao eW hr ↑1 rfl (ac (wv 0) (ac aq (ac (bD rfl (aI (N':=["tag","goal"]) (pk:=[none,none]) ↑33) (bg (K:=K) rfl (wv 3)) (λC s H ex=>(ge (K:=K) (n:=2) rfl rfl (aV (aC (i:=0) ↑44 rfl ↑6) (aV (aC (i:=1) ↑44 rfl ↑6) eM)))) ↑37 (λC s H ex=>(wv 0))) ↑34))))) (ag (fA (aP (ac aa (ac aa (ac (ao d7 hr ↑1 rfl (ac ↑12 ↑34)) (ac ↑13 (ac (dh (KN (K:=K) rfl) ↑13 (dA (ax ↑32 rfl bh PySem.boot_len (ac (wv 3) ae))) fm) ae)))))) (fB ↑12 (wv 1) iq)))))),?_⟩];erw[cc a cl cM.cabins (v:= .ref lc) rfl ?_];erw[bi (aN.of a.ec) hi ?_];erw[ai hT rfl ?_];by_cases hd:0<c.dr
 ·erw[bj (decide_eq_true hd) ?_];rwa[ai hT rfl ?_];have eo:bL c=c.ps:=if_pos hd;obtain ⟨os,hO,dO⟩:∃os,aK K H b os/\aO K H os ((bL c).map fb):=⟨bs,aK.of eb,by rw [eo];exact db⟩;have s1:ar H H:= .refl _;ext;rwa[dj hO ?_];have ol:os.length=(bL c).length:=aT dO;have o64:(bL c).length<=64:=Nat.le_trans (mX c) pl64;rwa[ck (xs:=os) (λj us HX=>ar H HX/\us=((bL c).take j).map λp=>V.int p.1) (bB ↑5) (λj us HX h=>by rw [h.2,List.length_map,List.length_take];exact Nat.min_le_left _ _) ⟨.refl _,rfl⟩ (λj us HX _ h=>h.1.seqT hO) ↑29 (λus HX hP l2 n2=> ?_)]
  ·obtain ⟨sx,rfl⟩:=hP;obtain ⟨p,pt,hp,rfl,hpT⟩:=jS dO hy;ext;erw[pH (sx.seqT hpT) rfl ?_];erw[⟨iy,?_⟩];rwa[⟨sx,?_⟩];rw [List.take_add_one,hp,List.map_append];rfl
  obtain ⟨sx,rfl⟩:=hP;rw [ol,List.take_of_length_le ↑15];have s2:ar HX (upd HX l2 (.lst ((bL c).map λp=>V.int p.1))):= .upd n2;have e2:upd HX l2 (.lst ((bL c).map λp=>V.int p.1)) l2=some (.lst ((bL c).map λp=>V.int p.1)):=aj;generalize hH2:upd HX l2 (.lst ((bL c).map λp=>V.int p.1))=H2 at s2 e2 ⊢;have s02:=s1.trans (sx.trans s2);have a2:=a.same s02;obtain ⟨aw,sw⟩:=a2.wide
  have nk:∀ {p:Addr} {o:HO},HX p=some o->l2≠p:=λ{p o} e z=>by rw [<-z,n2] at e;cases e
  have s0X:=s1.trans sx;have ek:kg H2 m lc lw ll l2=some (.lst ((bL c).map λp=>V.int p.1)):=ia e2 (nk (s0X _ _ a.em)) (nk (s0X _ _ a.ec)) (nk (s0X _ _ a.ew)) (nk (s0X _ _ a.el));generalize hHc:kg H2 m lc lw ll=Hc at aw sw ek;ext;rwa[Aa (ts:=(bL c).map (·.1)) ⟨dx,lc,lw,ll,xs,ys,zs,aw⟩ hc (by rw [List.map_map];exact aN.of ek) (by rw [List.length_map];omega) gl λH3 st3 hM3=> ?_];obtain ⟨dx3,lc3,lw3,ll3,xs3,ys3,zs3,a3⟩:=hM3;have st03:=s02.st.trans st3;ext;erw[cc a3 cl cM.house (v:= .ref h) rfl ?_];erw[kQ.mk (g:=λl=> .int l.tn) _ _ _ _ rfl ((hH.same (sw.trans a3.s))) hc.1 hl ?_];erw[ai (st03.sqT hT) rfl ?_];erw[ai (st03.sqT hT) rfl ?_];rwa[cY ((sx.trans s2).st.trans st3 |>.sqT hO) ?_];rw [ol];ext;have db3:=st03.dens db (gB c.ps)
  have fin:∀(b':Addr) (bs':List V) H4,ar H3 H4->H4 b'=some (.tup bs')->aO K H4 bs' ((c.ps.drop (bL c).length).map fb)->DZ [.int 0,.int 0,.int l.tn,.int c.mr,.ref b'] H4 λv H5=>pU K "cabins" m H5 λo H6=>Fi o (.int i) v H6 λH7=>Q .non H7:=by
   intro b' bs' H4 s4 e4 d4;rwa[bK (bB (by show 5<=1000000;decide)) λr H5 s5 n5 e5=> ?_];have a5:=a3.same (s4.trans s5);rwa[cc a5 cl cM.cabins (v:= .ref lc3) rfl ?_];obtain ⟨t3,_,_,_,hlt3⟩:=a3.atC (c:=c) hc;rwa[gI (j:=i.toNat) a5.ec (pT hc.1 hlt3) ?_];have a6:=a5.setC (i:=i.toNat) (c:=⟨0,0,l.tn,c.mr,c.ps.drop (bL c).length⟩) ⟨r,rfl,b',bs',e5,s5 _ _ e4,aO.same d4 s5⟩;exact q _ ((st03.trans (s4.trans s5).st).trans (.updL a5.ec)) (gu.onto sw ⟨dx3,lc3,lw3,ll3,_,ys3,zs3,a6⟩)
  have hcut:ff bs (some ((bL c).length:Int)) none=bs.drop (bL c).length:=by
   unfold ff;rw [show HT.sIx bs.length 0 (some ((bL c).length:Int))=min (bL c).length bs.length from HT.sIx_nat _ _ _]
   have:(bL c).length<=bs.length:=by rw [bl];exact mX c
   rw [Nat.min_eq_left this,HT.sIx_none,List.take_of_length_le (by rw [List.length_drop];exact Nat.le_refl _)]
  rwa[Hn (st03.sqT (aK.of eb)) (λe=> ?_) (λl4 H4 s4 e4=> ?_)]
  ·rw [hcut] at e;exact fin b bs H3 (.refl _) (st03.tup eb) (by rw [List.map_drop,<-e];exact Paired.drop' db3)
  ·rw [hcut] at e4;exact fin l4 _ H4 s4 e4 (by rw [List.map_drop];exact Paired.drop' (aO.same db3 s4))
 ·erw[aB (decide_eq_false hd) ?_];rwa[bK ↑35 λob H1 s1 n1 e1=> ?_];have eo:bL c=[]:=if_neg hd;obtain ⟨os,hO,dO⟩:∃os,aK K H1 ob os/\aO K H1 os ((bL c).map fb):=⟨[],aK.of e1,by rw [eo];exact .nil⟩;ext;rwa[dj hO ?_];have ol:os.length=(bL c).length:=aT dO;have o64:(bL c).length<=64:=Nat.le_trans (mX c) pl64;rwa[ck (xs:=os) (λj us HX=>ar H1 HX/\us=((bL c).take j).map λp=>V.int p.1) (bB ↑5) (λj us HX h=>by rw [h.2,List.length_map,List.length_take];exact Nat.min_le_left _ _) ⟨.refl _,rfl⟩ (λj us HX _ h=>h.1.seqT hO) ↑29 (λus HX hP l2 n2=> ?_)]
  ·obtain ⟨sx,rfl⟩:=hP;obtain ⟨p,pt,hp,rfl,hpT⟩:=jS dO hy;ext;erw[pH (sx.seqT hpT) rfl ?_];erw[⟨iy,?_⟩];rwa[⟨sx,?_⟩];rw [List.take_add_one,hp,List.map_append];rfl
  obtain ⟨sx,rfl⟩:=hP;rw [ol,List.take_of_length_le ↑15];have s2:ar HX (upd HX l2 (.lst ((bL c).map λp=>V.int p.1))):= .upd n2;have e2:upd HX l2 (.lst ((bL c).map λp=>V.int p.1)) l2=some (.lst ((bL c).map λp=>V.int p.1)):=aj;generalize hH2:upd HX l2 (.lst ((bL c).map λp=>V.int p.1))=H2 at s2 e2 ⊢;have s02:=s1.trans (sx.trans s2);have a2:=a.same s02;obtain ⟨aw,sw⟩:=a2.wide
  have nk:∀ {p:Addr} {o:HO},HX p=some o->l2≠p:=λ{p o} e z=>by rw [<-z,n2] at e;cases e
  have s0X:=s1.trans sx;have ek:kg H2 m lc lw ll l2=some (.lst ((bL c).map λp=>V.int p.1)):=ia e2 (nk (s0X _ _ a.em)) (nk (s0X _ _ a.ec)) (nk (s0X _ _ a.ew)) (nk (s0X _ _ a.el));generalize hHc:kg H2 m lc lw ll=Hc at aw sw ek;ext;rwa[Aa (ts:=(bL c).map (·.1)) ⟨dx,lc,lw,ll,xs,ys,zs,aw⟩ hc (by rw [List.map_map];exact aN.of ek) (by rw [List.length_map];omega) gl λH3 st3 hM3=> ?_];obtain ⟨dx3,lc3,lw3,ll3,xs3,ys3,zs3,a3⟩:=hM3;have st03:=s02.st.trans st3;ext;erw[cc a3 cl cM.house (v:= .ref h) rfl ?_];erw[kQ.mk (g:=λl=> .int l.tn) _ _ _ _ rfl ((hH.same (sw.trans a3.s))) hc.1 hl ?_];erw[ai (st03.sqT hT) rfl ?_];erw[ai (st03.sqT hT) rfl ?_];rwa[cY ((sx.trans s2).st.trans st3 |>.sqT hO) ?_];rw [ol];ext;have db3:=st03.dens db (gB c.ps)
  have fin:∀(b':Addr) (bs':List V) H4,ar H3 H4->H4 b'=some (.tup bs')->aO K H4 bs' ((c.ps.drop (bL c).length).map fb)->DZ [.int 0,.int 0,.int l.tn,.int c.mr,.ref b'] H4 λv H5=>pU K "cabins" m H5 λo H6=>Fi o (.int i) v H6 λH7=>Q .non H7:=by
   intro b' bs' H4 s4 e4 d4;rwa[bK (bB (by show 5<=1000000;decide)) λr H5 s5 n5 e5=> ?_];have a5:=a3.same (s4.trans s5);rwa[cc a5 cl cM.cabins (v:= .ref lc3) rfl ?_];obtain ⟨t3,_,_,_,hlt3⟩:=a3.atC (c:=c) hc;rwa[gI (j:=i.toNat) a5.ec (pT hc.1 hlt3) ?_];have a6:=a5.setC (i:=i.toNat) (c:=⟨0,0,l.tn,c.mr,c.ps.drop (bL c).length⟩) ⟨r,rfl,b',bs',e5,s5 _ _ e4,aO.same d4 s5⟩;exact q _ ((st03.trans (s4.trans s5).st).trans (.updL a5.ec)) (gu.onto sw ⟨dx3,lc3,lw3,ll3,_,ys3,zs3,a6⟩)
  have hcut:ff bs (some ((bL c).length:Int)) none=bs.drop (bL c).length:=by
   unfold ff;rw [show HT.sIx bs.length 0 (some ((bL c).length:Int))=min (bL c).length bs.length from HT.sIx_nat _ _ _]
   have:(bL c).length<=bs.length:=by rw [bl];exact mX c
   rw [Nat.min_eq_left this,HT.sIx_none,List.take_of_length_le (by rw [List.length_drop];exact Nat.le_refl _)]
  rwa[Hn (st03.sqT (aK.of eb)) (λe=> ?_) (λl4 H4 s4 e4=> ?_)]
  ·rw [hcut] at e;exact fin b bs H3 (.refl _) (st03.tup eb) (by rw [List.map_drop,<-e];exact Paired.drop' db3)
  ·rw [hcut] at e4;exact fin l4 _ H4 s4 e4 (by rw [List.map_drop];exact Paired.drop' (aO.same db3 s4))
def lq (M:MS)(i:Int)(c:Cb)(l:Lf):MS:=if c.pl=0 then z4 M i c l else if 0<c.dr then fz M i ⟨c.pl,c.li,if M.bl.testBit i.toNat=true then c.dr else 0,c.mr,c.ps⟩ else fz M i ⟨c.pl - 1,-1,0,c.mr,c.ps⟩
inductive CG (K:Fg)(C:Addr)(vs:List V)(H:Hp)(Q:VK)(_e:XK):Prop
 |mk (m i h hs l H0 M c:_) (_:vs=[.ref m,.int i]) (_:jE K H0 h hs) (_:hs.ls[i.toNat]? =some l) (_:gu K C H0 H m h M) (_:atC M i c) (_:i<1000) (_:c.ps.length<=64) (_:M.log.length<=3000) (_:∀H',bc H H'->gu K C H0 H' m h (lq M i c l)->Q .non H')
theorem JC {C:Addr}(F:bY K "go_in_fire" "go_in_fire" oo f fd)(cM:uS K C)(kj:bO P w K mg base 3 "open_below" ["moment","lift"] (yv K C))(im:bO P w K mg base 2 "has" ["mask","k"] gw)(aZ:bO P w K mg base 1 "with_changes" ["cabin","place","light","door"] (eu K)):aQ P w K mg base b8 4 f fd ["moment","lift"] (CG K C):=by
 rwa[F.ok lM ↑8 ↑2]
 ·obtain ⟨m,i,h,hs,l,H0,M,c,rfl,_⟩:=h;rfl
 obtain ⟨m,i,h,hs,l,H0,M,c,rfl,hH,hl,hM,hc,i1,pl64,gl,q⟩:=h;have hM0:=hM;obtain ⟨dx,lc,lw,ll,xs,ys,zs,a⟩:=hM;obtain ⟨t,hx,hi,ht,hlt⟩:=a.atC hc;obtain ⟨b,bs,et,eb,db⟩:=id ht;have hT:=aK.of (K:=K) et;have cl:=cM.i.cl;obtain ⟨j,hj⟩:=Int.eq_ofNat_of_zero_le hc.1;rwa[⟨_,(af (aA (i:=2) lM.nd rfl ↑6 (ak ↑4 ↑12 (wv 1) ↑3)) (ag (aJ (az ↑10 ↑13 aa (au _)) (ag (aH (ao kj hr ↑1 rfl (ac (wv 0) ↑34)))) (ag (aJ (az lF ↑13 aa (au _)) (af (aA (i:=3) lM.nd rfl ↑6 (fR (bt (K:=K) rfl (ao im hr ↑1 rfl (ac ↑12 ↑34))) ↑13 aa)) (ag (fA (ao aZ hr ↑1 rfl (ac (wv 2) (ac ↑13 (ac ↑13 (ac (wv 3) ae))))) (fB ↑12 (wv 1) iq)))) (ag (fA (ao aZ hr ↑1 rfl (ac (wv 2) (ac (aG eX ↑13 aa) (ac (iG ir aa) (ac aa ae))))) (fB ↑12 (wv 1) iq)))))))),?_⟩]
 have put:∀(r:Addr) (c':Cb) H1,ar H H1->cA K H1 r c'.pl c'.li c'.dr c'.mr c'.ps->lq M i c l=fz M i c'->pU K "cabins" m H1 λo H6=>Fi o (.int i) (.ref r) H6 λH7=>Q .non H7:=by
  intro r c' H1 s1 hr' e;have a1:=a.same s1;rwa[cc a1 cl cM.cabins (v:= .ref lc) rfl ?_];rwa[gI (j:=i.toNat) a1.ec (pT hc.1 hlt) ?_];rw [e] at q;exact q _ (s1.st.trans (.updL a1.ec)) ⟨dx,lc,lw,ll,_,ys,zs,a1.setC (i:=i.toNat) (c:=c') ⟨r,rfl,hr'⟩⟩
 ext;erw[cc a cl cM.cabins (v:= .ref lc) rfl ?_];erw[bi (aN.of a.ec) hi ?_];erw[ai hT rfl ?_];rwa[hV (λz=> ?_) (λz=> ?_)]
 ·ext;have e:lq M i c l=z4 M i c l:=if_pos z;rw [e] at q;exact yv.mk _ _ _ _ _ _ _ _ rfl hH hl hM0 hc pl64 gl λH' st hM'=>q H' st hM'
 ext;erw[ai hT rfl ?_];rwa[hV (λz2=> ?_) (λz2=> ?_)]
 ·have z2:0<c.dr:=z2
  have e:lq M i c l=fz M i ⟨c.pl,c.li,if M.bl.testBit i.toNat=true then c.dr else 0,c.mr,c.ps⟩:=by unfold lq;rw [if_neg z,if_pos z2]
  ext;erw[cc a cl cM.blocked (v:= .int (M.bl:Int)) rfl ?_];rw [hj];rwa[gw.mk _ _ rfl ↑5 ?_];rw [hj,show ((j:Int)).toNat=j by omega] at e;rw [hj] at put;ext;by_cases hb:M.bl.testBit j=true
  ·rw [if_pos hb] at e;erw[bj hb ?_];erw[ai hT rfl ?_];erw[ai hT rfl ?_];erw[ai hT rfl ?_];rwa[eu.mk _ _ _ _ _ _ _ _ _ rfl ht λr H1 s1 hr'=> ?_];exact put r ⟨c.pl,c.li,c.dr,c.mr,c.ps⟩ H1 s1 hr' e
  ·rw [if_neg hb] at e;erw[aB (by simpa using hb) ?_];erw[ai hT rfl ?_];erw[ai hT rfl ?_];rwa[eu.mk _ _ _ _ _ _ _ _ _ rfl ht λr H1 s1 hr'=> ?_];exact put r ⟨c.pl,c.li,0,c.mr,c.ps⟩ H1 s1 hr' e
 ·have z2: ¬0<c.dr:=z2
  have e:lq M i c l=fz M i ⟨c.pl - 1,-1,0,c.mr,c.ps⟩:=by unfold lq;rw [if_neg z,if_neg z2]
  ext;erw[ai hT rfl ?_];rwa[eu.mk _ _ _ _ _ _ _ _ _ rfl ht λr H1 s1 hr'=> ?_];exact put r ⟨c.pl - 1,-1,0,c.mr,c.ps⟩ H1 s1 hr' e
theorem we {a:Int}{bs:List Int}:xI (.int a) (bs.map V.int)=decide (a∈bs):=by
 unfold xI;rw [List.any_map,Bool.eq_iff_iff,List.any_eq_true,decide_eq_true_eq];constructor
 ·rintro ⟨x,hx,z⟩;have z:(x==a)=true:=z;rw [<-eq_of_beq z];exact hx
 ·intro h;exact ⟨a,h,beq_self_eq_true a⟩
theorem oP (bs:List Int):(bs.map V.int).all fc=true:=by
 rw [List.all_map,List.all_eq_true];intro x _;rfl
def lu (hs:Hs)(c:Cb)(l:Lf)(rs:List be):E1:=ww hs.so l.rm c.pl c.li c.ps rs
def uF (hs:Hs)(M:MS)(i:Int)(c:Cb)(l:Lf)(rs:List be):MS:=
 {fz (v5 (v5 M (Str.ofString "out") (fo c.pl c.ps) i c) (Str.ofString "in") (lu hs c l rs).ins i c) i ⟨c.pl,(lu hs c l rs).light,jB l.kd l.tn c.dr (M.bl.testBit i.toNat) (decide (((fo c.pl c.ps).length:Int)+((lu hs c l rs).ins.length:Int)>0)),c.mr,(lu hs c l rs).kept⟩ with ws:=M.ws.filter λr=> !decide (r.tag∈(lu hs c l rs).ins)}
structure HQ (P:Program)(w:World)(K:Fg)(mg:Str->Option Value)(base:Heap)(kD kH kS:Addr):Prop where
 c:∀k,mj k->HS K (kc kD kH kS k)
 m:∀k,mj k->pD P w K mg base b8 1 "left" (kc kD kH kS k) (jK K k)
theorem xP {hs:Hs}{c:Cb}{l:Lf}{rs:List be}:(lu hs c l rs).ins.length<=rs.length:=by
 have:=(nM (so:=hs.so) (room:=l.rm) (pl:=c.pl) rs ⟨c.li,jy c.pl c.ps,[]⟩).2;simpa [lu,ww] using this
theorem xy {pl:Int}{ps:List (Int×Int)}:(fo pl ps).length<=ps.length:=by
 unfold fo;rw [List.length_map];exact List.length_filter_le _ _
inductive CI (K:Fg)(C:Addr)(vs:List V)(H:Hp)(Q:VK)(_e:XK):Prop
 |mk (m i rl h hs l H0 M c xr rs:_) (_:vs=[.ref m,.int i,.ref rl]) (_:jE K H0 h hs) (_:hs.ls[i.toNat]? =some l) (_:gu K C H0 H m h M) (_:atC M i c) (_:i<1000) (_:c.ps.length<=64) (_:M.log.length<=2000) (_:M.ws.length<=1000) (_:(∃f0,c.pl=2*f0)) (_:H0 rl=some (.lst xr)) (_:aO K H0 xr (rs.map be.d)) (_:Kt rs) (_:∀H',bc H H'->gu K C H0 H' m h (uF hs M i c l rs)->Q .non H')
theorem JD {C kD kH kS:Addr}(F:bY K "exchange" "exchange" ou f fd)(cM:uS K C)(D:HQ P w K mg base kD kH kS)(bh:mg "len"=none)(iT:bO P w K mg base 1 "room_of" ["house","lift"] (kQ K λl=> .int l.rm))(d7:bO P w K mg base 1 "turns_of" ["house","lift"] (kQ K λl=> .int l.tn))(sR:bO P w K mg base 1 "kind_of" ["house","lift"] (kQ K λl=> .str l.kd))(mF:bO P w K mg base 3 "exchanged" ["sort","room","cabin","riders"] (yD K))(eW:bO P w K mg base 2 "log_steps" ["moment","word","tags","lift"] (u6 K C))(sW:bO P w K mg base 3 "door_of" ["kind","turns"] (qM K kD kH kS))(im:bO P w K mg base 2 "has" ["mask","k"] gw)(aZ:bO P w K mg base 1 "with_changes" ["cabin","place","light","door"] (eu K)):aQ P w K mg base b8 4 f fd ["moment","lift","riders"] (CI K C):=by
 rwa[F.ok dP ↑8 ↑2]
 ·obtain ⟨m,i,rl,h,hs,l,H0,M,c,xr,rs,rfl,_⟩:=h;rfl
 obtain ⟨m,i,rl,h,hs,l,H0,M,c,xr,rs,rfl,hH,hl,⟨dx,lc,lw,ll,xs,ys,zs,a⟩,hc,i1,pl64,gl,wl,⟨f0,hf0⟩,er,dr,hrs,q⟩:=h;obtain ⟨t,hx,hi,ht,hlt⟩:=a.atC hc;have cl:=cM.i.cl;obtain ⟨j,hj⟩:=Int.eq_ofNat_of_zero_le hc.1;obtain ⟨ph,phs,pb,hh1,hh2,hh3,hh4,hh5⟩:=(hH.same a.s).at hc.1 hl;have kok:mj l.kd:=(hH.1.lf l (List.mem_of_getElem? hl)).2.2.2.2;erw[⟨_,(af (aA (i:=3) dP.nd rfl ↑6 ↑12) (af (aA (i:=4) dP.nd rfl ↑6 (ao mF hr ↑1 rfl (ac ↑28 (ac (ao iT hr ↑1 rfl (ac (wv 3) ↑34)) (ac (ak ↑4 ↑12 (wv 1) ↑3) (ac (wv 2) ae)))))) (af (aA (i:=5) dP.nd rfl ↑6 (ak ↑4 (wv 4) aa ↑3)) (af (aA (i:=6) dP.nd rfl ↑6 (ak ↑4 (wv 4) aa ↑3)) (af (aA (i:=7) dP.nd rfl (Or.inr rfl) (ak ↑4 (wv 4) aa ↑3)) (af (aH (ao eW hr ↑1 rfl (ac (wv 0) (ac aq (ac (wv 6) ↑34))))) (af (aH (ao eW hr ↑1 rfl (ac (wv 0) (ac aq (ac (wv 7) ↑34))))) (af (aA (i:=8) dP.nd rfl ↑6 (ao sW hr ↑1 rfl (ac (ao sR hr ↑1 rfl (ac (wv 3) ↑34)) (ac (ao d7 hr ↑1 rfl (ac (wv 3) ↑34)) ae)))) (af (aA (i:=9) dP.nd rfl ↑6 (qg (n:=1) pN hr ↑1 (wv 8) (ac (ak ↑4 (wv 5) aa ↑3) (ac (ao im hr ↑1 rfl (ac ↑12 ↑34)) (ac (ce lF (aG ↑23 (ax ↑32 rfl bh PySem.boot_len (ac (wv 6) ae)) (ax ↑32 rfl bh PySem.boot_len (ac (wv 7) ae))) aa (au _)) ae))))) (af (fA (ao aZ hr ↑1 rfl (ac (wv 5) (ac (ak ↑4 (wv 5) aa ↑3) (ac (ak ↑4 (wv 5) aa ↑3) (ac (wv 9) ae))))) (fB ↑12 (wv 1) iq)) (ag (dz (K:=K) rfl (wv 0) (bD rfl (aI (N':=["rider","ins"]) (pk:=[none,some 7]) ↑33) (bg (K:=K) rfl ↑12) (λC s H ex=>(aC (i:=0) (show List.Nodup (["rider","ins"]:List Str) by decide+kernel) rfl ↑6)) (λC s H ex=>(fO (az (qh (K:=K) rfl) ↑11 (wv 1) (by with_unfolding_all rfl)))) (λC s H ex=>(wv 0))))))))))))))),?_⟩];erw[cc a cl cM.house (v:= .ref h) rfl ?_];erw[ai hh1 rfl ?_];erw[kQ.mk (g:=λl=> .int l.rm) _ _ _ _ rfl (hH.same a.s) hc.1 hl ?_];erw[cc a cl cM.cabins (v:= .ref lc) rfl ?_];erw[bi (aN.of a.ec) hi ?_];rwa[Mt ht pl64 (a.s _ _ er) (aO.same dr a.s) hrs hf0 λr H1 s1 told=> ?_];obtain ⟨cn,co,ci,er1,hcn,eo,ei,no,ni,noi⟩:=told;have e1:ww hs.so l.rm c.pl c.li c.ps rs=lu hs c l rs:=rfl;rw [e1] at hcn ei;generalize hE:lu hs c l rs=E' at *;generalize hO:fo c.pl c.ps=O at *
 have el:E'.ins.length<=rs.length:=by rw [<-hE];exact xP
 have ol:O.length<=64:=by rw [<-hO];exact Nat.le_trans xy pl64
 have rl64:rs.length<=64:=hrs.1;have a1:=a.same s1;obtain ⟨aw,sw⟩:=a1.wide
 have nk:∀ {p q:Addr} {o:HO},H p=none->H q=some o->p≠q:=λ{p q o} h1 h2 z=>by rw [z,h2] at h1;cases h1
 have eoC:kg H1 m lc lw ll co=some (.lst (O.map V.int)):=ia eo (nk no a.em) (nk no a.ec) (nk no a.ew) (nk no a.el);have eiC:kg H1 m lc lw ll ci=some (.lst (E'.ins.map V.int)):=ia ei (nk ni a.em) (nk ni a.ec) (nk ni a.ew) (nk ni a.el);generalize hHc:kg H1 m lc lw ll=Hc at aw sw eoC eiC;have er1T:=aK.of (K:=K) er1;ext;erw[ai er1T rfl ?_];erw[ai er1T rfl ?_];erw[ai er1T rfl ?_];have hM1:gu K C Hc H1 m h M:=⟨dx,lc,lw,ll,xs,ys,zs,aw⟩;erw[Aa (ts:=O) hM1 hc (aN.of eoC) ↑5 ↑5 λH2 st2 hM2=> ?_];rwa[Aa (ts:=E'.ins) (c:=c) hM2 hc (aN.of eiC) ↑5 (by show (M.log++_).length<=_;rw [List.length_append,List.length_map];omega) λH3 st3 hM3=> ?_];have st13:=st2.trans st3;obtain ⟨dx3,lc3,lw3,ll3,xs3,ys3,zs3,a3⟩:=hM3;have hH3:=hH.same (sw.trans a3.s);ext;erw[kQ.mk (g:=λl=> .str l.kd) _ _ _ _ rfl hH3 hc.1 hl ?_];erw[kQ.mk (g:=λl=> .int l.tn) _ _ _ _ rfl hH3 hc.1 hl ?_];rwa[qM.mk _ _ rfl kok λda ddx H4 s4 n4 e4=> ?_];have a4:=a3.same s4;have st14:=st13.trans s4.st;have hcn4:cA K H4 cn c.pl E'.light c.dr c.mr E'.kept:=hcn.keep st14;obtain ⟨nb,nbs,ecn,enb,dnb⟩:=id hcn4;have hcT:=aK.of (K:=K) ecn;ext;erw[mY e4 rfl (D.m _ kok) ?_];erw[ai hcT rfl ?_];erw[cc a4 cl cM.blocked (v:= .int (M.bl:Int)) rfl ?_];rw [hj];erw[gw.mk _ _ rfl ↑5 ?_];rwa[cr (aN.of (a4.s _ _ eoC)) ?_];rw [List.length_map];ext;rwa[cr (aN.of (a4.s _ _ eiC)) ?_];rw [List.length_map];ext;erw[jK.mk _ _ _ _ _ _ _ rfl e4 (D.c _ kok).i.cl (D.c _ kok).n ?_];erw[ai hcT rfl ?_];erw[ai hcT rfl ?_];rwa[eu.mk _ _ _ _ _ _ _ _ _ rfl hcn4 λt5 H5 s5 ht5=> ?_];have a5:=a4.same s5;obtain ⟨_,_,_,_,hlt3⟩:=a3.atC (c:=c) hc;ext;erw[cc a5 cl cM.cabins (v:= .ref lc3) rfl ?_];rw [<-hj];rwa[gI (j:=i.toNat) a5.ec (pT hc.1 hlt3) ?_];have a6:=a5.setC (i:=i.toNat) (c:=⟨c.pl,E'.light,jB l.kd l.tn c.dr (M.bl.testBit j) (decide ((O.length:Int)+(E'.ins.length:Int)>0)),c.mr,E'.kept⟩) ⟨t5,rfl,ht5⟩;generalize hH6:upd H5 lc3 (.lst (xs3.set i.toNat (.ref t5)))=H6 at a6 ⊢
 have st16:bc H1 H6:=by rw [<-hH6];exact (st14.trans s5.st).trans (.updL a5.ec)
 clear hH6;have yl:ys3.length=M.ws.length:=aT a3.dw;ext;erw[cc a6 cl cM.waiting (v:= .ref lw3) rfl ?_];rwa[cW (aN.of a6.ew) ?_];rwa[bZ (xs:=ys3) (λj us HX=>ar H6 HX/\us.length<=j/\aO K HX us (((M.ws.take j).filter λr=> !decide (r.tag∈E'.ins)).map be.d)) (bB ↑5) (λj us HX h=>h.2.1) ⟨.refl _,Nat.le_refl _,.nil⟩ (λj us HX _ h=>h.1.seq (aN.of a6.ew)) ↑29 (λus HX hP l7 n7=> ?_)]
 ·obtain ⟨sx,hul,hd⟩:=hP;obtain ⟨r,hr',dr'⟩:=b6 (f:=be.d) a6.dw hy;have hr':M.ws[j]? =some r:=hr';obtain ⟨ra,rfl,hT⟩:=cB (cI.same dr' sx);have nx:=kN (λr:be=> !decide (r.tag∈E'.ins)) hr';erw[⟨bC,?_⟩];erw[ai hT rfl ?_];rwa[uh (aN.of (sx _ _ (a6.s _ _ eiC))) rfl (oP _) ?_];rw [we];show if (!decide (r.tag∈E'.ins))=true then _ else _
  cases hb:(!decide (r.tag∈E'.ins)) with
  |true=>
   rw [if_pos rfl];ext;rwa[⟨sx,by rw [List.length_append];show _+1<=_;omega,?_⟩];rw [nx,hb,if_pos rfl,List.map_append];exact Paired.app hd (.cons (cI.same dr' sx) .nil)
  |false=>
   rw [if_neg ↑1];rwa[⟨sx,by omega,?_⟩];rw [nx,hb,if_neg ↑1,List.append_nil];exact hd
 obtain ⟨sx,hul,hd⟩:=hP;rw [yl,List.take_of_length_le ↑15] at hd;have aX:=a6.same sx;have s8:ar HX (upd HX l7 (.lst us)):= .upd n7;have a8:=aX.same s8;have e8:upd HX l7 (.lst us) l7=some (.lst us):=aj;generalize hH8:upd HX l7 (.lst us)=H8 at s8 a8 e8 ⊢
 have nlc:lc3≠l7:=λz=>by rw [<-z,aX.ec] at n7;cases n7
 have nll:l7≠ll3:=λz=>by rw [z,aX.el] at n7;cases n7
 ext;rwa[dB a8.em cl cM.waiting (by show 7<1000;decide) ?_];have a9:=a8.putW (rs:=M.ws.filter λr=> !decide (r.tag∈E'.ins)) (none_of aX.s n7) nlc nll e8 (aO.same hd s8);rwa[q _ ((s1.st.trans st16).trans (((sx.trans s8).st).trans (.updI a8.em))) (gu.onto sw ⟨dx3,lc3,l7,ll3,xs3.set i.toNat (.ref t5),us,zs3,?_⟩)]
 have ee:uF hs M i c l rs= {fz (v5 (v5 M (Str.ofString "out") O i c) (Str.ofString "in") E'.ins i c) i ⟨c.pl,E'.light,jB l.kd l.tn c.dr (M.bl.testBit j) (decide ((O.length:Int)+(E'.ins.length:Int)>0)),c.mr,E'.kept⟩ with ws:=M.ws.filter λr=> !decide (r.tag∈E'.ins)}:=by
  unfold uF;rw [hE,hO,hj,show ((j:Int)).toNat=j by omega]
 rw [ee];exact a9
structure EM (li he up dn:Int):Prop where
 l0: -1<=li
 l1:li<=1
 h0:0<=he
 h1:he<=2
 u0:0<=up
 d0:0<=dn
abbrev Wf:=Int->Int->Int->Int->Int->Str
inductive EN (P:Program)(w:World)(K:Fg)(mg:Str->Option Value)(base:Heap)(H:Hp)(a:Addr)(wf:Wf):Prop
 |mk (C dx fs sp:_) (_:H a=some (.ins C dx fs)) (_:fs.lookup (Str.ofString "word")=none) (_:pD P w K mg base b8 2 "word" C sp) (_:(∀fl li he up dn,EM li he up dn->wf fl li he up dn∈jH)) (_:∀(H':Hp) (sa:Addr) (fl li he up dn:Int) (Q:VK) (E:XK),H' a=some (.ins C dx fs)->aK K H' sa [.int fl,.int li,.int he,.int up,.int dn]->EM li he up dn->Q (.str (wf fl li he up dn)) H'->sp [.ref a,.ref sa] H' Q E)
theorem EN.same {H H':Hp}{a:Addr}{wf:Wf}(r:EN P w K mg base H a wf)(s:ar H H'):EN P w K mg base H' a wf:=by
 obtain ⟨C,dx,fs,sp,h1,h2,h3,h4,h5⟩:=r;exact ⟨C,dx,fs,sp,s _ _ h1,h2,h3,h4,h5⟩
def Cz (hs:Hs)(l:Lf)(c:Cb)(wd:Str):Cb:=⟨(gU hs.fl l.tn c.pl c.li c.dr c.ps (dI hs.so c.pl c.li c.ps wd)).1,(gU hs.fl l.tn c.pl c.li c.dr c.ps (dI hs.so c.pl c.li c.ps wd)).2.1,(gU hs.fl l.tn c.pl c.li c.dr c.ps (dI hs.so c.pl c.li c.ps wd)).2.2,c.mr,c.ps⟩
def OW (hs:Hs)(wf:Wf)(M:MS)(i:Int)(c:Cb)(l:Lf)(rs:List be)(M':MS):Prop:=∃(f0:Nat) (u d:Int),c.pl=2*(f0:Int)/\ET (tk l.rm c.ps rs) f0 u/\EU (tk l.rm c.ps rs) f0 d/\M'=fz M i (Cz hs l c (wf f0 c.li (m7 hs.so c.li (tk l.rm c.ps rs f0) (HK c.ps f0) (G6 rs f0 c.li)) u d))
structure tM (fl:Int)(c:Cb):Prop where
 p0:0<=c.pl
 p1:c.pl<=2*(fl - 1)
 l0: -1<=c.li
 l1:c.li<=1
 m0:0<=c.mr
 ev:0<c.dr->c.pl% 2=0
 len:c.ps.length<=64
 gs:∀p∈c.ps,0<=p.2/\p.2<fl
structure pC (fl:Int)(r:be):Prop where
 s0:0<=r.start
 s1:r.start<fl
 g0:0<=r.goal
 g1:r.goal<fl
 ne:r.start≠r.goal
theorem Ae {so:Str}{li:Int}{a b c:Bool}:0<=m7 so li a b c/\m7 so li a b c<=2:=by
 unfold m7;split
 ·decide
 split
 ·decide
 split
 ·decide
 ·decide
theorem ET.nn {t:Int->Bool}{f u:Int}(h:ET t f u):0<=u:=by rcases h with ⟨h,_⟩|⟨h,_⟩<;>omega
theorem EU.nn {t:Int->Bool}{f u:Int}(h:EU t f u):0<=u:=by rcases h with ⟨h,_⟩|⟨h,_⟩<;>omega
inductive CJ (P:Program)(w:World)(K:Fg)(mg:Str->Option Value)(base:Heap)(C:Addr)(vs:List V)(H:Hp)(Q:VK)(_e:XK):Prop
 |mk (m ru i rl h hs l H0 M c xr rs wf:_) (_:vs=[.ref m,.ref ru,.int i,.ref rl]) (_:jE K H0 h hs) (_:hs.ls[i.toNat]? =some l) (_:EN P w K mg base H0 ru wf) (_:gu K C H0 H m h M) (_:atC M i c) (_:tM hs.fl c) (_:c.pl% 2=0) (_:H0 rl=some (.lst xr)) (_:aO K H0 xr (rs.map be.d)) (_:(∀r∈rs,pC hs.fl r)) (_:rs.length<=64) (_:∀M' H',OW hs wf M i c l rs M'->bc H H'->gu K C H0 H' m h M'->Q .non H')
theorem JE {C:Addr}(F:bY K "go_by_rule" "go_by_rule" oq f fd)(cM:uS K C)(iT:bO P w K mg base 1 "room_of" ["house","lift"] (kQ K λl=> .int l.rm))(d7:bO P w K mg base 1 "turns_of" ["house","lift"] (kQ K λl=> .int l.tn))(EB:bO P w K mg base 5 "view" ["sort","room","cabin","riders"] (yr K))(sO:bO P w K mg base 3 "steered" ["sort","floors","turns","cabin","word"] (nP K)):aQ P w K mg base b8 6 f fd ["moment","rule","lift","riders"] (CJ P w K mg base C):=by
 rwa[F.ok iX ↑8 ↑2]
 ·obtain ⟨m,ru,i,rl,h,hs,l,H0,M,c,xr,rs,wf,rfl,_⟩:=h;rfl
 obtain ⟨m,ru,i,rl,h,hs,l,H0,M,c,xr,rs,wf,rfl,hH,hl,hru,⟨dx,lc,lw,ll,xs,ys,zs,a⟩,hc,ok,ev,er,dr,hrs,rl64,q⟩:=h;obtain ⟨t,hx,hi,ht,hlt⟩:=a.atC hc;have cl:=cM.i.cl;have f8:=hH.1.f8;obtain ⟨ph,phs,pb,hh1,hh2,hh3,hh4,hh5⟩:=(hH.same a.s).at hc.1 hl;obtain ⟨kC,kdx,kfs,ksp,kr,klk,kM,kw,ks⟩:=hru;obtain ⟨f0,hf0⟩:∃f0:Nat,c.pl=2*(f0:Int):=⟨(c.pl / 2).toNat,by have:=ok.p0;omega⟩
 have f0l:(f0:Int)<hs.fl:=by have:=ok.p1;omega
 have fls:Ng c.ps rs:=⟨λp hp=>⟨(ok.gs p hp).1,by have:=(ok.gs p hp).2;omega⟩,λr hr=>⟨(hrs r hr).s0,by have:=(hrs r hr).s1;omega⟩,ok.len,rl64⟩;have gok:qv c.ps:=⟨by have:=ok.len;omega,λp hp=>⟨(ok.gs p hp).1,by have:=(ok.gs p hp).2;omega⟩⟩;erw[⟨_,(af (aA (i:=4) iX.nd rfl ↑6 ↑12) (af (aA (i:=5) iX.nd rfl ↑6 (ak ↑4 ↑12 (wv 2) ↑3)) (af (aA (i:=6) iX.nd rfl ↑6 (qg (n:=2) pN hr ↑1 (wv 1) (ac (ao EB hr ↑1 rfl (ac (ak ↑4 (wv 4) aa ↑3) (ac (ao iT hr ↑1 rfl (ac (wv 4) (ac (wv 2) ae))) (ac (wv 5) (ac (wv 3) ae))))) ae))) (ag (fA (ao sO hr ↑1 rfl (ac (ak ↑4 (wv 4) aa ↑3) (ac (ak ↑4 (wv 4) aa ↑3) (ac (ao d7 hr ↑1 rfl (ac (wv 4) (ac (wv 2) ae))) (ac (wv 5) (ac (wv 6) ae)))))) (fB ↑12 (wv 2) iq)))))),?_⟩];erw[cc a cl cM.house (v:= .ref h) rfl ?_];erw[cc a cl cM.cabins (v:= .ref lc) rfl ?_];erw[bi (aN.of a.ec) hi ?_];erw[mY (a.s _ _ kr) klk kM ?_];erw[ai hh1 rfl ?_];erw[kQ.mk (g:=λl=> .int l.rm) _ _ _ _ rfl (hH.same a.s) hc.1 hl ?_];rwa[yr.mk _ _ _ _ _ _ _ _ _ _ _ _ rfl ht (a.s _ _ er) (aO.same dr a.s) fls hf0 ↑5 λv u d H1 s1 hu hd ev1=> ?_];have a1:=a.same s1;have sn:EM c.li (m7 hs.so c.li (tk l.rm c.ps rs f0) (HK c.ps f0) (G6 rs f0 c.li)) u d:=⟨ok.l0,ok.l1,Ae.1,Ae.2,hu.nn,hd.nn⟩;ext;rwa[ks H1 v f0 c.li _ u d _ _ (a1.s _ _ kr) (aK.of ev1) sn ?_];have hwd:=kw f0 _ _ _ _ sn;generalize hwd':wf f0 c.li (m7 hs.so c.li (tk l.rm c.ps rs f0) (HK c.ps f0) (G6 rs f0 c.li)) u d=wd at hwd ⊢;ext;erw[ai (s1.seqT hh1) rfl ?_];erw[ai (s1.seqT hh1) rfl ?_];erw[kQ.mk (g:=λl=> .int l.tn) _ _ _ _ rfl (hH.same a1.s) hc.1 hl ?_];rwa[Cy (f0:=(f0:Int)) (ht.same s1) hwd gok hf0 ↑5 f0l ok.l0 ok.l1 λr H2 s2 hr'=> ?_];have a2:=a1.same s2;ext;erw[cc a2 cl cM.cabins (v:= .ref lc) rfl ?_];rwa[gI (j:=i.toNat) a2.ec (pT hc.1 hlt) ?_];rwa[q (fz M i (Cz hs l c wd)) _ ⟨f0,u,d,hf0,hu,hd,by rw [hwd']⟩ ((s1.trans s2).st.trans (.updL a2.ec)) ⟨dx,lc,lw,ll,_,ys,zs,a2.setC (i:=i.toNat) (c:=Cz hs l c wd) ⟨r,rfl,hr'⟩⟩]
def ii (i:Int)(M:MS):List be:=M.ws.filter λr=>decide (r.lift=i)
def E3 (hs:Hs)(wf:Wf)(M:MS)(i:Int)(c:Cb)(l:Lf)(M':MS):Prop:=if 0<c.dr then M'=uF hs M i c l (ii i M) else if c.pl% 2=1 then M'=fz M i ⟨c.pl+c.li,c.li,0,c.mr,c.ps⟩ else OW hs wf M i c l (ii i M) M'
section
variable {hs:Hs}{wf:Wf}{M M':MS}{i:Int}{c:Cb}{l:Lf}
theorem Pl (z:0<c.dr):E3 hs wf M i c l (uF hs M i c l (ii i M)):=by unfold E3;rw [if_pos z]
theorem Pk (z: ¬0<c.dr)(z2:c.pl% 2=1):E3 hs wf M i c l (fz M i ⟨c.pl+c.li,c.li,0,c.mr,c.ps⟩):=by unfold E3;rw [if_neg z,if_pos z2]
theorem Pj (z: ¬0<c.dr)(z2: ¬c.pl% 2=1)(h:OW hs wf M i c l (ii i M) M'):E3 hs wf M i c l M':=by unfold E3;rw [if_neg z,if_neg z2];exact h
end
inductive CF (P:Program)(w:World)(K:Fg)(mg:Str->Option Value)(base:Heap)(C:Addr)(vs:List V)(H:Hp)(Q:VK)(_e:XK):Prop
 |mk (m ru i h hs l H0 M c wf:_) (_:vs=[.ref m,.ref ru,.int i]) (_:jE K H0 h hs) (_:hs.ls[i.toNat]? =some l) (_:EN P w K mg base H0 ru wf) (_:gu K C H0 H m h M) (_:atC M i c) (_:tM hs.fl c) (_:i<1000) (_:(∀r∈M.ws,pC hs.fl r)) (_:M.ws.length<=64) (_:M.log.length<=2000) (_:∀M' H',E3 hs wf M i c l M'->bc H H'->gu K C H0 H' m h M'->Q .non H')
theorem JB {C:Addr}(F:bY K "go_without_fire" "go_without_fire" gK f fd)(cM:uS K C)(pj:bO P w K mg base 4 "exchange" ["moment","lift","riders"] (CI K C))(aZ:bO P w K mg base 1 "with_changes" ["cabin","place","light","door"] (eu K))(kq:bO P w K mg base 6 "go_by_rule" ["moment","rule","lift","riders"] (CJ P w K mg base C)):aQ P w K mg base b8 7 f fd ["moment","rule","lift"] (CF P w K mg base C):=by
 rwa[F.ok gh ↑8 ↑2]
 ·obtain ⟨m,ru,i,h,hs,l,H0,M,c,wf,rfl,_⟩:=h;rfl
 obtain ⟨m,ru,i,h,hs,l,H0,M,c,wf,rfl,hH,hl,hru,⟨dx,lc,lw,ll,xs,ys,zs,a⟩,hc,ok,i1,hws,wl,gl,q⟩:=h;obtain ⟨t,hx,hi,ht,hlt⟩:=a.atC hc;obtain ⟨b,bs,et,eb,db⟩:=id ht;have hT:=aK.of (K:=K) et;have cl:=cM.i.cl;have yl:ys.length=M.ws.length:=aT a.dw;erw[⟨_,(af (aA (i:=3) gh.nd rfl ↑6 (ak ↑4 ↑12 (wv 2) ↑3)) (af (fM (i:=4) rfl gh.nd rfl ↑6 (aI (N':=["rider","lift"]) (pk:=[none,some 2]) ↑33) (bg (K:=K) rfl ↑12) (λC s H ex=>(aC (i:=0) (show List.Nodup (["rider","lift"]:List Str) by decide+kernel) rfl ↑6)) (λC s H ex=>(fO (az ↑10 ↑11 (wv 1) (au _)))) (λC s H ex=>(wv 0))) (ag (aJ (az lF ↑28 aa (au _)) (ag (aH (ao pj hr ↑1 rfl (ac (wv 0) (ac (wv 2) (ac (wv 4) ae)))))) (ag (aJ (az ↑10 (aG iu ↑28 aa) aa (au _)) (ag (fA (ao aZ hr ↑1 rfl (ac (wv 3) (ac (aG ↑23 ↑28 ↑28) (ac ↑28 (ac aa ae))))) (fB ↑12 (wv 2) iq))) (ag (aH (ao kq hr ↑1 rfl (ac (wv 0) (ac (wv 1) (ac (wv 2) (ac (wv 4) ae))))))))))))),?_⟩];erw[cc a cl cM.cabins (v:= .ref lc) rfl ?_];erw[bi (aN.of a.ec) hi ?_];erw[cc a cl cM.waiting (v:= .ref lw) rfl ?_];rwa[cW (aN.of a.ew) ?_];rwa[bZ (xs:=ys) (λj us HX=>ar H HX/\us.length<=j/\aO K HX us (((M.ws.take j).filter λr=>decide (r.lift=i)).map be.d)) (bB ↑5) (λj us HX h=>h.2.1) ⟨.refl _,Nat.le_refl _,.nil⟩ (λj us HX _ h=>h.1.seq (aN.of a.ew)) ↑29 (λus HX hP rl n1=> ?_)]
 ·obtain ⟨sx,hul,hd⟩:=hP;obtain ⟨r,hr',dr'⟩:=b6 (f:=be.d) a.dw hy;obtain ⟨ra,rfl,hT'⟩:=cB (cI.same dr' sx);have nx:=kN (λr:be=>decide (r.lift=i)) hr';erw[⟨bC,?_⟩];rwa[ai hT' rfl ?_];show if decide (r.lift=i)=true then _ else _
  cases hb:decide (r.lift=i) with
  |true=>
   rw [if_pos rfl];ext;rwa[⟨sx,by rw [List.length_append];show _+1<=_;omega,?_⟩];rw [nx,hb,if_pos rfl,List.map_append];exact Paired.app hd (.cons (cI.same dr' sx) .nil)
  |false=>
   rw [if_neg ↑1];rwa[⟨sx,by omega,?_⟩];rw [nx,hb,if_neg ↑1,List.append_nil];exact hd
 obtain ⟨sx,hul,hd⟩:=hP;rw [yl,List.take_of_length_le ↑15] at hd;have s2':ar HX (upd HX rl (.lst us)):= .upd n1;have e2:upd HX rl (.lst us) rl=some (.lst us):=aj;have d2:=aO.same hd s2';generalize hH2:upd HX rl (.lst us)=H2 at s2' e2 d2 ⊢;have s2:=sx.trans s2';have a2:=a.same s2;obtain ⟨aw,sw⟩:=a2.wide
 have nk:∀ {p:Addr} {o:HO},H p=some o->rl≠p:=λ{p o} e z=>by rw [<-z] at e;rw [sx _ _ e] at n1;cases n1
 have erC:kg H2 m lc lw ll rl=some (.lst us):=ia e2 (nk a.em) (nk a.ec) (nk a.ew) (nk a.el)
 have dC:aO K (kg H2 m lc lw ll) us ((ii i M).map be.d):=by
  rwa[bc.dens (λb o z1 z2 e=> ?_) d2 (cE _)];exact ia e (λz=>by rw [z,a2.em] at e;cases e;exact z2 _ _ _ rfl) (λz=>by rw [z,a2.ec] at e;cases e;exact z1 _ rfl) (λz=>by rw [z,a2.ew] at e;cases e;exact z1 _ rfl) (λz=>by rw [z,a2.el] at e;cases e;exact z1 _ rfl)
 generalize hHc:kg H2 m lc lw ll=Hc at aw sw erC dC;have hM2:gu K C Hc H2 m h M:=⟨dx,lc,lw,ll,xs,ys,zs,aw⟩;have hrs:∀r∈ii i M,pC hs.fl r:=λr hr=>hws r ((List.mem_filter.mp hr).1);have rl64:(ii i M).length<=64:=Nat.le_trans (List.length_filter_le _ _) wl;ext;erw[ai (s2.seqT hT) rfl ?_];rwa[hV (λz=> ?_) (λz=> ?_)]
 ·have z:0<c.dr:=z;ext;exact CI.mk _ _ _ _ _ _ _ _ _ _ _ rfl (hH.same sw) hl hM2 hc i1 ok.len gl ↑5 ⟨c.pl / 2,by have:=ok.ev z;omega⟩ erC dC ⟨rl64,λr hr=>(hrs r hr).ne⟩ λH' st hM'=>q _ H' (Pl z) (s2.st.trans st) (hM'.onto sw)
 have z: ¬0<c.dr:=z;ext;erw[ai (s2.seqT hT) rfl ?_];erw[⟨by decide,?_⟩];rwa[hV (λz2=> ?_) (λz2=> ?_)]
 ·have z2:c.pl% 2=1:=z2;ext;erw[ai (s2.seqT hT) rfl ?_];erw[ai (s2.seqT hT) rfl ?_];erw[ai (s2.seqT hT) rfl ?_];rwa[eu.mk _ _ _ _ _ _ _ _ _ rfl (ht.same s2) λr H3 s3 hr'=> ?_];have a3:=a2.same s3;ext;erw[cc a3 cl cM.cabins (v:= .ref lc) rfl ?_];rwa[gI (j:=i.toNat) a3.ec (pT hc.1 hlt) ?_];exact q _ _ (Pk z z2) ((s2.trans s3).st.trans (.updL a3.ec)) ⟨dx,lc,lw,ll,_,ys,zs,a3.setC (i:=i.toNat) (c:=⟨c.pl+c.li,c.li,0,c.mr,c.ps⟩) ⟨r,rfl,hr'⟩⟩
 ·have z2: ¬c.pl% 2=1:=z2;ext;exact CJ.mk _ _ _ _ _ _ _ _ _ _ _ _ _ rfl (hH.same sw) hl (hru.same sw) hM2 hc ok ↑5 erC dC hrs rl64 λM' H' hby st hM'=>q M' H' (Pj z z2 hby) (s2.st.trans st) (hM'.onto sw)
def Nf (hs:Hs)(wf:Wf)(M:MS)(i:Int)(c:Cb)(l:Lf)(M':MS):Prop:=(c.mr.toNat.testBit 0=true/\M'=M)\/(c.mr.toNat.testBit 0=false/\M.fire=true/\M'=lq M i c l)\/(c.mr.toNat.testBit 0=false/\M.fire=false/\E3 hs wf M i c l M')
inductive IJ (P:Program)(w:World)(K:Fg)(mg:Str->Option Value)(base:Heap)(C:Addr)(vs:List V)(H:Hp)(Q:VK)(_e:XK):Prop
 |mk (m ru i h hs l H0 M c wf:_) (_:vs=[.ref m,.ref ru,.int i]) (_:jE K H0 h hs) (_:hs.ls[i.toNat]? =some l) (_:EN P w K mg base H0 ru wf) (_:gu K C H0 H m h M) (_:atC M i c) (_:tM hs.fl c) (_:i<1000) (_:(∀r∈M.ws,pC hs.fl r)) (_:M.ws.length<=64) (_:M.log.length<=2000) (_:∀M' H',Nf hs wf M i c l M'->bc H H'->gu K C H0 H' m h M'->Q .non H')
theorem LW {C:Addr}{t1:Tok}(F:bY K "go" "go" N8 f fd)(cM:uS K C)(mq:mg "STUCK"=some (.int 0 t1))(im:bO P w K mg base 2 "has" ["mask","k"] gw)(ko:bO P w K mg base 4 "go_in_fire" ["moment","lift"] (CG K C))(fK:bO P w K mg base 7 "go_without_fire" ["moment","rule","lift"] (CF P w K mg base C)):aQ P w K mg base b8 8 f fd ["moment","rule","lift"] (IJ P w K mg base C):=by
 have vO:bp (.int 0) (.int 0 t1):=⟨_,rfl⟩;rwa[F.ok N7 ↑8 ↑2]
 ·obtain ⟨m,ru,i,h,hs,l,H0,M,c,wf,rfl,_⟩:=h;rfl
 obtain ⟨m,ru,i,h,hs,l,H0,M,c,wf,rfl,hH,hl,hru,hM,hc,ok,i1,hws,wl,gl,q⟩:=h;have hM0:=hM;obtain ⟨dx,lc,lw,ll,xs,ys,zs,a⟩:=hM;obtain ⟨t,hx,hi,ht,hlt⟩:=a.atC hc;obtain ⟨b,bs,et,eb,db⟩:=id ht;have cl:=cM.i.cl;obtain ⟨mn,hmn⟩:=Int.eq_ofNat_of_zero_le ok.m0;erw[⟨_,(af (aJ (bt (K:=K) rfl (ao im hr ↑1 rfl (ac (ak ↑4 (ak ↑4 ↑12 (wv 2) ↑3) aa ↑3) (ac (eQ rfl mq vO) ae)))) (ag FQ) aF) (ag (aJ (bt (K:=K) rfl ↑12) (ag (aH (ao ko hr ↑1 rfl (ac (wv 0) (ac (wv 2) ae))))) (ag (aH (ao fK hr ↑1 rfl (ac (wv 0) (ac (wv 1) (ac (wv 2) ae))))))))),?_⟩];erw[cc a cl cM.cabins (v:= .ref lc) rfl ?_];erw[bi (aN.of a.ec) hi ?_];rwa[ai (aK.of et) rfl ?_];rw [hmn]
 have em:c.mr.toNat=mn:=by rw [hmn];rfl
 ext;erw[gw.mk _ 0 rfl ↑1 ?_];by_cases hb:mn.testBit 0=true
 ·erw[bj hb ?_];exact q M H (.inl ⟨by rw [em];exact hb,rfl⟩) (.refl _) hM0
 ·have hb':mn.testBit 0=false:=by simpa using hb
  erw[aB hb' ?_];erw[cc a cl cM.fire (v:= .bl M.fire) rfl ?_]
  cases hf:M.fire with
  |true=>
   erw[bj rfl ?_];exact CG.mk _ _ _ _ _ _ _ _ rfl hH hl hM0 hc i1 ok.len ↑5 λH' st hM'=>q _ H' (.inr (.inl ⟨by rw [em];exact hb',hf,rfl⟩)) st hM'
  |false=>
   erw[aB rfl ?_];exact CF.mk _ _ _ _ _ _ _ _ _ _ rfl hH hl hru hM0 hc ok i1 hws wl gl λM' H' hg st hM'=>q M' H' (.inr (.inr ⟨by rw [em];exact hb',hf,hg⟩)) st hM'
inductive gk (K:Fg)(H:Hp)(st:Addr)(cs:List Cb)(ws:List be)(last:Int)(fire:Bool):Prop
 |mk (tc tw xs ys:_) (_:aK K H st [.ref tc,.ref tw,.int last,.bl fire]) (_:aK K H tc xs) (_:aK K H tw ys) (_:Paired (cx K H) xs cs) (_:aO K H ys (ws.map be.d))
theorem gk.keep {H H':Hp}{st:Addr}{cs:List Cb}{ws:List be}{last:Int}{fire:Bool}(h:gk K H st cs ws last fire)(s:bc H H'):gk K H' st cs ws last fire:=by
 obtain ⟨tc,tw,xs,ys,h1,h2,h3,h4,h5⟩:=h;exact ⟨tc,tw,xs,ys,s.sqT h1,s.sqT h2,s.sqT h3,Paired.imp' (λx c z=>cx.keep z s) h4,s.dens h5 (cE _)⟩
inductive Ft (K:Fg)(vs:List V)(H:Hp)(Q:VK)(_e:XK):Prop
 |mk (a h st C dx tc tw xs ys last fire:_) (_:vs=[.ref a,.ref h,.ref st]) (_:H a=some (.ins C dx [])) (_:uS K C) (_:aK K H st [.ref tc,.ref tw,.int last,.bl fire]) (_:aK K H tc xs) (_:aK K H tw ys) (_:∀lc lw ll H',nF a H H'->H lc=none->H lw=none->H ll=none->lc≠lw->lc≠ll->lw≠ll->H' a=some (.ins C dx (oE h lc lw last fire 0 ll))->H' lc=some (.lst xs)->H' lw=some (.lst ys)->H' ll=some (.lst [])->Q .non H')
theorem iF {a:Addr}{H H':Hp}{C dx:Addr}{fs:List (Str×V)}(s:nF a H H')(e:H a=some (.ins C dx fs)){p:Addr}{xs:List V}(h:aK K H p xs):aK K H' p xs:=by
 rcases h with (h|⟨u,h⟩)|h
 ·exact .inl (.inl (s _ _ (λz=>by rw [z,e] at h;cases h) h))
 ·exact .inl (.inr ⟨u,s _ _ (λz=>by rw [z,e] at h;cases h) h⟩)
 ·exact .inr h
theorem DD (F:bY K "__init__" "Moment.__init__" jO f fd)(eF:mg "list"=none):aQ P w K mg base b8 1 f fd ["self","house","state"] (Ft K):=by
 rwa[F.ok vj ↑8 ↑2]
 ·obtain ⟨a,h,st,C,dx,tc,tw,xs,ys,last,fire,rfl,_⟩:=h;rfl
 obtain ⟨a,h,st,C,dx,tc,tw,xs,ys,last,fire,rfl,ea,cM,h1,h2,h3,q⟩:=h;have cl:=cM.i.cl;erw[⟨_,(af (dz (K:=K) rfl (wv 0) (wv 1)) (af (dz (K:=K) rfl (wv 0) (br (lE (K:=K) rfl) rfl eF boot_list (ac ↑13 ae))) (af (dz (K:=K) rfl (wv 0) (br (lE (K:=K) rfl) rfl eF boot_list (ac ↑13 ae))) (af (dz (K:=K) rfl (wv 0) ↑13) (af (dz (K:=K) rfl (wv 0) ↑13) (af (dz (K:=K) rfl (wv 0) aa) (ag (dz (K:=K) rfl (wv 0) (cZ ae))))))))),?_⟩];rwa[dB ea cl cM.house ↑1 ?_];generalize hH1:upd H a _=H1
 have p1:nF a H H1:=by rw [<-hH1];exact λb o n e=>by rw [am n];exact e
 have ea1:H1 a=some (.ins C dx [(Str.ofString "house",.ref h)]):=by rw [<-hH1];exact aj
 clear hH1;ext;erw[ai (iF p1 ea h1) rfl ?_];rwa[jf (.inr (iF p1 ea h2)) λlc H2 s2 n2 e2=> ?_];have ea2:=s2 _ _ ea1;ext;rwa[dB ea2 cl cM.cabins (by show 1<1000;decide) ?_];generalize hH3:upd H2 a _=H3
 have p3:nF a H H3:=by rw [<-hH3];exact λb o n e=>by rw [am n];exact s2 _ _ (p1 b o n e)
 have ea3:H3 a=some (.ins C dx [(Str.ofString "house",.ref h),(Str.ofString "cabins",.ref lc)]):=by rw [<-hH3];exact aj
 have nlc:lc≠a:=λz=>by rw [z,ea1] at n2;cases n2
 have e3:H3 lc=some (.lst xs):=by rw [<-hH3,am nlc];exact e2
 have lc0:H lc=none:=by
  cases y:H lc with
  |none=>rfl
  |some o=>rw [p1 _ _ nlc y] at n2;cases n2
 clear hH3;ext;erw[ai (iF p3 ea h1) rfl ?_];rwa[jf (.inr (iF p3 ea h3)) λlw H4 s4 n4 e4=> ?_];have ea4:=s4 _ _ ea3;ext;rwa[dB ea4 cl cM.waiting (by show 2<1000;decide) ?_];generalize hH5:upd H4 a _=H5
 have p5:nF a H H5:=by rw [<-hH5];exact λb o n e=>by rw [am n];exact s4 _ _ (p3 b o n e)
 have ea5:H5 a=some (.ins C dx [(Str.ofString "house",.ref h),(Str.ofString "cabins",.ref lc),(Str.ofString "waiting",.ref lw)]):=by rw [<-hH5];exact aj
 have nlw:lw≠a:=λz=>by rw [z,ea3] at n4;cases n4
 have ncw:lc≠lw:=λz=>by rw [<-z,e3] at n4;cases n4
 have e5:H5 lw=some (.lst ys):=by rw [<-hH5,am nlw];exact e4
 have e5c:H5 lc=some (.lst xs):=by rw [<-hH5,am nlc];exact s4 _ _ e3
 have lw0:H lw=none:=by
  cases y:H lw with
  |none=>rfl
  |some o=>rw [p3 _ _ nlw y] at n4;cases n4
 clear hH5;ext;erw[ai (iF p5 ea h1) rfl ?_];rwa[dB ea5 cl cM.last (by show 3<1000;decide) ?_];generalize hH6:upd H5 a _=H6
 have p6:nF a H H6:=by rw [<-hH6];exact λb o n e=>by rw [am n];exact p5 b o n e
 have ea6:H6 a=some (.ins C dx [(Str.ofString "house",.ref h),(Str.ofString "cabins",.ref lc),(Str.ofString "waiting",.ref lw),(Str.ofString "last",.int last)]):=by rw [<-hH6];exact aj
 have e6:H6 lw=some (.lst ys):=by rw [<-hH6,am nlw];exact e5
 have e6c:H6 lc=some (.lst xs):=by rw [<-hH6,am nlc];exact e5c
 clear hH6;ext;erw[ai (iF p6 ea h1) rfl ?_];rwa[dB ea6 cl cM.fire (by show 4<1000;decide) ?_];generalize hH7:upd H6 a _=H7
 have p7:nF a H H7:=by rw [<-hH7];exact λb o n e=>by rw [am n];exact p6 b o n e
 have ea7:H7 a=some (.ins C dx [(Str.ofString "house",.ref h),(Str.ofString "cabins",.ref lc),(Str.ofString "waiting",.ref lw),(Str.ofString "last",.int last),(Str.ofString "fire",.bl fire)]):=by rw [<-hH7];exact aj
 have e7:H7 lw=some (.lst ys):=by rw [<-hH7,am nlw];exact e6
 have e7c:H7 lc=some (.lst xs):=by rw [<-hH7,am nlc];exact e6c
 clear hH7;ext;rwa[dB ea7 cl cM.blocked (by show 5<1000;decide) ?_];generalize hH8:upd H7 a _=H8
 have p8:nF a H H8:=by rw [<-hH8];exact λb o n e=>by rw [am n];exact p7 b o n e
 have ea8:H8 a=some (.ins C dx [(Str.ofString "house",.ref h),(Str.ofString "cabins",.ref lc),(Str.ofString "waiting",.ref lw),(Str.ofString "last",.int last),(Str.ofString "fire",.bl fire),(Str.ofString "blocked",.int 0)]):=by rw [<-hH8];exact aj
 have e8:H8 lw=some (.lst ys):=by rw [<-hH8,am nlw];exact e7
 have e8c:H8 lc=some (.lst xs):=by rw [<-hH8,am nlc];exact e7c
 clear hH8;ext;rwa[iI ↑35 λll H9 s9 n9 e9=> ?_];have ea9:=s9 _ _ ea8;ext;rwa[dB ea9 cl cM.log (by show 6<1000;decide) ?_]
 have nll:ll≠a:=λz=>by rw [z,ea8] at n9;cases n9
 have ncl:lc≠ll:=λz=>by rw [<-z,e8c] at n9;cases n9
 have nwl:lw≠ll:=λz=>by rw [<-z,e8] at n9;cases n9
 rwa[q lc lw ll _ (λb o n e=> ?_) lc0 lw0 ?_ ncw ncl nwl aj ?_ ?_ ?_]
 ·rw [am n];exact s9 _ _ (p8 b o n e)
 ·cases y:H ll with
  |none=>rfl
  |some o=>rw [p8 _ _ nll y] at n9;cases n9
 ·rw [am nlc];exact s9 _ _ e8c
 ·rw [am nlw];exact s9 _ _ e8
 ·rw [am nll];exact e9
unseal jV in
theorem Oi {C:Addr}{E:XK}{H:Hp}{h st:Addr}{cs:List Cb}{ws:List be}{last:Int}{fire:Bool}{Q:VK}(cM:uS K C)(hs:gk K H st cs ws last fire)(g:∀m H',gu K C H H' m h ⟨cs,ws,last,fire,0,[]⟩->Q (.ref m) H'):jV C (Ft K) E [.ref h,.ref st] H Q:=by
 show ∀a dx,H a=none->H dx=none->dx≠a->Ft K (.ref a::([.ref h,.ref st]++[])) (upd (upd H dx (.own a)) a (.ins C dx [])) (λv H2=>v= .non/\Q (.ref a) H2) E;intro a dx h1 h2 h3;have sm:ar H (upd (upd H dx (.own a)) a (.ins C dx [])):=iE h1 h2;obtain ⟨tc,tw,xs,ys,i1,i2,i3,i4,i5⟩:=hs;rwa[⟨a,h,st,C,dx,tc,tw,xs,ys,last,fire,rfl,aj,cM,sm.seqT i1,sm.seqT i2,sm.seqT i3,λlc lw ll H' sp nc nw nl cw c_l wl em ec ew el=>⟨rfl,g a H' ?_⟩⟩];have sH:ar H H':=λb o e=>sp b o (λz=>by rw [z,h1] at e;cases e) (sm b o e);exact ⟨dx,lc,lw,ll,xs,ys,[],sH,h1,none_of sm nc,none_of sm nw,none_of sm nl,cw,c_l,wl,em,ec,ew,el,Paired.imp' (λx c z=>cx.keep z sH.st) i4,aO.same i5 sH,.nil,rfl⟩
inductive CA (K:Fg)(C:Addr)(vs:List V)(H:Hp)(Q:VK)(_e:XK):Prop
 |mk (m h H0 M:_) (_:vs=[.ref m]) (_:gu K C H0 H m h M) (_:∀st H',ar H H'->gk K H' st M.cs M.ws M.last M.fire->Q (.ref st) H')
theorem Jv {C:Addr}(F:bY K "state_of" "state_of" re f fd)(cM:uS K C)(bH:mg "tuple"=none):aQ P w K mg base b8 1 f fd ["moment"] (CA K C):=by
 rwa[F.ok AF ↑8 ↑2]
 ·obtain ⟨m,h,H0,M,rfl,_⟩:=h;rfl
 obtain ⟨m,h,H0,M,rfl,⟨dx,lc,lw,ll,xs,ys,zs,a⟩,q⟩:=h;have cl:=cM.i.cl;erw[⟨_,(ag (aD (aP (ac (br (fh (K:=K) rfl) rfl bH boot_tuple (ac ↑12 ae)) (ac (br (fh (K:=K) rfl) rfl bH boot_tuple (ac ↑12 ae)) (ac ↑12 (ac ↑12 ae))))))),?_⟩];erw[cc a cl cM.cabins (v:= .ref lc) rfl ?_];rwa[gH (aN.of a.ec) λtc H1 s1 n1 e1=> ?_];have a1:=a.same s1;ext;erw[cc a1 cl cM.waiting (v:= .ref lw) rfl ?_];rwa[gH (aN.of a1.ew) λtw H2 s2 n2 e2=> ?_];have a2:=a1.same s2;ext;erw[cc a2 cl cM.last (v:= .int M.last) rfl ?_];erw[cc a2 cl cM.fire (v:= .bl M.fire) rfl ?_];rwa[bK (bB (by show 4<=1000000;decide)) λst H3 s3 n3 e3=> ?_];have a3:=a2.same s3;exact q st H3 (s1.trans (s2.trans s3)) ⟨tc,tw,xs,ys,aK.of e3,aK.of (s3 _ _ (s2 _ _ e1)),aK.of (s3 _ _ e2),a3.dc,a3.dw⟩
structure mI (hs:Hs)(n:Nat)(M:MS):Prop where
 len:M.cs.length=hs.ls.length
 cs:∀c∈M.cs,tM hs.fl c
 ws:∀r∈M.ws,pC hs.fl r
 sum:M.log.length+M.ws.length<=n
theorem mZ {α:Type}{l:List α}{i:Nat}{x y:α}(h:y∈l.set i x):y∈l\/y=x:=List.mem_or_eq_of_mem_set h
theorem tM.mk' {fl:Int}{c:Cb}(o:tM fl c){k:Int}(h:0<=k):tM fl {c with mr:=k}:=⟨o.p0,o.p1,o.l0,o.l1,h,o.ev,o.len,o.gs⟩
theorem j8 {M:MS}{i:Int}(h:i.toNat<M.cs.length):cf M i∈M.cs:=by
 unfold cf;rw [List.getD_eq_getElem?_getD,List.getElem?_eq_getElem h];exact List.getElem_mem h
theorem mI.setMk {hs:Hs}{n:Nat}{M:MS}(o:mI hs n M){i:Int}{k:Int}(hi:i.toNat<M.cs.length)(h:0<=k){ws:List be}(hw:∀r∈ws,pC hs.fl r)(hl:ws.length<=M.ws.length):mI hs n {M with cs:=M.cs.set i.toNat {cf M i with mr:=k},ws:=ws}:=by
 rwa[⟨by rw [List.length_set];exact o.len,λc hc=> ?_,hw,by have:=o.sum;show M.log.length+ws.length<=n;omega⟩]
 rcases mZ hc with z|z
 ·exact o.cs c z
 ·rw [z];exact (o.cs _ (j8 hi)).mk' h
theorem xM {hs:Hs}{i:Int}{ws:List be}(h:∀r∈ws,pC hs.fl r):∀r∈dR i ws,pC hs.fl r:=λr hr=>by
 obtain ⟨s,hs',rfl⟩:=List.mem_map.mp hr;have o:=h s hs';split
 ·exact ⟨o.s0,o.s1,o.g0,o.g1,o.ne⟩
 ·exact o
theorem mI.deed {hs:Hs}{n:Nat}{M:MS}(o:mI hs n M){d:Dd}(hd:d.ok)(hf:d.fit hs.fl hs.ls.length):mI hs (n+1) (eK hs.lo M d):=by
 have up:∀ {M':MS},mI hs n M'->mI hs (n+1) M':=λz=>⟨z.len,z.cs,z.ws,by have:=z.sum;omega⟩
 cases d with
 |come t s g k=>
  obtain ⟨s0,s1,g0,g1,ne⟩:=hf;show mI hs (n+1) (kh hs.lo M t s g k);unfold kh;have sm:=o.sum;split
  ·exact ⟨o.len,o.cs,o.ws,by show (M.log++_).length+M.ws.length<=_;rw [List.length_append];simp;omega⟩
  split
  ·exact ⟨o.len,o.cs,o.ws,by show (M.log++_).length+M.ws.length<=_;rw [List.length_append];simp;omega⟩
  ·rwa[⟨o.len,o.cs,λr hr=> ?_,by show M.log.length+(M.ws++_).length<=_;rw [List.length_append];simp;omega⟩]
   rcases List.mem_append.mp hr with z|z
   ·exact o.ws r z
   ·rw [List.mem_singleton.mp z];exact ⟨s0,s1,g0,g1,ne⟩
 |lf x i=>
  obtain ⟨i0,i1⟩:=hf
  have hi:i.toNat<M.cs.length:=by rw [o.len];omega
  have fr:(dR i M.ws).length<=M.ws.length:=by unfold dR;rw [List.length_map];exact Nat.le_refl _
  rcases hd with rfl|rfl|rfl|rfl|rfl
  ·rw [gZ];exact up ⟨o.len,o.cs,o.ws,o.sum⟩
  ·rw [gX];exact up (o.setMk hi ↑5 (xM o.ws) fr)
  ·rw [iO];exact up (o.setMk hi ↑5 o.ws ↑15)
  ·rw [gY];exact up (o.setMk hi ↑5 (xM o.ws) fr)
  ·rw [iR];exact up (o.setMk hi ↑5 o.ws ↑15)
 |sg x=>
  rcases hd with rfl|rfl
  ·rw [iP];have sm:=o.sum;exact up ⟨o.len,o.cs,λr hr=>(by have hr:r∈([]:List be):=hr;cases hr),by show (M.log++_).length+0<=_;rw [List.length_append,List.length_map];omega⟩
  ·rw [iQ];unfold pX;split
   ·exact up ⟨o.len,o.cs,o.ws,o.sum⟩
   ·exact up o
theorem mI.dealt {hs:Hs}{n:Nat}{M:MS}(o:mI hs n M){dl:yc}{p:Nat}{r:be}(hr:pC hs.fl r):mI hs (n+1) (g8 dl M p r):=by
 unfold g8;have sm:=o.sum;split
 ·exact ⟨o.len,o.cs,o.ws,by show M.log.length+M.ws.length<=_;omega⟩
 ·rwa[⟨o.len,o.cs,λs hs'=> ?_,by show (M.log++_).length+(M.ws.set _ _).length<=_;rw [List.length_append,List.length_set];simp;omega⟩]
  rcases mZ hs' with z|z
  ·exact o.ws s z
  ·rw [z];exact ⟨hr.s0,hr.s1,hr.g0,hr.g1,hr.ne⟩
theorem mI.deals {hs:Hs}{n:Nat}{M:MS}(o:mI hs n M){dl:yc}{W:List be}(hW:∀r∈W,pC hs.fl r):∀i,mI hs (n+i) (bu dl W i M)
 |0=>o
 |i+1=>by
  have h:=mI.deals (dl:=dl) o hW i;unfold bu;split
  ·rename_i r hr;split
   ·exact h.dealt (hW r (List.mem_of_getElem? hr))
   ·exact ⟨h.len,h.cs,h.ws,by have:=h.sum;omega⟩
  ·exact ⟨h.len,h.cs,h.ws,by have:=h.sum;omega⟩
def KC (hs:Hs)(wf:Wf):Nat->MS->MS->Prop
 |0,M,M'=>M'=M
 |i+1,M,M''=>∃M' c l,KC hs wf i M M'/\atC M' (i:Int) c/\hs.ls[i]? =some l/\Nf hs wf M' (i:Int) c l M''
structure lz (hs:Hs)(M0:MS)(i:Nat)(M:MS):Prop where
 len:M.cs.length=M0.cs.length
 cs:∀j,i<=j->M.cs[j]? =M0.cs[j]?
 ws:∀r∈M.ws,r∈M0.ws
 wl:M.ws.length<=M0.ws.length
 log:M.log.length<=M0.log.length+128*i
theorem lz.set {hs:Hs}{M0 M:MS}{i:Nat}(o:lz hs M0 i M){c:Cb}{lg:List D}{ws:List be}(hw:∀r∈ws,r∈M.ws)(hl:ws.length<=M.ws.length)(hg:lg.length<=M.log.length+128):lz hs M0 (i+1) {M with cs:=M.cs.set i c,ws:=ws,log:=lg}:=by
 rwa[⟨by rw [List.length_set];exact o.len,λj hj=> ?_,λr hr=>o.ws r (hw r hr),Nat.le_trans hl o.wl,by have:=o.log;show lg.length<=_;omega⟩];rw [List.getElem?_set_ne ↑5];exact o.cs j ↑5
theorem lz.go {hs:Hs}{wf:Wf}{M0 M M':MS}{i:Nat}{c:Cb}{l:Lf}(o:lz hs M0 i M)(p64:c.ps.length<=64)(w64:M.ws.length<=64)(h:Nf hs wf M (i:Int) c l M'):lz hs M0 (i+1) M':=by
 have stay:lz hs M0 (i+1) M:=⟨o.len,λj hj=>o.cs j ↑5,o.ws,o.wl,by have:=o.log;omega⟩
 have e:((i:Int)).toNat=i:=by omega
 have put:∀c',lz hs M0 (i+1) (fz M (i:Int) c'):=λc'=>by
  have:=o.set (c:=c') (lg:=M.log) (ws:=M.ws) (λr h=>h) ↑15 ↑5;unfold fz;rw [e];exact this
 rcases h with ⟨_,rfl⟩|⟨_,_,rfl⟩|⟨_,_,h⟩
 ·exact stay
 ·unfold lq;split
  ·unfold z4 fz v5;rw [e];rwa[o.set (λr h=>h) ↑15 ?_];rw [List.length_append,List.length_map,List.length_map];have:=mX c;omega
  split
  ·exact put _
  ·exact put _
 ·unfold E3 at h;split at h
  ·rw [h];unfold uF fz v5;rw [e];rwa[o.set (λr h=>(List.mem_filter.mp h).1) (List.length_filter_le _ _) ?_];rw [List.length_append,List.length_append,List.length_map,List.length_map];have h1:=xy (pl:=c.pl) (ps:=c.ps);have h2:=xP (hs:=hs) (c:=c) (l:=l) (rs:=ii (i:Int) M);have h3:(ii (i:Int) M).length<=M.ws.length:=List.length_filter_le _ _;omega
  split at h
  ·rw [h];exact put _
  ·obtain ⟨f0,u,d,_,_,_,rfl⟩:=h;exact put _
inductive Dw where
 |good
 |floor (i:Int)
 |lift (i:Int)
 |ride
 |twice (t:Int)
def gT (fl:Int)(n:Nat):Dd->Dw
 | .come _ s g _=>if s<0\/fl<=s then .floor s else if g<0\/fl<=g then .floor g else if s=g then .ride else .good
 | .lf _ i=>if i<0\/(n:Int)<=i then .lift i else .good
 | .sg _=> .good
def bv (fl:Int)(n:Nat)(ts:List Int):List Dd->Dw
 |[]=> .good
 |d::ds=>match gT fl n d with
  | .good=>match d with
    | .come t _ _ _=>if t∈ts then .twice t else bv fl n (ts++[t]) ds
    |_=>bv fl n ts ds
  |u=>u
theorem GW {fl:Int}{n:Nat}{d:Dd}(h:gT fl n d= .good):d.fit fl n:=by
 cases d with
 |come t s g k=>
  unfold gT at h;dsimp only at h;split at h
  ·cases h
  split at h
  ·cases h
  split at h
  ·cases h
  ·rename_i h1 h2 h3;exact ⟨by omega,by omega,by omega,by omega,h3⟩
 |lf x i=>
  unfold gT at h;dsimp only at h;split at h
  ·cases h
  ·rename_i h1;exact ⟨by omega,by omega⟩
 |sg x=>trivial
theorem nv {fl:Int}{n:Nat}:∀ {ds:List Dd} {ts:List Int},bv fl n ts ds= .good->∀d∈ds,d.fit fl n
 |[],_,_,d,hd=>by cases hd
 |e::ds,ts,h,d,hd=>by
  unfold bv at h;split at h
  ·rename_i hg
   have dG:∃ts',bv fl n ts' ds= .good:=by
    split at h
    ·split at h
     ·cases h
     ·exact ⟨_,h⟩
    ·exact ⟨_,h⟩
   obtain ⟨ts',h'⟩:=dG
   rcases List.mem_cons.mp hd with rfl|hd
   ·exact GW hg
   ·exact nv h' d hd
  ·rename_i hu;exact absurd h hu
def zL (kF kL kR kT:Addr)(H:Hp)(Q:VK)(E:XK):Dw->Prop
 | .good=>∀H',ar H H'->Q .non H'
 | .floor i=>∀d H',ar H H'->H' d=some (.xd [(Str.ofString "floor",.int i)])->E (.ref kF) (some d) H'
 | .lift i=>∀d H',ar H H'->H' d=some (.xd [(Str.ofString "lift",.int i)])->E (.ref kL) (some d) H'
 | .ride=>∀H',ar H H'->E (.ref kR) none H'
 | .twice t=>∀d H',ar H H'->H' d=some (.xd [(Str.ofString "tag",.int t)])->E (.ref kT) (some d) H'
def bM (cs:List Cb)(ws:List be):List Int:=ws.map (·.tag)++cs.flatMap λc=>c.ps.map (·.1)
def kA (K:Fg)(H:Hp)(p:Addr)(ds:List Dd):Prop:=∃xs,aN K H p xs/\Paired (λx d=>∃a,x=V.ref a/\jv H a d) xs ds
inductive CC (K:Fg)(kF kL kR kT:Addr)(vs:List V)(H:Hp)(Q:VK)(E:XK):Prop
 |mk (h st dl hs cs ws last fire ds:_) (_:vs=[.ref h,.ref st,.ref dl]) (_:jE K H h hs) (_:gk K H st cs ws last fire) (_:kA K H dl ds) (_:ws.length<=64) (_:(∀c∈cs,c.ps.length<=64)) (_:cs.length<=10) (_:ds.length<=100) (_:zL kF kL kR kT H Q E (bv hs.fl hs.ls.length (bM cs ws) ds))
structure HR (K:Fg)(C:Addr):Prop where
 i:tY K C
 house:bV K C "house"
 rule:bV K C "rule"
 dealer:bV K C "dealer"
abbrev oR (h ru df:Addr):List (Str×V):=[(Str.ofString "house",.ref h),(Str.ofString "rule",.ref ru),(Str.ofString "dealer",.ref df)]
def bJ (lo:Nat)(M:MS)(ds:List Dd):MS:=ds.foldl (eK lo) M
def jd (dl:yc)(M:MS):MS:=if M.fire=true then M else bu dl M.ws M.ws.length M
inductive qF (P:Program)(w:World)(K:Fg)(mg:Str->Option Value)(base:Heap)(kF kL kR kT:Addr)(pre:List Cb->List be->be->Int->Prop)(dl:yc)(vs:List V)(H:Hp)(Q:VK)(E:XK):Prop
 |mk (a st dp C dx h ru df hs wf cs ws last fire ds:_) (_:vs=[.ref a,.ref st,.ref dp]) (_:H a=some (.ins C dx (oR h ru df))) (_:HR K C) (_:jE K H h hs) (_:EN P w K mg base H ru wf) (_:qf P w K mg base 5 df (qN K pre dl)) (_:gk K H st cs ws last fire) (_:kA K H dp ds) (_:mI hs ws.length ⟨cs,ws,last,fire,0,[]⟩) (_:ws.length+ds.length<=64) (_:(bv hs.fl hs.ls.length (bM cs ws) ds= .good->(bJ hs.lo ⟨cs,ws,last,fire,0,[]⟩ ds).fire=false->∀i r,(bJ hs.lo ⟨cs,ws,last,fire,0,[]⟩ ds).ws[i]? =some r->r.lift= -1->pre (bu dl (bJ hs.lo ⟨cs,ws,last,fire,0,[]⟩ ds).ws i ↑43).cs (bu dl (bJ hs.lo ⟨cs,ws,last,fire,0,[]⟩ ds).ws i ↑43).ws r (bu dl (bJ hs.lo ⟨cs,ws,last,fire,0,[]⟩ ds).ws i ↑43).last)) (_:(bv hs.fl hs.ls.length (bM cs ws) ds= .good->∀r st' ll zs M' H',ar H H'->H' r=some (.tup [.ref st',.ref ll])->gk K H' st' M'.cs M'.ws M'.last M'.fire->H ll=none->H' ll=some (.lst zs)->aO K H' zs M'.log->noLs M'.log=true->KC hs wf hs.ls.length (jd dl ↑43) M'->Q (.ref r) H')) (_:(bv hs.fl hs.ls.length (bM cs ws) ds≠ .good->zL kF kL kR kT H (λ_ _=>False) E (bv hs.fl hs.ls.length (bM cs ws) ds)))
theorem jj {lo:Nat}{M:MS}{ds:List Dd}{i:Nat}{d:Dd}(h:ds[i]? =some d):bJ lo M (ds.take (i+1))=eK lo (bJ lo M (ds.take i)) d:=by
 unfold bJ;rw [List.take_add_one,h,List.foldl_append];rfl
theorem mI.deeds {hs:Hs}{n:Nat}{M:MS}(o:mI hs n M):∀ {ds:List Dd},(∀d∈ds,d.ok/\d.fit hs.fl hs.ls.length)->∀i,mI hs (n+i) (bJ hs.lo M (ds.take i))
 |ds,h,0=>by
  rw [List.take_zero];exact o
 |ds,h,i+1=>by
  have z:=mI.deeds o h i
  cases e:ds[i]? with
  |none=>
   rw [List.take_add_one,e];simp only [Option.toList_none,List.append_nil];exact ⟨z.len,z.cs,z.ws,by have:=z.sum;omega⟩
  |some d=>
   rw [jj e];have:=h d (List.mem_of_getElem? e);exact z.deed this.1 this.2
theorem F5 {kM kF kL kR kT:Addr}{pre:List Cb->List be->be->Int->Prop}{dl:yc}(F:bY K "turn" "Court.turn" lZ f fd)(cM:uS K kM)(bh:mg "len"=none)(bA:mg "range"=none)(jG:yd P w K mg base 7 "need_deeds" ["house","state","deeds"] (CC K kF kL kR kT))(v3:nJ P w K mg base b8 1 "Moment" kM (Ft K))(tm:bO P w K mg base 5 "do_deed" ["moment","deed"] (IK K kM))(pq:bO P w K mg base 7 "deal_all" ["moment","dealer"] (vc P w K mg base kM pre dl))(c_go:bO P w K mg base 8 "go" ["moment","rule","lift"] (IJ P w K mg base kM))(oW:bO P w K mg base 1 "state_of" ["moment"] (CA K kM)):aQ P w K mg base (nK P w) 9 f fd ["self","state","deeds"] (qF P w K mg base kF kL kR kT pre dl):=by
 rwa[F.okX hU ↑8 ↑2]
 ·obtain ⟨a,st,dp,C,dx,h,ru,df,hs,wf,cs,ws,last,fire,ds,rfl,_⟩:=h;rfl
 obtain ⟨a,st,dp,C,dx,h,ru,df,hs,wf,cs,ws,last,fire,ds,rfl,ea,cC,hH,hru,hcal,hst,hds,hok,n64,hpre,q,qb⟩:=h;have clc:=cC.i.cl;have cl:=cM.i.cl;have l3:=hH.1.l3
 have cl10:cs.length<=10:=by have:=hok.len;have:cs.length=hs.ls.length:=this;omega
 have cs64:∀c∈cs,c.ps.length<=64:=λc hc=>(hok.cs c hc).len;erw[⟨_,(af (aH (oB fq jG hr ↑1 rfl (ac ↑12 (ac (wv 1) (ac (wv 2) ae))))) (af (aA (i:=3) hU.nd rfl ↑6 (kB v3 pN hr ↑1 rfl (ac ↑12 ↑34))) (af (du rF rfl (bg (K:=K) rfl (wv 2)) (aC (i:=4) hU.nd rfl ↑6) (ag (aH (ao tm hr ↑1 rfl (ac (wv 3) (ac (wv 4) ae)))))) (fP (aJ (de (bt (K:=K) rfl (aW (K:=K) rfl (wv 3)))) (ag (aH (ao pq hr ↑1 rfl (ac (wv 3) (ac ↑12 ae))))) aF) (af (du rF rfl (cy rfl bA (ac (ax ↑32 rfl bh PySem.boot_len (ac (ak ↑4 ↑12 aa ↑3) ae)) ae)) (aC (i:=5) hU.nd rfl ↑6) (ag (aH (ao c_go hr ↑1 rfl (ac (wv 3) (ac ↑12 (ac (wv 5) ae))))))) (ag (aD (aP (ac (ao oW hr ↑1 rfl (ac (wv 3) ae)) (ac (aW (K:=K) rfl (wv 3)) ae)))))))))),?_⟩];erw[ik ea clc cC.house (v:= .ref h) rfl ?_];rwa[CC.mk _ _ _ _ _ _ _ _ _ rfl hH hst hds ↑5 cs64 cl10 ↑5 ?_]
 cases hb:bv hs.fl hs.ls.length (bM cs ws) ds with
 |floor i=>have z:=qb (by rw [hb];intro z;cases z);rw [hb] at z;exact λd H' sm ed=>z d H' sm ed
 |lift i=>have z:=qb (by rw [hb];intro z;cases z);rw [hb] at z;exact λd H' sm ed=>z d H' sm ed
 |ride=>have z:=qb (by rw [hb];intro z;cases z);rw [hb] at z;exact λH' sm=>z H' sm
 |twice t=>have z:=qb (by rw [hb];intro z;cases z);rw [hb] at z;exact λd H' sm ed=>z d H' sm ed
 |good=>
 intro H1 s1;have q:=q hb;have hpre:=hpre hb;clear qb;have fit:=nv hb;obtain ⟨xd,hxd,pd⟩:=hds
 have okd:∀d∈ds,d.ok/\d.fit hs.fl hs.ls.length:=λd hd=>by
  obtain ⟨i,hi⟩:=List.mem_iff_getElem?.mp hd;obtain ⟨x,hx,ad,_,hdd⟩:=pd.get2 hi;exact ⟨hdd.2,fit d hd⟩
 have ea1:=s1 _ _ ea;ext;erw[ik ea1 clc cC.house (v:= .ref h) rfl ?_];rwa[Oi cM (hst.keep s1.st) λm H2 hM2=> ?_];have s2:=hM2.s;generalize hM0:(⟨cs,ws,last,fire,0,[]⟩:MS)=M0 at hM2 hok hpre q
 have hl0:M0.ws.length=ws.length:=by rw [<-hM0]
 have dl1:=s1.seq hxd;ext;rwa[cW (s2.seq dl1) ?_];have xl:xd.length=ds.length:=pd.len;have HH1:=hH.same s1;have mid:∀i,mI hs (ws.length+i) (bJ hs.lo M0 (ds.take i)):=λi=>hok.deeds okd i;rwa[fH (xs:=xd) (λi σ HX=>gu K kM H1 HX m h (bJ hs.lo M0 (ds.take i))/\bc H1 HX/\∃o4 o5,σ=[some (.ref a),some (.ref st),some (.ref dp),some (.ref m),o4,o5]) ⟨by rw [List.take_zero];exact hM2,s2.st,_,_,rfl⟩ (λi σ HX _ pv=>pv.1.s.seq dl1) (λi x σ HX hx pv=> ?_) (λσ HX pv=> ?_)]
 ·obtain ⟨hM,stx,o4,o5,rfl⟩:=pv;obtain ⟨d,hd,ad,rfl,hdd⟩:=pd.get1 hx;have il:i<ds.length:=(List.getElem?_eq_some_iff.mp hd).1;have mo:=mid i;have sm:=mo.sum;ext;rwa[IK.mk _ _ _ _ _ _ _ rfl (HH1.keep stx) ((hdd.same s1).keep stx) (okd d (List.mem_of_getElem? hd)).2 hM ↑5 ↑5 mo.len (λc hc=>(mo.cs c hc).m0) λH' st' hM'=> ?_];rw [<-jj hd] at hM';exact ⟨hM',stx.trans st',_,_,rfl⟩
 obtain ⟨hM,stx,o4,o5,rfl⟩:=pv;rw [xl,List.take_of_length_le ↑15] at hM;have mo:=mid ds.length;rw [List.take_of_length_le ↑15] at mo;generalize hM1:bJ hs.lo M0 ds=M1 at hM mo hpre q;have smo:=mo.sum;have hMx:=hM;obtain ⟨mdx,mlc,mlw,mll,mxs,mys,mzs,ma⟩:=hM;ext;rwa[qc (λσ H3=>gu K kM H1 H3 m h (jd dl M1)/\bc H1 H3/\∃o4 o5,σ=[some (.ref a),some (.ref st),some (.ref dp),some (.ref m),o4,o5]) ?_ ?_]
 ·ext;erw[cc ma cl cM.fire (v:= .bl M1.fire) rfl ?_]
  cases hf:M1.fire with
  |true=>
   rwa[aB rfl ?_];rwa[⟨?_,stx,_,_,rfl⟩];unfold jd;rw [if_pos hf];exact hMx
  |false=>
   erw[bj rfl ?_];erw[ik (hMx.s _ _ ea1) clc cC.dealer (v:= .ref df) rfl ?_];rwa[vc.mk _ _ _ _ _ rfl hcal hMx ↑5 ↑5 (by rw [mo.len];omega) (hpre hf) λH' st' hM'=>⟨?_,stx.trans st',_,_,rfl⟩];unfold jd;rw [if_neg (by rw [hf];decide)];exact hM'
 rintro σ' H3 ⟨hM3,st3,o4,o5,rfl⟩
 have mo2:mI hs (ws.length+ds.length+M1.ws.length) (jd dl M1):=by
  unfold jd;split
  ·exact ⟨mo.len,mo.cs,mo.ws,by have:=mo.sum;omega⟩
  ·exact mo.deals mo.ws M1.ws.length
 generalize hM2':jd dl M1=M2 at hM3 mo2 q
 have wl2:M2.ws.length<=64:=by
  have h1:M2.ws.length=M1.ws.length:=by
   rw [<-hM2'];unfold jd;split
   ·rfl
   ·exact (fI _).1
  omega
 have sm2:=mo2.sum;have s3:=hM3.s;ext;rwa[ik (s3 _ _ ea1) clc cC.house (v:= .ref h) rfl ?_];obtain ⟨_,ph,phs,hh1,hh2,hh3⟩:=HH1.same s3;ext;erw[ai hh1 rfl ?_];rwa[cY hh2 ?_];rw [hh3.len];ext;rwa[⟨⟨by omega,by omega⟩,?_⟩];rwa[fG (λi σ HX=>∃M',gu K kM H1 HX m h M'/\KC hs wf i M2 M'/\lz hs M2 i M'/\bc H1 HX/\∃o4 o5,σ=[some (.ref a),some (.ref st),some (.ref dp),some (.ref m),o4,o5]) ⟨M2,hM3,rfl,⟨rfl,λ_ _=>rfl,λ_ h=>h,Nat.le_refl _,by omega⟩,st3,_,_,rfl⟩ (λi σ HX hi pv=> ?_) (λσ HX pv=> ?_)]
 ·obtain ⟨M',hM',hg,ah,stx',o4,o5,rfl⟩:=pv
  have i0:(0:Int)+(i:Nat)=((i:Nat):Int):=by omega
  rw [i0]
  have il:i<hs.ls.length:=by omega
  have hl:hs.ls[i]? =some hs.ls[i]:=List.getElem?_eq_getElem il
  have ic:i<M2.cs.length:=by rw [mo2.len];exact il
  have hc:M'.cs[i]? =some M2.cs[i]:=by rw [ah.cs i ↑15];exact List.getElem?_eq_getElem ic
  have hcok:tM hs.fl M2.cs[i]:=mo2.cs _ (List.getElem_mem ic);have hcA:atC M' (i:Int) M2.cs[i]:=⟨by omega,by rw [show ((i:Int)).toNat=i by omega];exact hc⟩
  have wl':M'.ws.length<=64:=by have:=ah.wl;omega
  ext;erw[ik (hM'.s _ _ ea1) clc cC.rule (v:= .ref ru) rfl ?_];rwa[IJ.mk _ _ _ _ _ _ _ _ _ _ rfl HH1 (by rw [show ((i:Int)).toNat=i by omega];exact hl) (hru.same s1) hM' hcA hcok ↑5 (λr hr=>mo2.ws r (ah.ws r hr)) wl' (by have:=ah.log;omega) λM'' H' hgo st' hM''=> ?_];exact ⟨M'',hM'',⟨M',_,_,hg,hcA,hl,hgo⟩,ah.go hcok.len wl' hgo,stx'.trans st',_,_,rfl⟩
 obtain ⟨M',hM',hg,ah,stx',o4,o5,rfl⟩:=pv;rw [show ((hs.ls.length:Int)).toNat=hs.ls.length by omega] at hg;obtain ⟨fdx,flc,flw,fll,fxs,fys,fzs,fa⟩:=hM';ext;rwa[CA.mk _ _ _ _ rfl ⟨fdx,flc,flw,fll,fxs,fys,fzs,fa⟩ λst' H4 s4 hst'=> ?_];have fa4:=fa.same s4;ext;erw[cc fa4 cl cM.log (v:= .ref fll) rfl ?_];rwa[bK ↑17 λr H5 s5 n5 e5=> ?_];have fa5:=fa4.same s5;exact q r st' fll fzs M' H5 (s1.trans fa5.s) e5 (hst'.keep s5.st) (none_of s1 fa.nl) fa5.el fa5.dl fa5.ln hg
seal rX qy qz
def x9 (K:Fg)(H:Hp)(a:Addr)(fl:Int)(n:Nat):Prop:=∃p c0 so ls,aK K H a [.int fl,.ref p,c0,so]/\aK K H p ls/\ls.length=n/\2<=fl/\fl<=8/\1<=n/\n<=3
theorem x9.same {H H':Hp}{a:Addr}{fl:Int}{n:Nat}(h:x9 K H a fl n)(s:ar H H'):x9 K H' a fl n:=by
 obtain ⟨p,c0,so,ls,h1,h2,r⟩:=h;exact ⟨p,c0,so,ls,s.seqT h1,s.seqT h2,r⟩
abbrev lH:Str:=Str.ofString "floor"
abbrev ue:Str:=Str.ofString "lift"
abbrev zU:Str:=Str.ofString "ride"
abbrev Cu:Str:=Str.ofString "good"
inductive Du where
 |floor (i:Int)
 |lift (i:Int)
 |ride
 |good
def Du.v:Du->List V
 | .floor i=>[.str lH,.int i]
 | .lift i=>[.str ue,.int i]
 | .ride=>[.str zU,.int 0]
 | .good=>[.str Cu,.int 0]
def BW (fl:Int)(n:Nat):Dd->Du
 | .come _ s g _=>if s<0\/fl<=s then .floor s else if g<0\/fl<=g then .floor g else if s=g then .ride else .good
 | .lf _ i=>if i<0\/(n:Int)<=i then .lift i else .good
 | .sg _=> .good
unseal rX in
theorem wb {K:Fg}{a:Addr}{v:V}{C:Addr}{H:Hp}{R:Hp->Prop}(h1:H a=some (gP a (.ref C) none))(h2:jA K C x6 "ValueError.__new__"=true)(g:R H):rX K [.ref a,v] H R:=⟨a,v,C,rfl,h1,h2,g⟩
unseal qy in
theorem B5 {K:Fg}{fl:Str}{a C:Addr}{y:V}{H:Hp}{R:Hp->Prop}(h1:H a=some (gP a (.ref C) none))(h2:jA K C x6 "ValueError.__new__"=true)(h3:W.findIn K (.ref C) "__setattr__"=some ↑39)(h4:W.findIn K (.ref C) fl=some none)(h5:W.mroIn K C (.type "object")=some true)
(g:∀d,H d=none->d≠a->R (upd (upd H a (gP a (.ref C) (some d))) d (.xd [(fl,y)]))):qy K fl a y H R:=⟨C,h1,h2,h3,h4,h5,g⟩
theorem AU {aU bf:Addr}(F:bY K "__init__" "NoFloor.__init__" iZ f fd)(cQ:ye K bf)(bU:mg "CourtError"=some (.ref bf))(j4:jA K aU x6 "ValueError.__new__"=true)(nX:W.findIn K (.ref aU) "__setattr__"=some ↑39)(dq:W.findIn K (.ref aU) "floor"=some none)(oG:W.mroIn K aU (.type "object")=some true):aQ P w K mg base b8 1 f fd ["self","floor"] (yq aU "floor"):=by
 rwa[F.ok tP ↑8 ↑2]
 ·obtain ⟨a,v,rfl,_⟩:=h;rfl
 obtain ⟨a,v,rfl,ea,q⟩:=h;erw[⟨_,(af (aH (rD (K:=K) rfl cQ rfl bU (ac (wv 0) (ac aq ae)))) (ag (vP (K:=K) rfl (wv 0) (wv 1)))),?_⟩];erw[wb ea j4 ?_];exact B5 ea j4 nX dq oG λd nd ne=>q d nd ne
theorem Dt {ba bf:Addr}(F:bY K "__init__" "NoLift.__init__" jN f fd)(cQ:ye K bf)(bU:mg "CourtError"=some (.ref bf))(m6:jA K ba x6 "ValueError.__new__"=true)(qY:W.findIn K (.ref ba) "__setattr__"=some ↑39)(ef:W.findIn K (.ref ba) "lift"=some none)(rO:W.mroIn K ba (.type "object")=some true):aQ P w K mg base b8 1 f fd ["self","lift"] (yq ba "lift"):=by
 rwa[F.ok vi ↑8 ↑2]
 ·obtain ⟨a,v,rfl,_⟩:=h;rfl
 obtain ⟨a,v,rfl,ea,q⟩:=h;erw[⟨_,(af (aH (rD (K:=K) rfl cQ rfl bU (ac (wv 0) (ac aq ae)))) (ag (vP (K:=K) rfl (wv 0) (wv 1)))),?_⟩];erw[wb ea m6 ?_];exact B5 ea m6 qY ef rO λd nd ne=>q d nd ne
inductive mM (K:Fg)(C:Addr)(vs:List V)(H:Hp)(Q:VK)(E:XK):Prop
 |mk (h fl n i:_) (_:vs=[.ref h,.int i]) (_:x9 K H h fl n) (_:(¬(i<0\/fl<=i)->Q .non H)) (_:((i<0\/fl<=i)->∀d H',ar H H'->H' d=some (.xd [(lH,.int i)])->E (.ref C) (some d) H'))
theorem AW {aU:Addr}(F:bY K "need_floor" "need_floor" lS f fd)(qx:Kz P w K mg base 1 "NoFloor" aU "floor"):aQ P w K mg base (nK P w) 3 f fd ["house","floor"] (mM K aU):=by
 rwa[F.okX xj ↑8 ↑2]
 ·obtain ⟨h,fl,n,i,rfl,_⟩:=h;rfl
 obtain ⟨h,fl,n,i,rfl,⟨p,c0,so,ls,hh,hp,hl,f2,f8,n1,n3⟩,q,qb⟩:=h;rwa[⟨_,(ag (aJ (de (wU KS w_lt aa (wv 1) ↑11)) (ag (oz fq rfl qx hr ↑1 rfl ↑34)) aF)),?_⟩];by_cases z1:i<0
 ·left;exact ⟨_,rfl,λd nd=>qb (.inl z1) d _ (.upd nd) aj⟩
 by_cases z2:fl<=i
 ·left;exact ⟨_,rfl,λd nd=>qb (.inr z2) d _ (.upd nd) aj⟩
 ·left;exact q λz=>z.elim z1 z2
inductive u5 (K:Fg)(C:Addr)(vs:List V)(H:Hp)(Q:VK)(E:XK):Prop
 |mk (h fl n i:_) (_:vs=[.ref h,.int i]) (_:x9 K H h fl n) (_:(¬(i<0\/(n:Int)<=i)->Q .non H)) (_:((i<0\/(n:Int)<=i)->∀d H',ar H H'->H' d=some (.xd [(ue,.int i)])->E (.ref C) (some d) H'))
theorem DC {ba:Addr}(F:bY K "need_lift" "need_lift" oa f fd)(bh:mg "len"=none)(uT:Kz P w K mg base 1 "NoLift" ba "lift"):aQ P w K mg base (nK P w) 3 f fd ["house","lift"] (u5 K ba):=by
 rwa[F.okX yK ↑8 ↑2]
 ·obtain ⟨h,fl,n,i,rfl,_⟩:=h;rfl
 obtain ⟨h,fl,n,i,rfl,⟨p,c0,so,ls,hh,hp,hl,f2,f8,n1,n3⟩,q,qb⟩:=h
 have hpl:(ls.length:Int)=n:=by rw [hl]
 rwa[⟨_,(ag (aJ (de (wU KS w_lt aa (wv 1) (ax ↑32 rfl bh PySem.boot_len (ac ↑11 ae)))) (ag (oz fq rfl uT hr ↑1 rfl ↑34)) aF)),?_⟩];by_cases z1:i<0
 ·left;exact ⟨_,rfl,λd nd=>qb (.inl z1) d _ (.upd nd) aj⟩
 by_cases z2:(n:Int)<=i
 ·left;exact ⟨_,rfl,λd nd=>qb (.inr z2) d _ (.upd nd) aj⟩
 ·left;exact q λz=>z.elim z1 z2
def uR (kF kL kR:Addr)(H:Hp)(Q:VK)(E:XK):Du->Prop
 | .good=>∀H',ar H H'->Q .non H'
 | .floor i=>∀d H',ar H H'->H' d=some (.xd [(lH,.int i)])->E (.ref kF) (some d) H'
 | .lift i=>∀d H',ar H H'->H' d=some (.xd [(ue,.int i)])->E (.ref kL) (some d) H'
 | .ride=>∀H',ar H H'->E (.ref kR) none H'
inductive u4 (K:Fg)(kF kL kR:Addr)(vs:List V)(H:Hp)(Q:VK)(E:XK):Prop
 |mk (h fl n st go:_) (_:vs=[.ref h,.int st,.int go]) (_:x9 K H h fl n) (_:uR kF kL kR H Q E (BW fl n (.come 0 st go false)))
theorem DB {aU ba bI:Addr}(F:bY K "need_ride" "need_ride" nZ f fd)(hG:yd P w K mg base 3 "need_floor" ["house","floor"] (mM K aU))(kK:mg "NoRide"=some (.ref bI))(qm:W.excIn K bI [.type "ValueError",.type "Exception",.type "BaseException",.type "object"] "ValueError.__new__"=true):aQ P w K mg base (nK P w) 4 f fd ["house","start","goal"] (u4 K aU ba bI):=by
 rwa[F.okX yJ ↑8 ↑2]
 ·obtain ⟨h,fl,n,st,gl,rfl,_⟩:=h;rfl
 obtain ⟨h,fl,n,st,gl,rfl,hh,T⟩:=h;erw[⟨_,(af (aH (oB fq hG hr ↑1 rfl (ac (wv 0) ↑34))) (af (aH (oB fq hG hr ↑1 rfl (ac (wv 0) (ac (wv 2) ae)))) (ag (aJ (az ↑10 (wv 1) (wv 2) (au _)) (ag (xx fq rfl qm PySem.F.excBase_ValueError rfl kK (ac aq ae))) aF)))),?_⟩];rwa[mM.mk _ _ _ _ rfl hh (λz1=> ?_) (λz1 d H' sm ed=> ?_)]
 ·ext;rwa[mM.mk _ _ _ _ rfl hh (λz2=> ?_) (λz2 d H' sm ed=> ?_)]
  ·by_cases z3:st=gl
   ·have e:BW fl n (.come 0 st gl false)= .ride:=(if_neg z1).trans ((if_neg z2).trans (if_pos z3));rw [e] at T;left;exact ⟨bB (by show 1<=1000000;decide),T _ (.refl _)⟩
   ·have e:BW fl n (.come 0 st gl false)= .good:=(if_neg z1).trans ((if_neg z2).trans (if_neg z3));rw [e] at T;left;exact T _ (.refl _)
  ·have e:BW fl n (.come 0 st gl false)= .floor gl:=(if_neg z1).trans (if_pos z2);rw [e] at T;exact T d H' sm ed
 ·have e:BW fl n (.come 0 st gl false)= .floor st:=if_pos z1;rw [e] at T;exact T d H' sm ed
inductive yx (K:Fg)(kF kL kR:Addr)(vs:List V)(H:Hp)(Q:VK)(E:XK):Prop
 |mk (h fl n a d:_) (_:vs=[.ref h,.ref a]) (_:x9 K H h fl n) (_:jv H a d) (_:uR kF kL kR H Q E (BW fl n d))
theorem uR.imp {kF kL kR:Addr}{H:Hp}{Q Q':VK}{E:XK}{u:Du}(h:uR kF kL kR H Q E u)(g:∀H',Q .non H'->Q' .non H'):uR kF kL kR H Q' E u:=by
 cases u with
 |good=>exact λH' sm=>g H' (h H' sm)
 |floor i=>exact h
 |lift i=>exact h
 |ride=>exact h
theorem Gb {aU ba bI:Addr}(F:bY K "need_deed" "need_deed" og f fd)(lB:yd P w K mg base 4 "need_ride" ["house","start","goal"] (u4 K aU ba bI))(lC:yd P w K mg base 3 "need_lift" ["house","lift"] (u5 K ba)):aQ P w K mg base (nK P w) 5 f fd ["house","deed"] (yx K aU ba bI):=by
 rwa[F.okX yL ↑8 ↑2]
 ·obtain ⟨h,fl,n,a,d,rfl,_⟩:=h;rfl
 obtain ⟨h,fl,n,a,d,rfl,hh,⟨ea,ok⟩,T⟩:=h;have hT:=aK.of (K:=K) ea;rwa[⟨_,(ag (aJ (az ↑10 ↑14 aq (au _)) (ag (aH (oB fq lB hr ↑1 rfl (ac (wv 0) (ac ↑14 (ac ↑14 ae)))))) (ag (aJ (az (qh (K:=K) rfl) ↑14 (aP (ac aq (ac aq ae))) (by with_unfolding_all rfl)) (ag (aH (oB fq lC hr ↑1 rfl (ac (wv 0) (ac ↑14 ae))))) aF)))),?_⟩]
 cases d with
 |come t s g k=>
  have hT:aK K H a [.str fS,.int t,.int s,.int g,.bl k]:=hT;ext;erw[ai hT rfl ?_];rwa[bj rfl ?_];left;exact u4.mk _ _ _ _ _ rfl hh (uR.imp T λH' z=>z)
 |lf x i=>
  have hx:x≠fS:=by rcases ok with rfl|rfl|rfl|rfl|rfl<;>decide
  have hT:aK K H a [.str x,.int i]:=hT;ext;erw[ai hT rfl ?_];erw[aB (decide_eq_false hx) ?_];erw[ai hT rfl ?_];erw[bK ↑17 λl1 H1 s1 n1 e1=> ?_]
  have hin:xI (.str x) [.str (Str.ofString "fire"),.str (Str.ofString "calm")]=false:=by rcases ok with rfl|rfl|rfl|rfl|rfl<;>rfl
  rwa[ug (aK.of e1) rfl rfl ?_];rw [hin];ext;erw[bj rfl ?_];erw[ai (s1.seqT hT) rfl ?_];rwa[u5.mk _ _ _ _ rfl (hh.same s1) (λz=> ?_) (λz d H' sm ed=> ?_)]
  ·have e:BW fl n (.lf x i)= .good:=if_neg z;rw [e] at T;exact T _ s1
  ·have e:BW fl n (.lf x i)= .lift i:=if_pos z;rw [e] at T;exact T d H' (s1.trans sm) ed
 |sg x=>
  have hx:x≠fS:=by rcases ok with rfl|rfl<;>decide
  have hT:aK K H a [.str x]:=hT;ext;erw[ai hT rfl ?_];erw[aB (decide_eq_false hx) ?_];erw[ai hT rfl ?_];erw[bK ↑17 λl1 H1 s1 n1 e1=> ?_]
  have hin:xI (.str x) [.str (Str.ofString "fire"),.str (Str.ofString "calm")]=true:=by rcases ok with rfl|rfl<;>rfl
  rwa[ug (aK.of e1) rfl rfl ?_];rw [hin];ext;rwa[aB rfl ?_];exact T _ s1
theorem jE.at' {H:Hp}{h:Addr}{hs:Hs}(c:jE K H h hs):x9 K H h hs.fl hs.ls.length:=by
 obtain ⟨o,p,xs,h1,h2,h3⟩:=c;exact ⟨p,_,_,xs,h1,h2,h3.len,o.f2,o.f8,o.l1,o.l3⟩
def Du.dw:Du->Dw
 | .floor i=> .floor i
 | .lift i=> .lift i
 | .ride=> .ride
 | .good=> .good
theorem Mx {fl:Int}{n:Nat}{d:Dd}:gT fl n d=(BW fl n d).dw:=by
 cases d with
 |come t s g k=>
  unfold BW gT;dsimp only;by_cases h1:s<0\/fl<=s
  ·rw [if_pos h1,if_pos h1];rfl
  rw [if_neg h1,if_neg h1];by_cases h2:g<0\/fl<=g
  ·rw [if_pos h2,if_pos h2];rfl
  rw [if_neg h2,if_neg h2];by_cases h3:s=g
  ·rw [if_pos h3,if_pos h3];rfl
  ·rw [if_neg h3,if_neg h3];rfl
 |lf x i=>
  unfold BW gT;dsimp only;by_cases h1:i<0\/(n:Int)<=i
  ·rw [if_pos h1,if_pos h1];rfl
  ·rw [if_neg h1,if_neg h1];rfl
 |sg x=>rfl
inductive yt (K:Fg)(vs:List V)(H:Hp)(Q:VK)(_e:XK):Prop
 |mk (st cs ws last fire:_) (_:vs=[.ref st]) (_:gk K H st cs ws last fire) (_:ws.length<=64) (_:(∀c∈cs,c.ps.length<=64)) (_:cs.length<=10) (_:∀l H',ar H H'->H' l=some (.lst ((bM cs ws).map V.int))->Q (.ref l) H')
theorem m9 {cs:List Cb}(h:∀c∈cs,c.ps.length<=64):(cs.flatMap λc=>c.ps.map (·.1)).length<=64*cs.length:=by
 induction cs with
 |nil=>simp
 |cons c cs ih=>
  rw [List.flatMap_cons,List.length_append,List.length_map,List.length_cons];have:=h c (.head _);have:=ih λc hc=>h c (.tail _ hc);omega
theorem F6 (F:bY K "tags_in" "tags_in" vq f fd):aQ P w K mg base b8 1 f fd ["state"] (yt K):=by
 rwa[F.ok gJ ↑8 ↑2]
 ·obtain ⟨st,cs,ws,last,fire,rfl,_⟩:=h;rfl
 obtain ⟨st,cs,ws,last,fire,rfl,⟨tc,tw,xs,ys,h1,h2,h3,h4,h5⟩,wl,c64,cl,q⟩:=h;have yl:ys.length=ws.length:=aT h5;have xl:xs.length=cs.length:=h4.len;erw[⟨_,(af (fM (i:=1) rfl gJ.nd rfl ↑6 (aI (N':=["tag","start","goal","lift"]) (pk:=[none,none,none,none]) ↑33) (bg (K:=K) rfl ↑11) (λC s H ex=>(ge (K:=K) (n:=4) rfl rfl (aV (aC (i:=0) ↑16 rfl ↑6) (aV (aC (i:=1) ↑16 rfl ↑6) (aV (aC (i:=2) ↑16 rfl ↑6) (aV (aC (i:=3) ↑16 rfl ↑6) eM)))))) ↑37 (λC s H ex=>(wv 0))) (af (du PassesOwn.never rfl (bg (K:=K) rfl ↑11) (ge (K:=K) (n:=5) rfl rfl (aV (aC (i:=2) gJ.nd rfl ↑6) (aV (aC (i:=3) gJ.nd rfl ↑6) (aV (aC (i:=4) gJ.nd rfl ↑6) (aV (aC (i:=5) gJ.nd rfl ↑6) (aV (aC (i:=6) gJ.nd rfl ↑6) eM)))))) (ag (aH (cz (K:=K) rfl PySem.F.plainAttrs_list PySem.F.slot_list_extend PySem.F.type_list_extend iw (wv 1) (ac (bD rfl (aI (N':=["tag","goal"]) (pk:=[none,none]) ↑33) (bg (K:=K) rfl (wv 6)) (λC s H ex=>(ge (K:=K) (n:=2) rfl rfl (aV (aC (i:=0) ↑44 rfl ↑6) (aV (aC (i:=1) ↑44 rfl ↑6) eM)))) ↑37 (λC s H ex=>(wv 0))) ae))))) (ag (aD (wv 1))))),?_⟩];erw[ai h1 rfl ?_];rwa[dj h3 ?_];rwa[ck (xs:=ys) (λj us HX=>ar H HX/\us=((ws.take j).map (·.tag)).map V.int) (bB ↑5) ↑24 ⟨.refl _,rfl⟩ (λj us HX _ h=>h.1.seqT h3) ↑29 (λus HX hP l n=> ?_)]
 ·obtain ⟨sx,rfl⟩:=hP;obtain ⟨r,hr',dr⟩:=b6 (f:=be.d) h5 hy;obtain ⟨ra,rfl,hT⟩:=cB (cI.same dr sx);ext;erw[pH hT rfl ?_];erw[⟨mJ,?_⟩];rwa[⟨sx,?_⟩];rw [List.take_add_one,hr',List.map_append,List.map_append];rfl
 obtain ⟨sx,rfl⟩:=hP;rw [yl,List.take_of_length_le ↑15];have s2:ar HX (upd HX l (.lst ((ws.map (·.tag)).map V.int))):= .upd n;have e2:upd HX l (.lst ((ws.map (·.tag)).map V.int)) l=some (.lst ((ws.map (·.tag)).map V.int)):=aj;generalize hH2:upd HX l (.lst ((ws.map (·.tag)).map V.int))=H2 at s2 e2 ⊢;have n0:H l=none:=none_of sx n;have s02:=sx.trans s2;ext;erw[ai (s02.seqT h1) rfl ?_];rwa[dj (s02.seqT h2) ?_];rwa[ka (xs:=xs) (λi σ HY=>ar H HY/\HY l=some (.lst ((ws.map (·.tag)++(cs.take i).flatMap λc=>c.ps.map (·.1)).map V.int))/\∃o2 o3 o4 o5 o6,σ=[some (.ref st),some (.ref l),o2,o3,o4,o5,o6]) ⟨s02,by rw [List.take_zero,List.flatMap_nil,List.append_nil];exact e2,_,_,_,_,_,rfl⟩ (λi σ HY _ pv=>pv.1.seqT h2) (λi x σ HY hx pv=> ?_) (λσ HY pv=> ?_)]
 ·obtain ⟨sY,eY,o2,o3,o4,o5,o6,rfl⟩:=pv;obtain ⟨c,hc,t,rfl,hct⟩:=h4.get1 hx;obtain ⟨b,bs,et,eb,db⟩:=hct.keep sY.st;have bl:bs.length=c.ps.length:=aT db;have c64':=c64 c (List.mem_of_getElem? hc);ext;erw[pH (aK.of et) rfl ?_];erw[⟨.inl ⟨rfl,_,aN.of eY⟩,?_⟩];rwa[dj (aK.of eb) ?_];rwa[ck (xs:=bs) (λj us HX=>ar HY HX/\us=((c.ps.take j).map (·.1)).map V.int) (bB ↑5) ↑24 ⟨.refl _,rfl⟩ (λj us HX _ h=>h.1.seqT (aK.of eb)) ↑29 (λus HZ hP l3 n3=> ?_)]
  ·obtain ⟨sx,rfl⟩:=hP;obtain ⟨p,pt,hp,rfl,hpT⟩:=jS db hy;ext;erw[pH (sx.seqT hpT) rfl ?_];erw[⟨iy,?_⟩];rwa[⟨sx,?_⟩];rw [List.take_add_one,hp,List.map_append,List.map_append];rfl
  obtain ⟨sx,rfl⟩:=hP;rw [bl,List.take_of_length_le ↑15];have s3:ar HZ (upd HZ l3 (.lst ((c.ps.map (·.1)).map V.int))):= .upd n3;have e3:upd HZ l3 (.lst ((c.ps.map (·.1)).map V.int)) l3=some (.lst ((c.ps.map (·.1)).map V.int)):=aj;generalize hH3:upd HZ l3 (.lst ((c.ps.map (·.1)).map V.int))=H3 at s3 e3 ⊢;have sY3:=sx.trans s3;ext;rwa[uE (sY3 _ _ eY) e3 (bB ?_) ?_]
  ·have h1:((cs.take i).flatMap λc=>c.ps.map (·.1)).length<=64*(cs.take i).length:=m9 λc hc=>c64 c (List.mem_of_mem_take hc)
   have h2:(cs.take i).length<=10:=by rw [List.length_take];omega
   simp only [List.length_map,List.length_append];omega
  ·rwa[⟨ar.updF (sY.trans sY3) n0,?_,_,_,_,_,_,rfl⟩];rw [aj,List.take_add_one,hc];simp only [Option.toList_some,List.flatMap_append,List.flatMap_cons,List.flatMap_nil,List.append_nil,List.map_append,List.append_assoc]
 obtain ⟨sY,eY,o2,o3,o4,o5,o6,rfl⟩:=pv;rw [xl,List.take_of_length_le ↑15] at eY;ext;exact q l HY sY eY
theorem AT {bW bf:Addr}(F:bY K "__init__" "Twice.__init__" lO f fd)(cQ:ye K bf)(bU:mg "CourtError"=some (.ref bf))(rS:jA K bW x6 "ValueError.__new__"=true)(vo:W.findIn K (.ref bW) "__setattr__"=some ↑39)(fL:W.findIn K (.ref bW) "tag"=some none)(v4:W.mroIn K bW (.type "object")=some true):aQ P w K mg base b8 1 f fd ["self","tag"] (yq bW "tag"):=by
 rwa[F.ok xg ↑8 ↑2]
 ·obtain ⟨a,v,rfl,_⟩:=h;rfl
 obtain ⟨a,v,rfl,ea,q⟩:=h;erw[⟨_,(af (aH (rD (K:=K) rfl cQ rfl bU (ac (wv 0) (ac aq ae)))) (ag (vP (K:=K) rfl (wv 0) (wv 1)))),?_⟩];erw[wb ea rS ?_];exact B5 ea rS vo fL v4 λd nd ne=>q d nd ne
def le (ts:List Int)(kvs:List (cX×V)):Prop:=∀t:Int,(eS kvs (Sum.inl t)).isSome=decide (t∈ts)
theorem le.nil:le [] []:=λt=>by
 show (none:Option V).isSome=_;simp
theorem le.put {ts:List Int}{kvs:List (cX×V)}(h:le ts kvs)(t:Int)(v:V):le (ts++[t]) (cK kvs (Sum.inl t) v):=λu=>by
 rw [qB];by_cases e:u=t
 ·subst e;rw [if_pos rfl];simp
 ·rw [if_neg (λz=>e (by cases z;rfl)),h u];simp [e]
theorem Bw {ts:List Int}:∀ {us:List Int} {kvs:List (cX×V)},le us kvs->le (us++ts) (iL kvs (ts.map λt=>(Sum.inl t,V.bl true))):=by
 induction ts with
 |nil=>intro us kvs h;rw [List.append_nil];exact h
 |cons t ts ih=>
  intro us kvs h;have:=ih (h.put t (V.bl true));rw [List.append_assoc] at this;exact this
theorem tI {fl:Int}{n:Nat}{ts:List Int}{d:Dd}{ds:List Dd}:bv fl n ts (d::ds)=match gT fl n d with
 | .good=>match d with
   | .come t _ _ _=>if t∈ts then .twice t else bv fl n (ts++[t]) ds
   |_=>bv fl n ts ds
 |u=>u:=rfl
theorem Jx {aU ba bI bW:Addr}(F:bY K "need_deeds" "need_deeds" lT f fd)(D3:mg "dict"=none)(sN:bO P w K mg base 1 "tags_in" ["state"] (yt K))(lD:yd P w K mg base 5 "need_deed" ["house","deed"] (yx K aU ba bI))(yj:Kz P w K mg base 1 "Twice" bW "tag"):aQ P w K mg base (nK P w) 7 f fd ["house","state","deeds"] (CC K aU ba bI bW):=by
 rwa[F.okX jM ↑8 ↑2]
 ·obtain ⟨h,st,dl,hs,cs,ws,last,fire,ds,rfl,_⟩:=h;rfl
 obtain ⟨h,st,dl,hs,cs,ws,last,fire,ds,rfl,hH,hst,⟨xd,hxd,pd⟩,wl,c64,cl10,dl100,T⟩:=h;have xl:xd.length=ds.length:=pd.len;erw[⟨_,(af (aA (i:=3) jM.nd rfl ↑6 (br (Ff rfl) rfl D3 boot_dict (ac (bD rfl (aI (N':=["tag"]) (pk:=[none]) ↑33) (bg (K:=K) rfl (ao sN hr ↑1 rfl ↑34)) (λC s H ex=>(aC (i:=0) (show List.Nodup (["tag"]:List Str) by decide+kernel) rfl ↑6)) ↑37 (λC s H ex=>(aP (ac (wv 0) (ac gy ae))))) ae))) (ag (du rF rfl (bg (K:=K) rfl (wv 2)) (aC (i:=4) jM.nd rfl ↑6) (af (aH (oB fq lD hr ↑1 rfl (ac (wv 0) (ac (wv 4) ae)))) (ag (aJ (az ↑10 (ak ↑4 (wv 4) aa ↑3) aq (au _)) (af (aJ (IY (Jg (bX hr) (ak ↑4 (wv 4) aa ↑3) (wv 3))) (ag (oz fq rfl yj hr ↑1 rfl (ac (ak ↑4 (wv 4) aa ↑3) ae))) aF) (ag (jb (bX hr) (wv 3) (ak ↑4 (wv 4) aa ↑3) gy rfl))) aF)))))),?_⟩];rwa[yt.mk _ _ _ _ _ rfl hst wl c64 cl10 λl H1 s1 e1=> ?_]
 have tl:(bM cs ws).length<=1000:=by
  unfold bM;rw [List.length_append,List.length_map];have:=m9 c64;omega
 generalize hts:bM cs ws=ts at e1 T tl;ext;rwa[cW (aN.of e1) ?_];rwa[bZ (xs:=ts.map V.int) (λj us HX=>ar H1 HX/\Paired (λx (p:cX×V)=>∃b,x=V.ref b/\HX b=some (.tup [kV p.1,p.2])) us ((ts.take j).map λt=>(Sum.inl t,V.bl true))) (bB (by rw [List.length_map];omega)) (λj us HX h=>by have:=h.2.len;rw [List.length_map,List.length_take] at this;omega) ⟨.refl _,.nil⟩ (λj us HX _ h=>h.1.seq (aN.of e1)) ↑29 (λus HX hP l2 n2=> ?_)]
 ·obtain ⟨sx,hp⟩:=hP;rw [List.getElem?_map] at hy;obtain ⟨v,hv,rfl⟩:=Option.map_eq_some_iff.mp hy;erw[⟨bC,?_⟩];rwa[bK ↑17 λb H3 s3 n3 e3=>⟨sx.trans s3,?_⟩];rw [List.take_add_one,hv,List.map_append];exact Paired.app (Paired.imp' (λx p ⟨c,ec,hc⟩=>⟨c,ec,s3 _ _ hc⟩) hp) (.cons ⟨b,rfl,e3⟩ .nil)
 obtain ⟨sx,hp⟩:=hP;rw [List.length_map,List.take_of_length_le ↑15] at hp;have s2:ar HX (upd HX l2 (.lst us)):= .upd n2;have e2:upd HX l2 (.lst us) l2=some (.lst us):=aj;generalize hH2:upd HX l2 (.lst us)=H2 at s2 e2 ⊢;have s02:=s1.trans (sx.trans s2);ext;rwa[⟨us,ts.map λt=>(Sum.inl t,V.bl true),e2,Paired.imp' (λx p ⟨c,ec,hc⟩=>⟨c,ec,s2 _ _ hc⟩) hp,nL (by rw [List.length_map];omega),λd nd=> ?_⟩];have s3:ar H2 (upd H2 d (.dK (iL [] (ts.map λt=>(Sum.inl t,V.bl true))))):= .upd nd;have e3:upd H2 d (.dK (iL [] (ts.map λt=>(Sum.inl t,V.bl true)))) d=some (.dK (iL [] (ts.map λt=>(Sum.inl t,V.bl true)))):=aj;generalize hH3:upd H2 d (.dK (iL [] (ts.map λt=>(Sum.inl t,V.bl true))))=H3 at s3 e3 ⊢;have nd0:H d=none:=none_of s02 nd
 have k0:le ts (iL [] (ts.map λt=>(Sum.inl t,V.bl true))):=by
  have:=Bw (ts:=ts) le.nil;rw [List.nil_append] at this;exact this
 have fl0:∀(qs:List (cX×V)) (a:List (cX×V)),(iL a qs).length<=a.length+qs.length:=by
  intro qs
  induction qs with
  |nil=>intro a;exact Nat.le_refl _
  |cons p qs ih=>
   intro a;have h1:=ih (cK a p.1 p.2);have h2:=dQ a p.1 p.2;show (iL (cK a p.1 p.2) qs).length<=_;rw [List.length_cons];omega
 have l0:=fl0 (ts.map λt=>(Sum.inl t,V.bl true)) [];rw [List.length_map,List.length_nil] at l0;have s03:=s02.trans s3;generalize hk0:iL [] (ts.map λt=>((Sum.inl t:cX),V.bl true))=kv0 at e3 k0 l0;ext;rwa[cW (s03.seq hxd) ?_];rwa[fH (xs:=xd) (λi σ HY=>ar H HY/\∃ts' kvs o4,HY d=some (.dK kvs)/\le ts' kvs/\kvs.length<=1000+i/\bv hs.fl hs.ls.length ts ds=bv hs.fl hs.ls.length ts' (ds.drop i)/\σ=[some (.ref h),some (.ref st),some (.ref dl),some (.ref d),o4]) ⟨s03,ts,kv0,_,e3,k0,by omega,rfl,rfl⟩ (λi σ HY _ pv=>pv.1.seq hxd) (λi x σ HY hx pv=> ?_) (λσ HY pv=> ?_)]
 ·obtain ⟨sY,ts',kvs,o4,eY,kk,kl,hbad,rfl⟩:=pv;obtain ⟨dd,hdd,ad,rfl,hda⟩:=pd.get1 hx;have il:i<ds.length:=(List.getElem?_eq_some_iff.mp hdd).1;have hda':=hda.same sY
  have hdr:ds.drop i=dd::ds.drop (i+1):=by
   rw [List.drop_eq_getElem_cons il];rw [List.getElem?_eq_getElem il] at hdd;cases hdd;rfl
  rw [hdr,tI] at hbad;ext;rwa[yx.mk _ _ _ _ _ rfl ((hH.same sY).at') hda' ?_];rw [Mx] at hbad
  cases hu:BW hs.fl hs.ls.length dd with
  |floor j=>
   rw [hu] at hbad;have hbad:bv hs.fl hs.ls.length ts ds= .floor j:=hbad;rw [hbad] at T;exact λd' H' sm ed=>T d' H' (sY.trans sm) ed
  |lift j=>
   rw [hu] at hbad;have hbad:bv hs.fl hs.ls.length ts ds= .lift j:=hbad;rw [hbad] at T;exact λd' H' sm ed=>T d' H' (sY.trans sm) ed
  |ride=>
   rw [hu] at hbad;have hbad:bv hs.fl hs.ls.length ts ds= .ride:=hbad;rw [hbad] at T;exact λH' sm=>T H' (sY.trans sm)
  |good=>
   rw [hu] at hbad;intro HZ sZ;have sHZ:=sY.trans sZ;have eZ:=sZ _ _ eY;have hdz:=hda'.same sZ;obtain ⟨edz,okz⟩:=hdz
   cases dd with
   |come t' s' g' k'=>
    have hbad:bv hs.fl hs.ls.length ts ds=if t'∈ts' then .twice t' else bv hs.fl hs.ls.length (ts'++[t']) (ds.drop (i+1)):=hbad;have hT:aK K HZ ad [.str fS,.int t',.int s',.int g',.bl k']:=aK.of edz;ext;erw[ai hT rfl ?_];erw[bj rfl ?_];erw[ai hT rfl ?_];erw[⟨d,_,rfl,fZ.k (k:=Sum.inl t') eZ,?_⟩];rwa[⟨_,rfl,?_⟩];by_cases hm:t'∈ts'
    ·rw [if_pos hm] at hbad;rw [hbad] at T;erw[bj (by rw [kk t'];exact decide_eq_true hm) ?_];erw[ai hT rfl ?_];exact ⟨_,rfl,λd' nd'=>T d' _ (sHZ.trans (.upd nd')) aj⟩
    ·rw [if_neg hm] at hbad;erw[aB (by rw [kk t'];exact decide_eq_false hm) ?_];erw[ai hT rfl ?_];rwa[⟨d,_,rfl,pE.k (k:=Sum.inl t') eZ (nL ↑5),?_⟩];exact ⟨ar.updF sHZ nd0,ts'++[t'],_,_,aj,kk.put t' (.bl true),by have:=dQ kvs (Sum.inl t') (V.bl true);omega,hbad,rfl⟩
   |lf x' i'=>
    have hbad:bv hs.fl hs.ls.length ts ds=bv hs.fl hs.ls.length ts' (ds.drop (i+1)):=hbad
    have hx:x'≠fS:=by rcases okz with rfl|rfl|rfl|rfl|rfl<;>decide
    have hT:aK K HZ ad [.str x',.int i']:=aK.of edz;ext;erw[ai hT rfl ?_];rwa[aB (decide_eq_false hx) ?_];exact ⟨sHZ,ts',kvs,_,eZ,kk,by omega,hbad,rfl⟩
   |sg x'=>
    have hbad:bv hs.fl hs.ls.length ts ds=bv hs.fl hs.ls.length ts' (ds.drop (i+1)):=hbad
    have hx:x'≠fS:=by rcases okz with rfl|rfl<;>decide
    have hT:aK K HZ ad [.str x']:=aK.of edz;ext;erw[ai hT rfl ?_];rwa[aB (decide_eq_false hx) ?_];exact ⟨sHZ,ts',kvs,_,eZ,kk,by omega,hbad,rfl⟩
 ·obtain ⟨sY,ts',kvs,o4,eY,kk,kl,hbad,rfl⟩:=pv;rw [xl,List.drop_length] at hbad;have hbad:bv hs.fl hs.ls.length ts ds= .good:=hbad;rw [hbad] at T;exact T HY sY
def oH:List Nat:=[111,120,117,100,115]
theorem Bm:(Str.ofString "oxuds").cps.toList=oH:=by decide+kernel
unseal pI Ek in
theorem Az (c:Nat):pI ⟨#[c]⟩ (Str.ofString "oxuds")=decide (c∈oH):=by
 unfold pI;rw [PySem.StrLaws.found_one,Bm]
def z5 (s:Str):Prop:=s.length=36/\∀c∈s.cps.toList,c∈oH
instance (s:Str):Decidable (z5 s):=by unfold z5;infer_instance
inductive mK (K:Fg)(kX:Addr)(vs:List V)(H:Hp)(Q:VK)(E:XK):Prop
 |mk (a s C dx:_) (_:vs=[.ref a,.str s]) (_:H a=some (.ins C dx [])) (_:ua K C) (_:bV K C "letters") (_:s.length<=1000) (_:M4 s) (_:(z5 s->∀H',(∀b o,b≠a->H b=some o->H' b=some o)->H' a=some (.ins C dx [(Str.ofString "letters",.str s)])->Q .non H')) (_:(¬z5 s->∀H',ar H H'->E (.ref kX) none H'))
theorem ID {kX:Addr}{H:Hp}{a:Addr}{s:Str}{C dx:Addr}{Q:VK}{E:XK}(h1:H a=some (.ins C dx []))(h2:ua K C)(h3:bV K C "letters")(h4:s.length<=1000)(h5:M4 s)
(g:z5 s->∀H',(∀b o,b≠a->H b=some o->H' b=some o)->H' a=some (.ins C dx [(Str.ofString "letters",.str s)])->Q .non H')(b: ¬z5 s->∀H',ar H H'->E (.ref kX) none H'):mK K kX [.ref a,.str s] H Q E:=⟨a,s,C,dx,rfl,h1,h2,h3,h4,h5,g,b⟩
theorem Dz {cU:Addr}{t1 t2:Tok}(F:bY K "__init__" "Table.__init__" lQ f fd)(bh:mg "len"=none)(JN:mg "any"=none)(j9:mg "TABLE_SIZE"=some (.int 36 t1))(zA:mg "WORDS"=some (.str (Str.ofString "oxuds") t2))(kJ:mg "NoRule"=some (.ref cU))
(wj:W.excIn K cU [.type "ValueError",.type "Exception",.type "BaseException",.type "object"] "ValueError.__new__"=true):aQ P w K mg base (nK P w) 1 f fd ["self","letters"] (mK K cU):=by
 have xw:bp (.int 36) (.int 36 t1):=⟨_,rfl⟩;have IV:bp (.str (Str.ofString "oxuds")) (.str (Str.ofString "oxuds") t2):=⟨_,rfl⟩;rwa[F.okX xi ↑8 ↑2]
 ·obtain ⟨a,s,C,dx,rfl,_⟩:=h;rfl
 obtain ⟨a,z,C,dx,rfl,ea,cl,na,hz,hA,q,qb⟩:=h;rwa[⟨_,(af (aJ (PW.pt (cG (az (gv (K:=K) rfl hr) (ax ↑32 rfl bh PySem.boot_len ↑34) (eQ rfl j9 xw) (au _)) (cu (bt (K:=K) rfl (ax (KW (K:=K) rfl rfl) rfl JN boot_any (ac (bD rfl (aI (N':=["letter"]) (pk:=[none]) ↑33) (bg (K:=K) rfl (wv 1)) (λC s H ex=>(aC (i:=0) (show List.Nodup (["letter"]:List Str) by decide+kernel) rfl ↑6)) ↑37 (λC s H ex=>(ce (qh (K:=K) rfl) (wv 0) (eQ rfl zA IV) (by with_unfolding_all rfl)))) ae)))))) (ag (xx fq rfl wj PySem.F.excBase_ValueError rfl kJ (ac (Ax (Jb (wv 1) (Ja Jc))) ae))) aF) (ag (dz (K:=K) rfl (wv 0) (wv 1)))),?_⟩];have hzl:z.length<=sizeLine:=bB ↑5;have rl:=Da hA
 have rj:∀H',ar H H'-> ¬z5 z->(reprText z).length<=sizeLine/\(Str.empty++reprText z).length<=sizeLine/\(Str.empty++reprText z++Str.ofString " is no table").length<=sizeLine/\(Str.empty++reprText z++Str.ofString " is no table").length<=sizeLine/\[V.str (Str.empty++reprText z++Str.ofString " is no table")].length<=sizeLine/\E (.ref cU) none H':=λH' sm n=>by
  have e2:(Str.ofString " is no table").length<=100:=by decide
  rwa[⟨bB ↑5,bB ?_,bB ?_,bB ?_,bB ↑27,qb n H' sm⟩]
  ·rw [strLen_append,show Str.empty.length=0 from rfl];omega
  ·rw [strLen_append,strLen_append,show Str.empty.length=0 from rfl];omega
  ·rw [strLen_append,strLen_append,show Str.empty.length=0 from rfl];omega
 ext;rwa[⟨hzl,?_⟩];by_cases h36:(z.length:Int)=36
 ·left;rwa[Ev (λi ys H'=>H'=H/\ys=(z.cps.toList.take i).map λc=>V.bl (!decide (c∈oH))) (by show z.length<=sizeLine;exact hzl) (λi ys H' p=>by rw [p.2,List.length_map,List.length_take];exact Nat.min_le_left _ _) ⟨rfl,rfl⟩ (λi c ys H' hc p=> ?_) (λys H' p l n=> ?_)]
  ·obtain ⟨rfl,rfl⟩:=p;rwa[⟨bC,?_⟩]
   have hc':z.cps.toList[i]? =some c:=by rw [Array.getElem?_toList];exact hc
   rwa[⟨rfl,?_⟩];show _++[V.bl (!pI ⟨#[c]⟩ (Str.ofString "oxuds"))]=_;rw [Az,List.take_add_one,hc',List.map_append];rfl
  ·obtain ⟨rfl,rfl⟩:=p
   have e1:upd H' l (.lst ((z.cps.toList.take z.cps.size).map λc=>V.bl (!decide (c∈oH)))) l=some (.lst (List.map V.bl (z.cps.toList.map λc=> !decide (c∈oH)))):=by
    rw [aj,List.take_of_length_le ↑27,List.map_map];rfl
   have s1:ar H' (upd H' l (.lst ((z.cps.toList.take z.cps.size).map λc=>V.bl (!decide (c∈oH))))):= .upd n;generalize upd H' l (.lst ((z.cps.toList.take z.cps.size).map λc=>V.bl (!decide (c∈oH))))=H1 at e1 s1 ⊢;ext;rwa[MK (aN.of e1) ?_];rw [List.any_map];rwa[wg (λhb=> ?_) (λhb=> ?_)]
   ·left;rwa[rj H1 s1 λk=> ?_];obtain ⟨c,hc,e⟩:=List.any_eq_true.mp hb;have:=decide_eq_true (k.2 c hc);simp only [Function.comp,id,this] at e;cases e
   ·have hk:z5 z:=⟨by omega,λc hc=>by
     have:=List.any_eq_false.mp hb c hc
     simpa using this⟩
    left;rwa[dB (s1.get ea) cl na ↑1 ?_];rwa[q hk _ (λb o hb2 e=> ?_) aj];rw [am hb2];exact s1 b o e
 ·left;exact rj H (.refl _) λk=>h36 (by rw [k.1];rfl)
def vX (li he up dn:Int):Int:=12*(li+1)+4*he+2*(if 0<up then 1 else 0)+(if 0<dn then 1 else 0)
theorem rH {li he up dn:Int}(s:EM li he up dn):0<=vX li he up dn/\vX li he up dn<36:=by
 have:=s.l0;have:=s.l1;have:=s.h0;have:=s.h1;unfold vX;split<;>split<;>omega
inductive u2 (vs:List V)(H:Hp)(Q:VK)(_e:XK):Prop
 |mk (li he up dn:Int) (_:vs=[.int li,.int he,.int up,.int dn]) (_:Q (.int (vX li he up dn)) H)
theorem DA (F:bY K "place_in_table" "place_in_table" ie f fd):aQ P w K mg base b8 1 f fd ["light","here","up","down"] u2:=by
 rwa[F.ok qT ↑8 ↑2]
 ·obtain ⟨li,he,up,dn,rfl,_⟩:=h;rfl
 obtain ⟨li,he,up,dn,rfl,q⟩:=h;rwa[⟨_,(ag (aD (aG ↑23 (aG ↑23 (aG ↑23 (aG fv aa (aG ↑23 (wv 0) aa)) (aG fv aa (wv 1))) (aG fv aa (fR (az lF (wv 2) aa (au _)) aa aa))) (fR (az lF (wv 3) aa (au _)) aa aa)))),?_⟩];unfold vX at q;by_cases hu:0<up<;>by_cases hd:0<dn
 ·rw [if_pos hu,if_pos hd] at q;left;exact q
 ·rw [if_pos hu,if_neg hd] at q;left;exact q
 ·rw [if_neg hu,if_pos hd] at q;left;exact q
 ·rw [if_neg hu,if_neg hd] at q;left;exact q
def Hv (s:Str)(k:Int):Str:=⟨#[s.cps.toList.getD k.toNat 0]⟩
structure MZ (K:Fg)(C:Addr):Prop where
 i:tY K C
 l:bV K C "letters"
inductive IH (K:Fg)(vs:List V)(H:Hp)(Q:VK)(_e:XK):Prop
 |mk (t a s C dx fl li he up dn:_) (_:vs=[.ref a,.ref s]) (_:z5 t) (_:H a=some (.ins C dx [(Str.ofString "letters",.str t)])) (_:MZ K C) (_:aK K H s [.int fl,.int li,.int he,.int up,.int dn]) (_:EM li he up dn) (_:Q (.str (Hv t (vX li he up dn))) H)
theorem AV (F:bY K "word" "Table.word" lP f fd)(gj:bO P w K mg base 1 "place_in_table" ["light","here","up","down"] u2):aQ P w K mg base b8 2 f fd ["self","seen"] (IH K):=by
 rwa[F.ok xh ↑8 ↑2]
 ·obtain ⟨t,a,s,C,dx,fl,li,he,up,dn,rfl,_⟩:=h;rfl
 obtain ⟨t,a,z,C,dx,fl,li,he,up,dn,rfl,ok,ea,cl,hs,sn,q⟩:=h;rwa[⟨_,(ag (aD (ak ↑4 ↑12 (ao gj hr ↑1 rfl (ac ↑14 (ac ↑14 (ac ↑14 (ac ↑14 ae))))) ↑3))),?_⟩];obtain ⟨n0,n1⟩:=rH sn;left;rwa[ik ea cl.i.cl cl.l rfl ?_];left;erw[u2.mk _ _ _ _ rfl ?_]
 have hl:t.cps.toList.length=36:=by rw [oJ];exact ok.1
 rwa[zX (bB (by rw [ok.1];decide)) (c:=t.cps.toList.getD (vX li he up dn).toNat 0) ?_ q];unfold ly xH;rw [if_pos n0,if_pos (by rw [hl];exact n1)];show t.cps.toList[(vX li he up dn).toNat]? =_;rw [List.getElem?_eq_getElem ↑5,List.getD_eq_getElem?_getD,List.getElem?_eq_getElem ↑5];rfl
unseal jV in
theorem L8 {C kX:Addr}{E:XK}{s:Str}{H:Hp}{Q:VK}(c:MZ K C)(h4:s.length<=1000)(h5:M4 s)(g:z5 s->∀a dx H',ar H H'->H a=none->H' a=some (.ins C dx [(Str.ofString "letters",.str s)])->Q (.ref a) H')(b: ¬z5 s->∀H',ar H H'->E (.ref kX) none H'):jV C (mK K kX) E [.str s] H Q:=by
 show ∀a dx,H a=none->H dx=none->dx≠a->mK K kX (.ref a::([.str s]++[])) (upd (upd H dx (.own a)) a (.ins C dx [])) (λv H2=>v= .non/\Q (.ref a) H2) E;intro a dx h1 h2 h3;rwa[ID aj c.i.cl c.l h4 h5 (λok H' hH ea=>⟨rfl,g ok a dx H' (λb' o e=> ?_) h1 ea⟩) (λno H' sm=>b no H' ((iE h1 h2).trans sm))];exact hH b' o (λz=>by rw [z,h1] at e;cases e) (iE h1 h2 b' o e)
theorem Om {c:Nat}(h:c∈oH):(⟨#[c]⟩:Str)∈jH:=by
 unfold oH at h;simp only [List.mem_cons,List.not_mem_nil,or_false] at h
 rcases h with rfl|rfl|rfl|rfl|rfl
 ·exact (show (⟨#[111]⟩:Str)=Str.ofString "o" by decide+kernel)▸ .head _
 ·exact (show (⟨#[120]⟩:Str)=Str.ofString "x" by decide+kernel)▸ .tail _ (.head _)
 ·exact (show (⟨#[117]⟩:Str)=Str.ofString "u" by decide+kernel)▸ .tail _ (.tail _ (.head _))
 ·exact (show (⟨#[100]⟩:Str)=Str.ofString "d" by decide+kernel)▸ .tail _ (.tail _ (.tail _ (.head _)))
 ·exact (show (⟨#[115]⟩:Str)=Str.ofString "s" by decide+kernel)▸ .tail _ (.tail _ (.tail _ (.tail _ (.head _))))
theorem yo {C:Addr}{H:Hp}{a dx:Addr}{t:Str}(c:MZ K C)(m:pD P w K mg base b8 2 "word" C (IH K))(ok:z5 t)(e:H a=some (.ins C dx [(Str.ofString "letters",.str t)])):EN P w K mg base H a (λ_ li he up dn=>Hv t (vX li he up dn)):=by
 rwa[⟨C,dx,_,_,e,rfl,m,λfl li he up dn sn=> ?_,λH' sa fl li he up dn Q E e' hs sn q=>⟨t,a,sa,C,dx,fl,li,he,up,dn,rfl,ok,e',c,hs,sn,q⟩⟩];obtain ⟨n0,n1⟩:=rH sn;rwa[Om ?_]
 have hl:t.cps.toList.length=36:=by rw [oJ];exact ok.1
 rw [List.getD_eq_getElem?_getD,List.getElem?_eq_getElem ↑5];exact ok.2 _ (List.getElem_mem _)
inductive Fu (K:Fg)(vs:List V)(H:Hp)(Q:VK)(_e:XK):Prop
 |mk (a h ru df C dx:_) (_:vs=[.ref a,.ref h,.ref ru,.ref df]) (_:H a=some (.ins C dx [])) (_:HR K C) (_:∀H',nF a H H'->H' a=some (.ins C dx (oR h ru df))->Q .non H')
theorem DS (F:bY K "__init__" "Court.__init__" l6 f fd):aQ P w K mg base b8 1 f fd ["self","house","rule","dealer"] (Fu K):=by
 rwa[F.ok xu ↑8 ↑2]
 ·obtain ⟨a,h,ru,df,C,dx,rfl,_⟩:=h;rfl
 obtain ⟨a,h,ru,df,C,dx,rfl,ea,cC,q⟩:=h;erw[⟨_,(af (dz (K:=K) rfl (wv 0) (wv 1)) (af (dz (K:=K) rfl (wv 0) (wv 2)) (ag (dz (K:=K) rfl (wv 0) (wv 3))))),?_⟩];erw[dB ea cC.i.cl cC.house ↑1 ?_];erw[dB aj cC.i.cl cC.rule (by show 1<1000;decide) ?_];rwa[dB aj cC.i.cl cC.dealer (by show 2<1000;decide) ?_];rwa[q _ (λb o n e=> ?_) aj];rw [am n,am n,am n];exact e
unseal jV in
theorem Oj {C:Addr}{E:XK}{H:Hp}{h ru df:Addr}{Q:VK}(cC:HR K C)(g:∀a dx H',ar H H'->H a=none->H' a=some (.ins C dx (oR h ru df))->Q (.ref a) H'):jV C (Fu K) E [.ref h,.ref ru,.ref df] H Q:=by
 show ∀a dx,H a=none->H dx=none->dx≠a->Fu K (.ref a::([.ref h,.ref ru,.ref df]++[])) (upd (upd H dx (.own a)) a (.ins C dx [])) (λv H2=>v= .non/\Q (.ref a) H2) E;intro a dx h1 h2 h3;have sm:ar H (upd (upd H dx (.own a)) a (.ins C dx [])):=iE h1 h2;exact ⟨a,h,ru,df,C,dx,rfl,aj,cC,λH' sp e=>⟨rfl,g a dx H' (λb o e=>sp b o (λz=>by rw [z,h1] at e;cases e) (sm b o e)) h1 e⟩⟩
theorem GD {i:Int}(h0:0<=i)(h1:i<3):∃s:Str,ly [V.str Hr,.str hst,.str EY] i=some (.str s)/\mj s:=by
 rcases (show i=0\/i=1\/i=2 by omega) with rfl|rfl|rfl
 ·exact ⟨_,rfl,.inl rfl⟩
 ·exact ⟨_,rfl,.inr (.inl rfl)⟩
 ·exact ⟨_,rfl,.inr (.inr rfl)⟩
def MT (l:Lf):Prop:=1<=l.rm/\l.rm<=6/\1<=l.tn/\l.tn<=4/\mj l.kd
inductive u8 (K:Fg)(vs:List V)(H:Hp)(Q:VK)(_e:XK):Prop
 |mk (a ns k fl:_) (_:vs=[.ref a,.int k,.int fl]) (_:zM K H a ns) (_:0<=k) (_:k<1000) (_:0<fl) (_:∀v l H',ar H H'->Ku K H' v l->MT l->Q v H')
theorem DF (F:bY K "_law_lift" "_law_lift" yS f fd)(aE:bO P w K mg base 2 "_law_draw" ["_law_script","_law_k","_law_prime","_law_many"] (cq K)):aQ P w K mg base b8 3 f fd ["_law_script","_law_at","_law_floors"] (u8 K):=by
 rwa[F.ok vm ↑8 ↑2]
 ·obtain ⟨a,ns,k,fl,rfl,_⟩:=h;rfl
 obtain ⟨a,ns,k,fl,rfl,hS,k0,k1,f0,q⟩:=h;erw[⟨_,(af (aA (i:=3) vm.nd rfl ↑6 (ak ↑4 (cZ (ac aq (ac aq (ac aq ae)))) ↑18 ↑3)) (af (aA (i:=4) vm.nd rfl ↑6 (ao aE hr ↑1 rfl (ac (wv 0) (ac (wv 1) (ac aa (ac (wv 2) ae)))))) (ag (aD (aP (ac (wv 4) (ac (aG ↑23 aa ↑18) (ac (aG ↑23 aa ↑18) (ac (wv 3) ae))))))))),?_⟩];rwa[iI (bB (by show 3<=1000000;decide)) λl1 H1 s1 n1 e1=> ?_];have hS1:=hS.same s1;ext;erw[cq.mk _ _ _ _ _ rfl hS1 k0 k1 ↑1 ↑1 λi i0 i1=> ?_];obtain ⟨sk,ek,hk⟩:=GD i0 i1;erw[bi (aN.of e1) ek ?_];erw[cq.mk _ _ _ _ _ rfl hS1 k0 k1 ↑1 f0 λi2 _ _=> ?_];erw[cq.mk _ _ _ _ _ rfl hS1 k0 k1 ↑1 ↑1 λi3 a0 a1=> ?_];erw[cq.mk _ _ _ _ _ rfl hS1 k0 k1 ↑1 ↑1 λi4 b0 b1=> ?_];exact bK (bB (by show 4<=1000000;decide)) λr H2 s2 n2 e2=>q _ ⟨i2,1+i3,1+i4,sk⟩ H2 (s1.trans s2) ⟨r,rfl,aK.of e2⟩ ⟨by show 1<=1+i3;omega,by show 1+i3<=6;omega,by show 1<=1+i4;omega,by show 1+i4<=4;omega,hk⟩
inductive qJ (K:Fg)(vs:List V)(H:Hp)(Q:VK)(_e:XK):Prop
 |mk (a ns:_) (_:vs=[.ref a,.int 3]) (_:zM K H a ns) (_:∀r hs H',ar H H'->jE K H' r hs->Q (.ref r) H')
theorem Bc (F:bY K "_law_house" "_law_house" vB f fd)(bH:mg "tuple"=none)(bA:mg "range"=none)(aE:bO P w K mg base 2 "_law_draw" ["_law_script","_law_k","_law_prime","_law_many"] (cq K))(oZ:bO P w K mg base 3 "_law_lift" ["_law_script","_law_at","_law_floors"] (u8 K)):aQ P w K mg base b8 4 f fd ["_law_script","_law_most"] (qJ K):=by
 rwa[F.ok iC ↑8 ↑2]
 ·obtain ⟨a,ns,rfl,_⟩:=h;rfl
 obtain ⟨a,ns,rfl,hS,q⟩:=h;erw[⟨_,(af (aA (i:=2) iC.nd rfl (Or.inr rfl) (aG ↑23 aa ↑25)) (af (aA (i:=3) iC.nd rfl ↑6 (aG ↑23 aa (ao aE hr ↑1 rfl (ac (wv 0) (ac aa (ac aa ↑34)))))) (af (aA (i:=4) iC.nd rfl ↑6 (aG fv (aG Cg (ao aE hr ↑1 rfl (ac (wv 0) (ac aa (ac aa (ac (aG Hf aa (wv 2)) ae))))) aa) aa)) (fP (aJ (az lF ↑25 aa (au _)) (ag (aA (i:=4) iC.nd rfl ↑6 aa)) aF) (af (aA (i:=5) iC.nd rfl ↑6 (ak ↑4 (cZ (ac aq (ac aq ae))) ↑25 ↑3)) (ag (aD (aP (ac (wv 2) (ac (br (fh (K:=K) rfl) rfl bH boot_tuple (ac (bD rfl (aI (N':=["_law_k","_law_script","_law_floors"]) (pk:=[none,some 0,some 2]) ↑33) (cy rfl bA (ac (wv 3) ae)) (λC s H ex=>(aC (i:=0) (show List.Nodup (["_law_k","_law_script","_law_floors"]:List Str) by decide+kernel) rfl ↑6)) ↑37 (λC s H ex=>(ao oZ hr ↑1 rfl (ac (wv 1) (ac (aG ↑23 aa (wv 0)) (ac (wv 2) ae)))))) ae)) (ac (wv 4) (ac (wv 5) ae)))))))))))),?_⟩];erw[cq.mk _ _ _ _ _ rfl hS ↑1 ↑1 ↑1 ↑1 λi i0 i1=> ?_];erw[cq.mk _ _ _ _ _ rfl hS ↑1 ↑1 ↑1 ↑1 λn n0 n1=> ?_];erw[⟨xU ↑5 ↑5 ↑1,?_⟩];erw[cq.mk _ _ _ _ _ rfl hS ↑1 ↑1 ↑1 (by first|exact Int.pow_pos ↑1|exact Int.mul_pos ↑1 (Int.pow_pos ↑1)|(show (0:Int)<1*2^_;rw [Int.one_mul];exact Int.pow_pos ↑1)) λlk lk0 _=> ?_];erw[⟨Hz ↑1 ↑1,?_⟩];erw[⟨jl ↑1 ↑1,?_⟩];rwa[qc (λσ H'=>H'=H/\∃lo:Int,0<=lo/\σ=[some (.ref a),some (.int 3),some (.int (2+i)),some (.int (1+n)),some (.int lo),none]) ?_ ?_]
 ·ext;erw[cq.mk _ _ _ _ _ rfl hS ↑1 ↑1 ↑1 ↑1 λj _ _=> ?_];rwa[hV (λz=> ?_) (λz=> ?_)]
  ·exact ⟨rfl,0,by decide,rfl⟩
  ·exact ⟨rfl,lk / 2*2,by omega,rfl⟩
 rintro σ' H' ⟨rfl,lo,lo0,rfl⟩;obtain ⟨lon,rfl⟩:=Int.eq_ofNat_of_zero_le lo0;ext;erw[iI (bB ↑27) λl1 H1 s1 n1' e1=> ?_];erw[cq.mk _ _ _ _ _ rfl (hS.same s1) ↑1 ↑1 ↑1 ↑1 λj j0 j1=> ?_]
 obtain ⟨so,eso,hso⟩:∃s:Str,ly [V.str (Str.ofString "free"),.str (Str.ofString "way")] j=some (.str s)/\(s=Str.ofString "free"\/s=Str.ofString "way"):=by
  rcases (show j=0\/j=1 by omega) with rfl|rfl
  ·exact ⟨_,rfl,.inl rfl⟩
  ·exact ⟨_,rfl,.inr rfl⟩
 erw[bi (aN.of e1) eso ?_];rwa[⟨⟨by omega,by omega⟩,?_⟩];rwa[eV (λi ys H'=>ar H1 H'/\ys.length=i/\∃ls:List Lf,Paired (Ku K H') ys ls/\∀l∈ls,MT l) (bB ↑5) (λi ys H' p=>Nat.le_of_eq p.2.1) ⟨.refl _,rfl,[],.nil,λy hy=>nomatch hy⟩ (λi ys H' hi p=> ?_) (λys H' p l nl=> ?_)]
 ·obtain ⟨sm,rfl,ls,hp,hok⟩:=p;ext;erw[⟨bC,?_⟩]
  have hi':(ys.length:Int)<3:=by omega
  rwa[u8.mk _ _ _ _ rfl ((hS.same s1).same sm) ↑5 ↑5 ↑5 λv l H2 s2 hv hl=>⟨sm.trans s2,by simp,ls++[l],?_,λy hy=> ?_⟩]
  ·exact Paired.app (Paired.imp' (λx l ⟨b,e,z⟩=>⟨b,e,s2.seqT z⟩) hp) (.cons hv .nil)
  rcases List.mem_append.mp hy with z|z
  ·exact hok y z
  ·rw [List.mem_singleton.mp z];exact hl
 obtain ⟨sm,hl,ls,hp,hok⟩:=p;have s2:ar H' (upd H' l (.lst ys)):= .upd nl;ext;erw[gH (aN.of aj) λpt H3 s3 n3 e3=> ?_];rwa[bK (bB ↑27) λr H4 s4 n4 e4=> ?_]
 have ll:ls.length=(1+n).toNat:=by have:=hp.len;omega
 have s24:=(s2.trans s3).trans s4;rwa[q r ⟨2+i,ls,lon,so⟩ H4 ((s1.trans sm).trans s24) ⟨⟨by show 2<=2+i;omega,by show 2+i<=8;omega,by show 1<=ls.length;omega,by show ls.length<=3;omega,λl hl=>hok l hl,hso⟩,pt,ys,aK.of e4,s4.seqT (aK.of e3),Paired.imp' (λx l ⟨b,e,z⟩=>⟨b,e,s24.seqT z⟩) hp⟩]
theorem GK {fl pl li:Int}(f2:2<=fl)(p0:0<=pl)(p1:pl<2*fl - 1)(hl:li= -1\/li=0\/li=1)(hp:pl% 2=0\/li≠0):∃f:Nat,(f:Int)<fl/\(2*(f:Int)=pl\/(2*(f:Int) - pl)*li>0):=by
 by_cases e:pl% 2=0
 ·exact ⟨(pl / 2).toNat,by omega,.inl ↑5⟩
 ·rcases hl with rfl|rfl|rfl
  ·exact ⟨((pl - 1) / 2).toNat,by omega,.inr ↑5⟩
  ·rcases hp with z|z
   ·exact absurd z e
   ·exact absurd rfl z
  ·exact ⟨((pl+1) / 2).toNat,by omega,.inr ↑5⟩
inductive qK (K:Fg)(vs:List V)(H:Hp)(Q:VK)(_e:XK):Prop
 |mk (h hs pl li fi:_) (_:vs=[.ref h,.int pl,.int li,.bl fi]) (_:jE K H h hs) (_:0<=pl) (_:pl<2*hs.fl - 1) (_:(li= -1\/li=0\/li=1)) (_:(fi=true\/(pl% 2=0\/li≠0))) (_:∀(p:Addr) (gs:List Int) H',ar H H'->H' p=some (.lst (gs.map V.int))->gs≠[]->gs.length<=8->(∀x∈gs,0<=x/\x<hs.fl)->Q (.ref p) H')
theorem C9 {fl:Int}(f2:2<=fl)(f8:fl<=8):Builtin.Range.small 0 fl 1=true/\Builtin.Range.rangeSize 0 fl 1=fl.toNat:=by
 rcases (show fl=2\/fl=3\/fl=4\/fl=5\/fl=6\/fl=7\/fl=8 by omega) with rfl|rfl|rfl|rfl|rfl|rfl|rfl<;>decide
theorem Bd (F:bY K "_law_goals" "_law_goals" vD f fd)(eF:mg "list"=none)(bA:mg "range"=none):aQ P w K mg base b8 1 f fd ["_law_house_here","_law_place","_law_light","_law_fire"] (qK K):=by
 rwa[F.ok xp ↑8 ↑2]
 ·obtain ⟨h,hs,pl,li,fi,rfl,_⟩:=h;rfl
 obtain ⟨h,hs,pl,li,fi,rfl,⟨ho,p,ls,hh,hp,hl⟩,p0,p1,hli,hpl,q⟩:=h;have f2:=ho.f2;have f8:=ho.f8;generalize hfl:hs.fl=fl at *;generalize hso:hs.so=so at *
 have all:∀x∈(List.range fl.toNat).map (λi:Nat=>(i:Int)),0<=x/\x<fl:=λx hx=>by
  obtain ⟨i,hi,rfl⟩:=List.mem_map.mp hx;have:=List.mem_range.mp hi;omega
 erw[⟨_,(af (aA (i:=4) xp.nd rfl ↑6 (uU rfl rfl eF rfl bA ↑11)) (af (aJ (PW.pt (cG (az ↑10 ↑11 aq (au _)) (cu (bt (K:=K) rfl (wv 3))))) (ag (aD (wv 4))) aF) (ag (aD (bD rfl (aI (N':=["_law_floor","_law_place","_law_light"]) (pk:=[none,some 1,some 2]) ↑33) (bg (K:=K) rfl (wv 4)) (λC s H ex=>(aC (i:=0) (show List.Nodup (["_law_floor","_law_place","_law_light"]:List Str) by decide+kernel) rfl ↑6)) (λC s H ex=>(fO (PW.pt (cG (az ↑10 (aG fv aa (wv 0)) (wv 1) (au _)) (cu (az lF (aG fv (aG eX (aG fv aa (wv 0)) (wv 1)) (wv 2)) aa (au _))))))) (λC s H ex=>(wv 0))))))),?_⟩];erw[ai hh rfl ?_];rwa[Mc (C9 f2 f8).1 (C9 f2 f8).2 ↑5 λl1 H1 s1 n1' e1=> ?_]
 have e1':H1 l1=some (.lst (((List.range fl.toNat).map λi:Nat=>(i:Int)).map V.int)):=by rw [e1,List.map_map];rfl
 ext;erw[ai (s1.seqT hh) rfl ?_];rwa[hV (λz=> ?_) (λz=> ?_)]
 ·ext;erw[bj rfl ?_];rwa[q l1 _ H1 s1 e1' (λz=> ?_) (by rw [List.length_map,List.length_range];omega) all];have:=congrArg List.length z;rw [List.length_map,List.length_range] at this;simp at this;omega
 cases fi with
 |true=>
  ext;erw[bj rfl ?_];rwa[q l1 _ H1 s1 e1' (λz=> ?_) (by rw [List.length_map,List.length_range];omega) all];have:=congrArg List.length z;rw [List.length_map,List.length_range] at this;simp at this;omega
 |false=>
 have hpl:pl% 2=0\/li≠0:=hpl.elim (λz=>by cases z) id;ext;erw[aB rfl ?_];rwa[cW (aN.of e1) ?_]
 have hlen:((List.range fl.toNat).map λi:Nat=>V.int (i:Int)).length=fl.toNat:=by rw [List.length_map,List.length_range]
 rwa[bZ (xs:=(List.range fl.toNat).map λi:Nat=>V.int (i:Int)) (λi zs HX=>HX=H1/\∃gs:List Int,zs=gs.map V.int/\gs.length<=i/\(∀x∈gs,0<=x/\x<fl)/\∀f:Nat,f<i->(2*(f:Int)=pl\/(2*(f:Int) - pl)*li>0)->gs≠[]) (bB (by rw [hlen];omega)) (λi zs HX pz=>by obtain ⟨_,gs,rfl,e,_⟩:=pz;rw [List.length_map];exact e) ⟨rfl,[],rfl,Nat.le_refl _,(λx hx=>nomatch hx),λf hf=>absurd hf ↑5⟩ (λi zs HX _ pz=>by rw [pz.1];exact aN.of e1) (λi x zs HX hxi pz=> ?_) (λzs HX pz l2 n2=> ?_)]
 ·obtain ⟨rfl,gs,rfl,hgl,hgb,hgs⟩:=pz;rw [List.getElem?_map] at hxi;obtain ⟨k,hk,rfl⟩:=Option.map_eq_some_iff.mp hxi;obtain ⟨hi,hk⟩:=List.getElem?_eq_some_iff.mp hk;rw [List.getElem_range] at hk;subst hk
  have more:∀x∈gs++[(i:Int)],0<=x/\x<fl:=λx hx=>by
   rcases List.mem_append.mp hx with z|z
   ·exact hgb x z
   ·rw [List.mem_singleton.mp z];rw [List.length_range] at hi;omega
  ext;erw[⟨bC,?_⟩];rwa[⟨fJ ↑1 ↑1,?_⟩];by_cases z1:2*(i:Int)=pl
  ·show rY (decide (2*(i:Int)=pl)) _ _;rwa[j6 z1 ?_];show if true=true then _ else _;rw [if_pos rfl];exact ⟨rfl,gs++[(i:Int)],by rw [List.map_append];rfl,by rw [List.length_append];show _+1<=_;omega,more,λf hf hc z=>by simp at z⟩
  ·show rY (decide (2*(i:Int)=pl)) _ _;erw[bz z1 ?_];erw[⟨fJ ↑1 ↑1,?_⟩]
   refine ⟨by
    rcases hli with rfl|rfl|rfl
    ·exact jl ↑1 ↑1
    ·exact jl ↑1 ↑1
    ·exact jl ↑1 ↑1,?_⟩
   show if decide ((2*(i:Int) - pl)*li>0)=true then _ else _;by_cases z2:(2*(i:Int) - pl)*li>0
   ·rw [if_pos (decide_eq_true z2)];exact ⟨rfl,gs++[(i:Int)],by rw [List.map_append];rfl,by rw [List.length_append];show _+1<=_;omega,more,λf hf hc z=>by simp at z⟩
   ·rw [if_neg (by rw [decide_eq_false z2];decide)];rwa[⟨rfl,gs,rfl,by omega,hgb,λf hf hc=> ?_⟩];by_cases y:f=i
    ·subst y
     rcases hc with hc|hc
     ·exact absurd hc z1
     ·exact absurd hc z2
    ·exact hgs f ↑5 hc
 obtain ⟨rfl,gs,rfl,hgl,hgb,hgs⟩:=pz;rw [hlen] at hgl hgs;obtain ⟨f0,hf0,hc0⟩:=GK f2 p0 p1 hli hpl;exact q l2 gs _ (s1.trans (.upd n2)) aj (hgs f0 ↑5 hc0) ↑5 hgb
inductive qL (K:Fg)(vs:List V)(H:Hp)(Q:VK)(_e:XK):Prop
 |mk (a ns k h hs m fi:_) (_:vs=[.ref a,.int k,.ref h,.int m,.bl fi]) (_:zM K H a ns) (_:0<=k) (_:k<900) (_:jE K H h hs) (_:0<=m) (_:m<(hs.ls.length:Int)) (_:∀v c H',ar H H'->cx K H' v c->tM hs.fl c->c.mr<=3->Q v H')
theorem Be (F:bY K "_law_cabin" "_law_cabin" vE f fd)(bh:mg "len"=none)(bA:mg "range"=none)(bH:mg "tuple"=none)(aE:bO P w K mg base 2 "_law_draw" ["_law_script","_law_k","_law_prime","_law_many"] (cq K))(eL:bO P w K mg base 3 "_law_tag" ["_law_script","_law_number"] (pJ K))(mz:bO P w K mg base 1 "_law_goals" ["_law_house_here","_law_place","_law_light","_law_fire"] (qK K)):aQ P w K mg base b8 4 f fd ["_law_script","_law_at","_law_house_here","_law_number","_law_fire"] (qL K):=by
 rwa[F.ok c9 ↑8 ↑2]
 ·obtain ⟨a,ns,k,h,hs,m,fi,rfl,_⟩:=h;rfl
 obtain ⟨a,ns,k,h,hs,m,fi,rfl,hS,k0,k9,hH,m0,m1,q⟩:=h;obtain ⟨mn,rfl⟩:=Int.eq_ofNat_of_zero_le m0
 have hmn:mn<hs.ls.length:=by omega
 obtain ⟨p,ls,pl0,hh,hp,hl,hat,hlT⟩:=hH.at m0 (l:=hs.ls[mn]) (by rw [show ((mn:Int)).toNat=mn by omega];exact List.getElem?_eq_getElem hmn);obtain ⟨r1,r6,t1,t4,_⟩:=hH.1.lf _ (List.getElem_mem hmn);generalize hrm:hs.ls[mn].rm=rm at *;generalize htn:hs.ls[mn].tn=tn at *;have f2:=hH.1.f2;have l3:=hH.1.l3;have hH0:=hH;generalize hfl:hs.fl=fl at *;erw[⟨_,(af (aA (i:=5) c9.nd rfl ↑6 (ak ↑4 ↑13 (wv 3) ↑3)) (af (aA (i:=6) c9.nd rfl ↑6 (ao aE hr ↑1 rfl (ac (wv 0) (ac (wv 1) (ac aa (ac (aG eX (aG fv aa ↑13) aa) ae)))))) (af (aA (i:=7) c9.nd rfl ↑6 (aG eX ↑18 aa)) (af (aA (i:=8) c9.nd rfl ↑6 (ao aE hr ↑1 rfl (ac (wv 0) (ac (wv 1) (ac aa (ac (aG ↑23 (ak ↑4 (wv 5) aa ↑3) aa) ae)))))) (fP (aJ (PW.pt (eR (az ↑10 (wv 7) aa (au _)) (dS (PW.pt (cG (az ↑10 (aG iu (wv 6) aa) aa (au _)) (cu (PW.pt (eR (az ↑10 ↑13 aq (au _)) (eR (az lF (wv 8) aa (au _)) (dS (de (bt (K:=K) rfl (wv 4))))))))))))) (ag (aA (i:=7) c9.nd rfl ↑6 (aG eX aa (aG fv aa ↑18)))) aF) (af (aA (i:=9) c9.nd rfl ↑6 aa) (fP (aJ (az ↑10 (aG iu (wv 6) aa) aa (au _)) (ag (aA (i:=9) c9.nd rfl ↑6 (ao aE hr ↑1 rfl (ac (wv 0) (ac (wv 1) (ac aa (ac (aG ↑23 (ak ↑4 (wv 5) aa ↑3) aa) ae))))))) aF) (af (aA (i:=10) c9.nd rfl ↑6 (ak ↑4 (cZ (ac aa (ac aa (ac aa (ac aa (ac aa (ac aa ae))))))) ↑18 ↑3)) (af (aA (i:=11) c9.nd rfl ↑6 (ao mz hr ↑1 rfl (ac (wv 2) (ac (wv 6) (ac (wv 7) (ac (wv 4) ae)))))) (af (aA (i:=12) c9.nd rfl ↑6 (cZ ae)) (af (du PassesOwn.never rfl (cy rfl bA (ac (wv 8) ae)) (aC (i:=13) c9.nd rfl ↑6) (af (aA (i:=14) c9.nd rfl ↑6 (ak ↑4 (wv 11) (ao aE hr ↑1 rfl (ac (wv 0) (ac (aG ↑23 (aG ↑23 (wv 1) aa) (wv 13)) (ac aa (ac (ax ↑32 rfl bh PySem.boot_len (ac (wv 11) ae)) ae))))) ↑3)) (ag (aH (cz (K:=K) rfl PySem.F.plainAttrs_list PySem.F.slot_list_append PySem.F.type_list_append bw (wv 12) (ac (aP (ac (ao eL hr ↑1 rfl (ac (wv 0) (ac (aG ↑23 (aG fv aa (wv 3)) (wv 13)) ae))) (ac (wv 14) ae))) ae)))))) (ag (aD (aP (ac (wv 6) (ac (wv 7) (ac (wv 9) (ac (wv 10) (ac (br (fh (K:=K) rfl) rfl bH boot_tuple (ac (wv 12) ae)) ae))))))))))))))))))),?_⟩];erw[ai hh rfl ?_];erw[ai hp hat ?_];erw[ai hh rfl ?_];erw[⟨fJ ↑1 ↑1,?_⟩];rwa[cq.mk _ _ _ _ _ rfl hS k0 ↑5 ↑1 (by show (0:Int)<2*fl - 1;omega) λpl p0 p1=> ?_];have p1:pl<2*fl - 1:=p1;ext;erw[cq.mk _ _ _ _ _ rfl hS k0 ↑5 ↑1 ↑1 λli0 l0 l3=> ?_];erw[ai hlT rfl ?_];rwa[cq.mk _ _ _ _ _ rfl hS k0 ↑5 ↑1 (by show (0:Int)<rm+1;omega) λct ct0 ct1=> ?_];have ct1:ct<rm+1:=ct1;ext;rwa[qc (λσ H'=>H'=H/\∃li:Int,(li= -1\/li=0\/li=1)/\(pl% 2=0\/li≠0)/\σ=[some (.ref a),some (.int k),some (.ref h),some (.int (mn:Nat)),some (.bl fi),some (.ref pl0),some (.int pl),some (.int li),some (.int ct),none,none,none,none,none,none]) ?_ ?_]
 ·have again:∀(Pr:Prop),(∀d:Int,0<=d->d<2->Pr)->Pr:=λPr z=>z 0 ↑1 ↑1;ext;rwa[hV (λz=> ?_) (λz=> ?_)]
  ·have z:li0 - 1=0:=z;ext;erw[⟨by decide,?_⟩];rwa[hV (λy=> ?_) (λy=> ?_)]
   ·have y:pl% 2=1:=y;ext;erw[bj rfl ?_];erw[cq.mk _ _ _ _ _ rfl hS k0 ↑5 ↑1 ↑1 λd d0 d1=> ?_];rwa[⟨fJ ↑1 ↑1,?_⟩];exact ⟨rfl,1 - 2*d,by omega,.inr ↑5,rfl⟩
   ·have y: ¬pl% 2=1:=y;ext;erw[ai hh rfl ?_];rwa[hV (λx=> ?_) (λx=> ?_)]
    ·ext;rwa[hV (λu=> ?_) (λu=> ?_)]
     ·ext
      cases fi with
      |false=>
       erw[bj rfl ?_];erw[cq.mk _ _ _ _ _ rfl hS k0 ↑5 ↑1 ↑1 λd d0 d1=> ?_];rwa[⟨fJ ↑1 ↑1,?_⟩];exact ⟨rfl,1 - 2*d,by omega,.inr ↑5,rfl⟩
      |true=>
       rwa[aB rfl ?_];exact ⟨rfl,li0 - 1,by omega,.inl ↑5,rfl⟩
     ·ext;rwa[aB rfl ?_];exact ⟨rfl,li0 - 1,by omega,.inl ↑5,rfl⟩
    ·ext;rwa[aB rfl ?_];exact ⟨rfl,li0 - 1,by omega,.inl ↑5,rfl⟩
  ·have z: ¬li0 - 1=0:=z;ext;rwa[aB rfl ?_];exact ⟨rfl,li0 - 1,by omega,.inr z,rfl⟩
 rintro σ' H' ⟨rfl,li,hli,hpl,rfl⟩;ext;rwa[qc (λσ H2=>H2=H'/\∃dr:Int,0<=dr/\(0<dr->pl% 2=0)/\σ=[some (.ref a),some (.int k),some (.ref h),some (.int (mn:Nat)),some (.bl fi),some (.ref pl0),some (.int pl),some (.int li),some (.int ct),some (.int dr),none,none,none,none,none]) ?_ ?_]
 ·ext;erw[⟨by decide,?_⟩];rwa[hV (λz=> ?_) (λz=> ?_)]
  ·ext;erw[ai hlT rfl ?_];rwa[cq.mk _ _ _ _ _ rfl hS k0 ↑5 ↑1 (by show (0:Int)<tn+1;omega) λd d0 d1=> ?_];exact ⟨rfl,d,d0,λ_=>z,rfl⟩
  ·exact ⟨rfl,0,by decide,λw=>absurd w ↑1,rfl⟩
 rintro σ' H2 ⟨rfl,dr,dr0,drev,rfl⟩;ext;erw[iI (bB (by show 6<=1000000;decide)) λl1 H1 s1 n1' e1=> ?_];erw[cq.mk _ _ _ _ _ rfl (hS.same s1) k0 ↑5 ↑1 ↑1 λmi mi0 mi1=> ?_]
 obtain ⟨mk,emk,mk0,mk3⟩:∃mk:Int,ly [V.int 0,.int 0,.int 0,.int 1,.int 2,.int 3] mi=some (.int mk)/\0<=mk/\mk<=3:=by
  rcases (show mi=0\/mi=1\/mi=2\/mi=3\/mi=4\/mi=5 by omega) with rfl|rfl|rfl|rfl|rfl|rfl<;>exact ⟨_,rfl,by decide⟩
 erw[bi (aN.of e1) emk ?_];erw[qK.mk _ _ _ _ _ rfl (hH0.same s1) p0 (by rw [hfl];exact p1) hli (.inr hpl) λgp gs H3 s3 e3 gne gl gb=> ?_];erw[iI ↑35 λl4 H4 s4 n4 e4=> ?_];rwa[⟨⟨by omega,by omega⟩,?_⟩];have s14:ar H2 H4:=s1.trans (s3.trans s4);have e34:H4 gp=some (.lst (gs.map V.int)):=s4 _ _ e3
 have ngl:gp≠l4:=λz=>by rw [z] at e3;rw [n4] at e3;cases e3
 have nl4:H2 l4=none:=by
  cases y:H2 l4 with
  |none=>rfl
  |some o=>rw [(s1.trans s3) _ _ y] at n4;cases n4
 have gpos:0<gs.length:=List.length_pos_iff.mpr gne;rwa[fG (λi σ HX=>ar H2 HX/\HX gp=some (.lst (gs.map V.int))/\∃(qs:List (Int×Int)) (xs:List V) (o1 o2:Option V),HX l4=some (.lst xs)/\qs.length=i/\(∀q∈qs,0<=q.2/\q.2<fl)/\Paired (λx (q:Int×Int)=>∃b,x=V.ref b/\HX b=some (.tup [.int q.1,.int q.2])) xs qs/\σ=[some (.ref a),some (.int k),some (.ref h),some (.int (mn:Nat)),some (.bl fi),some (.ref pl0),some (.int pl),some (.int li),some (.int ct),some (.int dr),some (.int mk),some (.ref gp),some (.ref l4),o1,o2]) ⟨s14,e34,[],[],_,_,e4,rfl,(λq hq=>nomatch hq),.nil,rfl⟩ (λi σ HX hi pv=> ?_) (λσ HX pv=> ?_)]
 ·obtain ⟨sx,eg,qs,xs,o1,o2,el,hql,hqb,hp,rfl⟩:=pv
  have i6:i<6:=by omega
  have i0:(0:Int)+(i:Nat)=((i:Nat):Int):=by omega
  rw [i0];ext;erw[cr (aN.of eg) ?_];rwa[cq.mk _ _ _ _ _ rfl (hS.same sx) ↑5 ↑5 ↑1 (by rw [List.length_map];omega) λgi g0 g1=> ?_];have g1:gi<((gs.map V.int).length:Int):=g1;rw [List.length_map] at g1;obtain ⟨gn,rfl⟩:=Int.eq_ofNat_of_zero_le g0
  have hgn:gn<gs.length:=by omega
  ext;erw[bi (aN.of eg) (v:= .int gs[gn]) (dE (by rw [List.getElem?_map,List.getElem?_eq_getElem hgn];rfl)) ?_];erw[⟨.inl ⟨rfl,_,aN.of el⟩,?_⟩];erw[⟨fJ ↑1 ↑1,?_⟩];erw[pJ.mk _ _ _ rfl (hS.same sx) ↑5 ↑5 λtg=> ?_];erw[bK ↑17 λb H5 s5 n5 e5=> ?_];have xl:=hp.len;rwa[dM (s5 _ _ el) (nL ↑5) ?_]
  have nlt:∀ {y:Addr} {zs:List V},H5 y=some (.tup zs)->y≠l4:=λ{y zs} e z=>by rw [z,s5 _ _ el] at e;cases e
  refine ⟨ar.updF (sx.trans s5) nl4,by rw [am ngl];exact s5 _ _ eg,qs++[(tg,gs[gn])],xs++[.ref b],_,_,aj,by simp [hql],(λq hq=>by
   rcases List.mem_append.mp hq with z|z
   ·exact hqb q z
   ·rw [List.mem_singleton.mp z];have:=gb gs[gn] (List.getElem_mem hgn);rw [hfl] at this;exact this),Paired.app (Paired.imp' (λx q ⟨y,ey,hy⟩=>⟨y,ey,by rw [am (nlt (s5 _ _ hy))];exact s5 _ _ hy⟩) hp) (.cons ⟨b,rfl,by rw [am (nlt e5)];exact e5⟩ .nil),rfl⟩
 obtain ⟨sx,eg,qs,xs,o1,o2,el,hql,hqb,hp,rfl⟩:=pv;ext;erw[gH (aN.of el) λtb H6 s6 n6 e6=> ?_];rwa[bK (bB (by show 5<=1000000;decide)) λr H7 s7 n7 e7=> ?_]
 have ab:aO K H7 xs (qs.map fb):=by
  have h7:Paired (λx (q:Int×Int)=>cI K H7 x (fb q)) xs qs:=Paired.imp' (λx q ⟨y,ey,hy⟩=>by rw [ey];exact ez (aK.of (s7 _ _ (s6 _ _ hy))) (.cons (.int _) (.cons (.int _) .nil))) hp;rwa[PySem.Paired.of (by rw [List.length_map];exact h7.len) λi x d e1 e2=> ?_];rw [List.getElem?_map] at e2;obtain ⟨q,hq,rfl⟩:=Option.map_eq_some_iff.mp e2;obtain ⟨q',hq',z⟩:=h7.get1 e1;rw [hq] at hq';cases hq';exact z
 rwa[q _ ⟨pl,li,dr,mk,qs⟩ H7 (sx.trans (s6.trans s7)) ⟨r,rfl,tb,xs,e7,s7 _ _ e6,ab⟩ ⟨p0,by show pl<=2*(fl - 1);omega,by show -1<=li;omega,by show li<=1;omega,mk0,drev,by show qs.length<=64;omega,hqb⟩ mk3]
inductive qI (K:Fg)(vs:List V)(H:Hp)(Q:VK)(_e:XK):Prop
 |mk (a ns k h hs tg l ls:_) (_:vs=[.ref a,.int k,.ref h,.int tg,.ref l]) (_:zM K H a ns) (_:0<=k) (_:k<1000) (_:jE K H h hs) (_:aN K H l (List.map V.int ls)) (_:ls≠[]) (_:ls.length<=100) (_:∀v r H',ar H H'->cI K H' v (be.d r)->pC hs.fl r->Q v H')
theorem A4 (F:bY K "_law_rider" "_law_rider" vA f fd)(bh:mg "len"=none)(aE:bO P w K mg base 2 "_law_draw" ["_law_script","_law_k","_law_prime","_law_many"] (cq K)):aQ P w K mg base b8 3 f fd ["_law_script","_law_at","_law_house_here","_law_tag_here","_law_lifts"] (qI K):=by
 rwa[F.ok qW ↑8 ↑2]
 ·obtain ⟨a,ns,k,h,hs,tg,l,ls,rfl,_⟩:=h;rfl
 obtain ⟨a,ns,k,h,hs,tg,l,is,rfl,hS,k0,k1,⟨ho,p,ls,hh,hp,hl⟩,hL,ine,il,q⟩:=h;have f2:=ho.f2;generalize hfl:hs.fl=fl at *;erw[⟨_,(af (aA (i:=5) qW.nd rfl ↑6 (ao aE hr ↑1 rfl (ac (wv 0) (ac (wv 1) (ac aa (ac ↑13 ae)))))) (af (aA (i:=6) qW.nd rfl ↑6 (aG iu (aG ↑23 (aG ↑23 (wv 5) aa) (ao aE hr ↑1 rfl (ac (wv 0) (ac (wv 1) (ac aa (ac (aG eX ↑13 aa) ae)))))) ↑13)) (ag (aD (aP (ac (wv 3) (ac (wv 5) (ac (wv 6) (ac (ak ↑4 (wv 4) (ao aE hr ↑1 rfl (ac (wv 0) (ac (wv 1) (ac aa (ac (ax ↑32 rfl bh PySem.boot_len (ac (wv 4) ae)) ae))))) ↑3) ae))))))))),?_⟩];erw[ai hh rfl ?_];erw[cq.mk _ _ _ _ _ rfl hS k0 k1 ↑1 ↑5 λs s0 s1=> ?_];erw[ai hh rfl ?_];erw[cq.mk _ _ _ _ _ rfl hS k0 k1 ↑1 (by show (0:Int)<fl - 1;omega) λj j0 j1=> ?_];erw[ai hh rfl ?_];erw[⟨by omega,?_⟩];erw[cr hL ?_];have ip:0<is.length:=List.length_pos_iff.mpr ine;rwa[cq.mk _ _ _ _ _ rfl hS k0 k1 ↑1 (by rw [List.length_map];omega) λi i0 i1=> ?_];have i1:i<((is.map V.int).length:Int):=i1;rw [List.length_map] at i1;obtain ⟨m,rfl⟩:=Int.eq_ofNat_of_zero_le i0
 have hm:m<is.length:=by omega
 ext;erw[bi hL (v:= .int is[m]) (dE (by rw [List.getElem?_map,List.getElem?_eq_getElem hm];rfl)) ?_];have j1:j<fl - 1:=j1;rwa[bK (bB (by show 4<=1000000;decide)) λr H2 s2 n2 e2=>q _ ⟨tg,s,(s+1+j)% fl,is[m]⟩ H2 s2 (ez (aK.of e2) (.cons (.int _) (.cons (.int _) (.cons (.int _) (.cons (.int _) .nil))))) ⟨s0,s1,Int.emod_nonneg _ ↑5,Int.emod_lt_of_pos _ ↑5,λz=> ?_⟩];have z:s=(s+1+j)% fl:=z;by_cases w:s+1+j<fl
 ·rw [Int.emod_eq_of_lt ↑5 w] at z;omega
 ·have e:(s+1+j)% fl=s+1+j - fl:=by
   rw [show s+1+j=(s+1+j - fl)+fl by omega,Int.add_emod_right,Int.emod_eq_of_lt ↑5 ↑5];omega
  omega
inductive qH (K:Fg)(vs:List V)(H:Hp)(Q:VK)(_e:XK):Prop
 |mk (a ns h hs fi:_) (_:vs=[.ref a,.ref h,.bl fi]) (_:zM K H a ns) (_:jE K H h hs) (_:∀st cs ws last H',ar H H'->gk K H' st cs ws last fi->mI hs ws.length ⟨cs,ws,last,fi,0,[]⟩->ws.length<=10->0<=last->(∀c∈cs,c.mr<=3)->(fi=true->ws=[])->Q (.ref st) H')
theorem wz {H:Hp}{x:V}{c:Cb}(h:cx K H x c):∃a b,x= .ref a/\aK K H a [.int c.pl,.int c.li,.int c.dr,.int c.mr,.ref b]:=by
 obtain ⟨t,rfl,b,bs,et,_⟩:=h;exact ⟨t,b,rfl,aK.of et⟩
theorem AZ (F:bY K "_law_state" "_law_state" vz f fd)(bA:mg "range"=none)(bh:mg "len"=none)(bH:mg "tuple"=none)(aE:bO P w K mg base 2 "_law_draw" ["_law_script","_law_k","_law_prime","_law_many"] (cq K))(eL:bO P w K mg base 3 "_law_tag" ["_law_script","_law_number"] (pJ K))(mE:bO P w K mg base 4 "_law_cabin" ["_law_script","_law_at","_law_house_here","_law_number","_law_fire"] (qL K))(mw:bO P w K mg base 3 "_law_rider" ["_law_script","_law_at","_law_house_here","_law_tag_here","_law_lifts"] (qI K)):aQ P w K mg base b8 5 f fd ["_law_script","_law_house_here","_law_fire"] (qH K):=by
 rwa[F.ok iB ↑8 ↑2]
 ·obtain ⟨a,ns,h,hs,fi,rfl,_⟩:=h;rfl
 obtain ⟨a,ns,h,hs,fi,rfl,hS,hH,q⟩:=h;have hH0:=hH;obtain ⟨ho,p,ls,hh,hp,hl⟩:=hH;have l1:=ho.l1;have l3:=ho.l3;have ll:ls.length=hs.ls.length:=hl.len;erw[⟨_,(af (aA (i:=3) iB.nd rfl (Or.inr rfl) (bD rfl (aI (N':=["_law_k","_law_script","_law_house_here","_law_fire"]) (pk:=[none,some 0,some 1,some 2]) ↑33) (cy rfl bA (ac (ax ↑32 rfl bh PySem.boot_len (ac ↑14 ae)) ae)) (λC s H ex=>(aC (i:=0) (show List.Nodup (["_law_k","_law_script","_law_house_here","_law_fire"]:List Str) by decide+kernel) rfl ↑6)) ↑37 (λC s H ex=>(ao mE hr ↑1 rfl (ac (wv 1) (ac (aG ↑23 aa (aG fv aa (wv 0))) (ac (wv 2) (ac (wv 0) (ac (wv 3) ae))))))))) (af (aA (i:=4) iB.nd rfl ↑6 (aG ↑23 (cZ (ac (iG ir aa) ae)) (bD rfl (aI (N':=["_law_k","_law_cabins"]) (pk:=[none,some 3]) ↑33) (cy rfl bA (ac (ax ↑32 rfl bh PySem.boot_len (ac (wv 3) ae)) ae)) (λC s H ex=>(aC (i:=0) (show List.Nodup (["_law_k","_law_cabins"]:List Str) by decide+kernel) rfl ↑6)) (λC s H ex=>(fO (az ↑10 (ak ↑4 (ak ↑4 (wv 1) (wv 0) ↑3) aa ↑3) aa (au _)))) (λC s H ex=>(wv 0))))) (af (aA (i:=5) iB.nd rfl ↑6 (cZ ae)) (af (du PassesOwn.never rfl (cy rfl bA (ac ↑25 ae)) (aC (i:=6) iB.nd rfl ↑6) (ag (aH (cz (K:=K) rfl PySem.F.plainAttrs_list PySem.F.slot_list_append PySem.F.type_list_append bw (wv 5) (ac (ao mw hr ↑1 rfl (ac (wv 0) (ac (aG ↑23 aa (wv 6)) (ac (wv 1) (ac (ao eL hr ↑1 rfl (ac (wv 0) (ac (aG ↑23 aa (wv 6)) ae))) (ac (wv 4) ae)))))) ae))))) (fP (aJ (bt (K:=K) rfl (wv 2)) (ag (aA (i:=5) iB.nd rfl ↑6 (cZ ae))) aF) (ag (aD (aP (ac (br (fh (K:=K) rfl) rfl bH boot_tuple (ac (wv 3) ae)) (ac (br (fh (K:=K) rfl) rfl bH boot_tuple (ac (wv 5) ae)) (ac (ao aE hr ↑1 rfl (ac (wv 0) (ac aa (ac aa (ac (ax ↑32 rfl bh PySem.boot_len (ac (wv 3) ae)) ae))))) (ac (wv 2) ae)))))))))))),?_⟩];erw[ai hh rfl ?_];rwa[cY hp ?_];rw [ll];ext;rwa[⟨⟨by omega,by omega⟩,?_⟩]
 have hnn:((hs.ls.length:Int)).toNat=hs.ls.length:=by omega
 rwa[eV (λi ys H'=>ar H H'/\ys.length=i/\∃cs:List Cb,Paired (cx K H') ys cs/\(∀c∈cs,tM hs.fl c)/\∀c∈cs,c.mr<=3) (bB ↑5) (λi ys H' p=>Nat.le_of_eq p.2.1) ⟨.refl _,rfl,[],.nil,(λc hc=>nomatch hc),λc hc=>nomatch hc⟩ (λi ys H' hi p=> ?_) (λys H' p lc nlc=> ?_)]
 ·obtain ⟨sm,rfl,cs,hd,hok,hok3⟩:=p;ext;erw[⟨bC,?_⟩];erw[⟨fJ ↑1 ↑1,?_⟩];rwa[qL.mk _ _ _ _ _ _ _ rfl (hS.same sm) ↑5 ↑5 (hH0.same sm) ↑5 ↑5 λv c H3 s3 hv hc hc3=>⟨sm.trans s3,by simp,cs++[c],?_,λd hd'=> ?_,λd hd'=> ?_⟩]
  ·exact Paired.app (Paired.imp' (λx c z=>cx.keep z s3.st) hd) (.cons hv .nil)
  ·rcases List.mem_append.mp hd' with z|z
   ·exact hok d z
   ·rw [List.mem_singleton.mp z];exact hc
  ·rcases List.mem_append.mp hd' with z|z
   ·exact hok3 d z
   ·rw [List.mem_singleton.mp z];exact hc3
 obtain ⟨sm,hyl,cs,hd,hcok,hc3⟩:=p;rw [hnn] at hyl
 have hcl:cs.length=hs.ls.length:=by have:=hd.len;omega
 have s2':ar H' (upd H' lc (.lst ys)):= .upd nlc;have ec:upd H' lc (.lst ys) lc=some (.lst ys):=aj;have hd2:=Paired.imp' (λx c z=>cx.keep z s2'.st) hd;generalize hH2:upd H' lc (.lst ys)=H2 at s2' ec hd2 ⊢;have s2:=sm.trans s2';ext;erw[iI (bB (by show 1<=1000000;decide)) λlm H3 s3 n3 e3=> ?_];rwa[cr (aN.of (s3 _ _ ec)) ?_];rw [hyl];ext;rwa[⟨⟨by omega,by omega⟩,?_⟩];rwa[eV (λi zs HX=>HX=H3/\∃is:List Int,zs=is.map V.int/\is.length<=i) (bB ↑5) (λi zs HX p=>by obtain ⟨_,is,rfl,e⟩:=p;rw [List.length_map];exact e) ⟨rfl,[],rfl,Nat.le_refl _⟩ (λi zs HX hi p=> ?_) (λzs HX p lsv nlsv=> ?_)]
 ·obtain ⟨rfl,is,rfl,hil⟩:=p
  have hi:i<ys.length:=by omega
  obtain ⟨c,hc,z⟩:=hd2.get1 (List.getElem?_eq_getElem hi);obtain ⟨ca,cb,ea,hcT⟩:=wz (z.keep s3.st);ext;erw[⟨bC,?_⟩];erw[bi (aN.of (s3 _ _ ec)) (v:= .ref ca) (by rw [show (0:Int)+(i:Nat)=((i:Nat):Int) by omega,dE (List.getElem?_eq_getElem hi),ea]) ?_];rwa[ai hcT rfl ?_];show if decide (c.mr=0)=true then _ else _;by_cases z:c.mr=0
  ·rw [if_pos (decide_eq_true z)];exact ⟨rfl,is++[0+(i:Int)],by rw [List.map_append];rfl,by rw [List.length_append];show _+1<=_;omega⟩
  ·rw [if_neg (by rw [decide_eq_false z];decide)];exact ⟨rfl,is,rfl,by omega⟩
 obtain ⟨rfl,sv,rfl,svl⟩:=p;have s4':ar HX (upd HX lsv (.lst (sv.map V.int))):= .upd nlsv;have esv:upd HX lsv (.lst (sv.map V.int)) lsv=some (.lst (sv.map V.int)):=aj;generalize hH4:upd HX lsv (.lst (sv.map V.int))=H4 at s4' esv ⊢;ext;rwa[An (s4' _ _ e3) esv (bB (by rw [List.length_map];show 1+_<=_;omega)) λlf H5 s5 n5 e5=> ?_];have e5:H5 lf=some (.lst ((-1::sv).map V.int)):=e5;ext;rwa[iI ↑35 λwl H6 s6 nwl ewl=> ?_];have s06:ar H H6:=s2.trans (s3.trans (s4'.trans (s5.trans s6)));have s05:ar H H5:=s2.trans (s3.trans (s4'.trans s5));have n0:H wl=none:=none_of s05 nwl;have n5':H5 wl=none:=nwl;ext;erw[cq.mk _ _ _ _ _ rfl (hS.same s06) ↑1 ↑1 ↑1 ↑1 λwc wc0 wc1=> ?_];rwa[⟨⟨by omega,by omega⟩,?_⟩];rwa[fG (λi σ HY=>ar H5 HY/\∃(xs:List V) (rs:List be) (o6:Option V),HY wl=some (.lst xs)/\aO K HY xs (rs.map be.d)/\xs.length=i/\(∀r∈rs,pC hs.fl r)/\σ=[some (.ref a),some (.ref h),some (.bl fi),some (.ref lc),some (.ref lf),some (.ref wl),o6]) ⟨s6,[],[],_,ewl,.nil,rfl,(λr hr=>nomatch hr),rfl⟩ (λi σ HY hi pv=> ?_) (λσ HY pv=> ?_)]
 ·obtain ⟨sx,xs,rs,o5,el,hdx,hxl,hrs,rfl⟩:=pv
  have i0:(0:Int)+(i:Nat)=((i:Nat):Int):=by omega
  rw [i0];have sxH:=s05.trans sx;ext;erw[⟨.inl ⟨rfl,_,aN.of el⟩,?_⟩];erw[pJ.mk _ _ _ rfl (hS.same sxH) ↑5 ↑5 λtg=> ?_];erw[qI.mk _ _ _ _ _ _ _ _ rfl (hS.same sxH) ↑5 ↑5 (hH0.same sxH) (aN.of (sx _ _ e5)) ↑27 (by show (-1::sv).length<=100;rw [List.length_cons];omega) λv r H7 s7 hv hr'=> ?_];rwa[dM (s7 _ _ el) (nL ↑5) ?_];rwa[⟨ar.updF (sx.trans s7) n5',xs++[v],rs++[r],_,aj,?_,by simp [hxl],λr' hr2=> ?_,rfl⟩]
  ·rw [List.map_append];exact Paired.app (cj (aO.same hdx s7) (cE rs) (s7 _ _ el)) (.cons (cI.noL (d:=be.d r) hv rfl (s7 _ _ el)) .nil)
  ·rcases List.mem_append.mp hr2 with z|z
   ·exact hrs r' z
   ·rw [List.mem_singleton.mp z];exact hr'
 obtain ⟨sx,xs,rs,o6,el,hdx,hxl,hrs,rfl⟩:=pv;have sxH:=s05.trans sx;have hxl:xs.length=wc.toNat:=hxl;ext;rwa[qc (λσ HZ=>ar HY HZ/\∃(wl':Addr) (xs':List V) (rs':List be),HZ wl'=some (.lst xs')/\aO K HZ xs' (rs'.map be.d)/\(∀r∈rs',pC hs.fl r)/\rs'.length<=10/\(fi=true->rs'=[])/\σ=[some (.ref a),some (.ref h),some (.bl fi),some (.ref lc),some (.ref lf),some (.ref wl'),o6]) ?_ ?_]
 ·ext
  cases fi with
  |true=>
   erw[bj rfl ?_];exact iI ↑35 λl9 H9 s9 n9 e9=>⟨s9,l9,[],[],e9,.nil,(λr hr=>nomatch hr),by decide,(λ_=>rfl),rfl⟩
  |false=>
   rwa[aB rfl ?_];have:=aT (f:=be.d) hdx;exact ⟨.refl _,wl,xs,rs,el,hdx,hrs,by omega,(λz=>by cases z),rfl⟩
 rintro σ' HZ ⟨sZ,wl',xs',rs',el',hdx',hrs',rl',rfi,rfl⟩;have sHZ:=sxH.trans sZ;have ecZ:HZ lc=some (.lst ys):=sZ _ _ (sx _ _ (s5 _ _ (s4' _ _ (s3 _ _ ec))));have hdZ:Paired (cx K HZ) ys cs:=Paired.imp' (λx c z=>cx.keep z (s3.trans (s4'.trans (s5.trans (sx.trans sZ)))).st) hd2;ext;erw[gH (aN.of ecZ) λtc HA sA nA eA=> ?_];erw[gH (aN.of (sA _ _ el')) λtw HB sB nB eB=> ?_];rwa[cr (aN.of (sB _ _ (sA _ _ ecZ))) ?_];rw [hyl];ext;erw[cq.mk _ _ _ _ _ rfl (hS.same (sHZ.trans (sA.trans sB))) ↑1 ↑1 ↑1 ↑5 λla la0 la1=> ?_];rwa[bK (bB (by show 4<=1000000;decide)) λst HC sC nC eC=> ?_];have sZC:=sA.trans (sB.trans sC);exact q st cs rs' la HC (sHZ.trans sZC) ⟨tc,tw,ys,xs',aK.of eC,aK.of (sC _ _ (sB _ _ eA)),aK.of (sC _ _ eB),Paired.imp' (λx c z=>cx.keep z sZC.st) hdZ,aO.same hdx' sZC⟩ ⟨hcl,hcok,hrs',by show 0+rs'.length<=_;omega⟩ rl' la0 hc3 rfi
seal IG Ad
theorem JP {i:Int}(h0:0<=i)(h1:i<5):∃c,ly (Str.ofString "oxuds").cps.toList i=some c/\c∈oH:=by
 rcases (show i=0\/i=1\/i=2\/i=3\/i=4 by omega) with rfl|rfl|rfl|rfl|rfl<;>exact ⟨_,rfl,by decide⟩
theorem xK:∀(ts:List Str),(Builtin.Str.glued (Str.ofString "") ts).cps.toList=ts.flatMap λt=>t.cps.toList:=by
 have e0:(Str.ofString "").cps= #[]:=by decide+kernel
 have go:∀(l:List Str) (acc:Array Nat),(l.foldl (λacc p=>acc++(Str.ofString "").cps++p.cps) acc).toList=acc.toList++l.flatMap λt=>t.cps.toList:=by
  intro l
  induction l with
  |nil=>intro acc;simp
  |cons p l ih=>
   intro acc;rw [List.foldl_cons,ih,e0,List.flatMap_cons];simp
 intro ts
 cases ts with
 |nil=>rfl
 |cons p l=>
  show (l.foldl (λacc p=>acc++(Str.ofString "").cps++p.cps) p.cps).toList=_;rw [go,List.flatMap_cons]
theorem uD:∀(cs:List Nat),((cs.map λc=>(⟨#[c]⟩:Str)).flatMap λt=>t.cps.toList)=cs
 |[]=>rfl
 |c::cs=>by rw [List.map_cons,List.flatMap_cons,uD cs];rfl
theorem w6:∀(cs:List Nat),((cs.map λc=>(⟨#[c]⟩:Str)).map (·.length)).sum=cs.length
 |[]=>rfl
 |c::cs=>by rw [List.map_cons,List.map_cons,List.sum_cons,w6 cs,List.length_cons];show 1+_=_;omega
inductive yz (K:Fg)(vs:List V)(H:Hp)(Q:VK)(_e:XK):Prop
 |mk (a ns k:_) (_:vs=[.ref a,.int k]) (_:zM K H a ns) (_:0<=k) (_:k<1000) (_:∀t H',ar H H'->z5 t->Q (.str t) H')
theorem Ge (F:bY K "_law_letters" "_law_letters" on f fd)(bA:mg "range"=none)(aE:bO P w K mg base 2 "_law_draw" ["_law_script","_law_k","_law_prime","_law_many"] (cq K)):aQ P w K mg base b8 3 f fd ["_law_script","_law_at"] (yz K):=by
 rwa[F.ok yM ↑8 ↑2]
 ·obtain ⟨a,ns,k,rfl,_⟩:=h;rfl
 obtain ⟨a,ns,k,rfl,hS,k0,k1,q⟩:=h;erw[⟨_,(ag (aD (cz (K:=K) rfl PySem.F.plainAttrs_str PySem.F.slot_str_join PySem.F.type_str_join (Il (K:=K) rfl) aq (ac (bD rfl (aI (N':=["_law_k","_law_script","_law_at"]) (pk:=[none,some 0,some 1]) ↑33) (cy rfl bA (ac aa ae)) (λC s H ex=>(aC (i:=0) (show List.Nodup (["_law_k","_law_script","_law_at"]:List Str) by decide+kernel) rfl ↑6)) ↑37 (λC s H ex=>(ak ↑4 aq (ao aE hr ↑1 rfl (ac (wv 1) (ac (wv 2) (ac (aG ↑23 aa (aG fv aa (wv 0))) (ac aa ae))))) ↑3))) ae)))),?_⟩];erw[⟨rfl,?_⟩];rwa[⟨⟨by decide,by decide⟩,?_⟩];rwa[eV (λi ys H'=>H'=H/\∃cs:List Nat,ys=(cs.map λc=>(⟨#[c]⟩:Str)).map V.str/\cs.length=i/\∀c∈cs,c∈oH) (bB ↑1) (λi ys H' p=>by obtain ⟨_,cs,rfl,l,_⟩:=p;rw [List.length_map,List.length_map,l];exact Nat.le_refl _) ⟨rfl,[],rfl,rfl,λx hx=>nomatch hx⟩ (λi ys H' hi p=> ?_) (λys H' p l n=> ?_)]
 ·obtain ⟨rfl,cs,rfl,lt,ht⟩:=p;have hi':i<36:=hi;erw[⟨bC,?_⟩];erw[⟨fJ ↑1 ↑1,?_⟩];erw[cq.mk _ _ _ _ _ rfl hS k0 k1 (by show (0:Int)<60013+16*(0+(i:Int));omega) ↑1 λj j0 j1=> ?_];obtain ⟨c,ec,hL⟩:=JP j0 j1;rwa[zX (bB ↑1) ec ?_];rwa[⟨rfl,cs++[c],by rw [List.map_append,List.map_append];rfl,by rw [List.length_append,lt];rfl,λx hx=> ?_⟩]
  rcases List.mem_append.mp hx with hx|hx
  ·exact ht x hx
  ·rw [List.mem_singleton.mp hx];exact hL
 obtain ⟨rfl,cs,rfl,lt,ht⟩:=p;have lt:cs.length=36:=lt;have e1:upd H' l (.lst ((cs.map λc=>(⟨#[c]⟩:Str)).map V.str)) l=some (.lst ((cs.map λc=>(⟨#[c]⟩:Str)).map V.str)):=aj;have s1:ar H' (upd H' l (.lst ((cs.map λc=>(⟨#[c]⟩:Str)).map V.str))):= .upd n;generalize upd H' l (.lst ((cs.map λc=>(⟨#[c]⟩:Str)).map V.str))=H1 at e1 s1 ⊢
 have gc:(Builtin.Str.glued (Str.ofString "") (cs.map λc=>(⟨#[c]⟩:Str))).cps.toList=cs:=by
  rw [xK,uD]
 have gl:(Builtin.Str.glued (Str.ofString "") (cs.map λc=>(⟨#[c]⟩:Str))).length=36:=by rw [<-oJ,gc,lt]
 have gf:(cs.map λc=>(⟨#[c]⟩:Str)).toArray.foldl (· + ·.length+(Str.ofString "").length) 0<=sizeLine:=bB (by
  rw [PySem.StrLaws.joinTotal]
  have e2:(Str.ofString "").length=0:=by decide+kernel
  rw [w6,e2,lt];omega)
 ext;rwa[J2 (ts:=cs.map λc=>(⟨#[c]⟩:Str)) (aN.of e1) gf (bB (by rw [gl];decide)) ?_];exact q _ H1 s1 ⟨gl,λc hc=>ht c (by rw [gc] at hc;exact hc)⟩
def g9 (d:D):Prop:=∃(wd:Str) (i:Int) (is:List Int),d= .tup (.str wd:: .int i::is.map D.int)/\is.length<=10
inductive yu (K:Fg)(vs:List V)(H:Hp)(Q:VK)(_e:XK):Prop
 |mk (l zs ds:_) (_:vs=[.ref l]) (_:H l=some (.lst zs)) (_:aO K H zs ds) (_:(∀d∈ds,g9 d)) (_:ds.length<=4000) (_:∀H',ar H H'->Q (.bl true) H')
theorem gW {H:Hp}{xs:List V}{d:D}{ds:List D}(h:aO K H xs (d::ds)):∃y ys,xs=y::ys/\cI K H y d/\aO K H ys ds:=by
 cases h with|cons a b=>exact ⟨_,_,rfl,a,b⟩
theorem Bx {H:Hp}:∀ {is:List Int} {ys:List V},aO K H ys (is.map D.int)->ys=is.map V.int:=by
 intro is
 induction is with
 |nil=>intro ys h;cases h;rfl
 |cons j is ih=>
  intro ys h;obtain ⟨y,zs,rfl,a,b⟩:=gW h;rw [a.isInt,ih b];rfl
theorem FI {H:Hp}{x:V}{d:D}(h:cI K H x d)(hr:g9 d):∃(a:Addr) (wd:Str) (i:Int) (is:List Int),x= .ref a/\aK K H a (.str wd:: .int i::is.map V.int)/\is.length<=10/\d= .tup (.str wd:: .int i::is.map D.int):=by
 obtain ⟨wd,i,is,rfl,hl⟩:=hr;obtain ⟨a,xs,rfl,h1,h2⟩:=h.outT;obtain ⟨y0,zs0,rfl,q0,t0⟩:=gW h2;obtain ⟨y1,zs1,rfl,q1,t1⟩:=gW t0;rw [q0.isStr,q1.isInt,Bx t1] at h1;exact ⟨a,wd,i,is,rfl,h1,hl,rfl⟩
theorem F7 (F:bY K "_law_rows" "_law_rows" yQ f fd)(aM:mg "isinstance"=none)(eF:mg "list"=none)(bH:mg "tuple"=none)(JJ:mg "str"=none)(bh:mg "len"=none)(dD:bO P w K mg base 1 "_law_whole" ["_law_thing"] fN):aQ P w K mg base b8 2 f fd ["_law_log"] (yu K):=by
 rwa[F.ok vk ↑8 ↑2]
 ·obtain ⟨l,zs,ds,rfl,_⟩:=h;rfl
 obtain ⟨l,zs,ds,rfl,el,hd,hrow,dl,q⟩:=h;have zl:zs.length=ds.length:=hd.len;erw[⟨_,(af (aJ (de (bt (K:=K) rfl (ax (kE (K:=K) rfl) rfl aM boot_isinstance (ac (wv 0) (ac (gz (v:= .ty "list") rfl eF boot_list rfl) ae))))) (ag (aD gy)) aF) (af (du PassesOwn.never rfl (bg (K:=K) rfl (wv 0)) (aC (i:=1) vk.nd rfl ↑6) (af (aJ (PW.pt (cG (de (bt (K:=K) rfl (ax (kE (K:=K) rfl) rfl aM boot_isinstance (ac (wv 1) (ac (gz (v:= .ty "tuple") rfl bH boot_tuple rfl) ae))))) (cG (az w_lt (ax ↑32 rfl bh PySem.boot_len ↑34) aa (au _)) (cu (de (bt (K:=K) rfl (ax (kE (K:=K) rfl) rfl aM boot_isinstance (ac ↑14 (ac (gz (v:= .ty "str") rfl JJ boot_str rfl) ae))))))))) (ag (aD gy)) aF) (ag (du PassesOwn.never rfl (bg (K:=K) rfl (dh (jw (K:=K) rfl) (wv 1) (dA aa) fm)) (aC (i:=2) vk.nd rfl ↑6) (ag (aJ (de (bt (K:=K) rfl (ao dD hr ↑1 rfl (ac (wv 2) ae)))) (ag (aD gy)) aF)))))) (ag (aD gy)))),?_⟩];erw[D9 rfl (.lst el) rfl ?_];erw[aB rfl ?_];rwa[cW (aN.of el) ?_];rwa[fH (xs:=zs) (λi σ HX=>ar H HX/\∃o1 o2,σ=[some (.ref l),o1,o2]) ⟨.refl _,_,_,rfl⟩ (λi σ HX _ pv=>pv.1.seq (aN.of el)) (λi x σ HX hx pv=> ?_) (λσ HX pv=> ?_)]
 ·obtain ⟨sx,o1,o2,rfl⟩:=pv;obtain ⟨d,hd',dx⟩:=hd.get1 hx;obtain ⟨a,wd,j,is,rfl,hT,il,_⟩:=FI (cI.same dx sx) (hrow d (List.mem_of_getElem? hd'));ext;erw[D8 hT rfl rfl ?_];erw[aB rfl ?_];erw[cY hT ?_];erw[bz (by show ¬(((V.str wd::V.int j::is.map V.int).length:Nat):Int)<2;rw [List.length_cons,List.length_cons];omega) ?_];erw[ai hT (v:= .str wd) (dE (j:=0) rfl) ?_];erw[⟨rfl,?_⟩];erw[aB rfl ?_]
  refine hI hT (by
   rintro ⟨z,_⟩;revert z;show ¬HT.sIx (is.map V.int).length.succ.succ 0 (some 1)=0
   simp [HT.sIx]) λsl H2 s2 n2 e2=> ?_
  rw [BF] at e2;ext;rwa[dj (aK.of e2) ?_]
  have hall:∀y∈(V.int j::is.map V.int),∃i:Int,y=V.int i:=λy hy=>by
   rcases List.mem_cons.mp hy with rfl|hy
   ·exact ⟨_,rfl⟩
   ·obtain ⟨i,_,rfl⟩:=List.mem_map.mp hy;exact ⟨_,rfl⟩
  rwa[ka (xs:=V.int j::is.map V.int) (λi σ HY=>HY=H2/\∃o2,σ=[some (.ref l),some (.ref a),o2]) ⟨rfl,_,rfl⟩ (λi σ HY _ pv=>by rw [pv.1];exact aK.of e2) (λi x σ HY hx pv=> ?_) (λσ HY pv=> ?_)]
  ·obtain ⟨rfl,o2,rfl⟩:=pv;obtain ⟨i,rfl⟩:=hall x (List.mem_of_getElem? hx);ext;erw[fN.mk _ rfl ?_];rwa[aB rfl ?_];exact ⟨rfl,_,rfl⟩
  ·obtain ⟨rfl,o2,rfl⟩:=pv;exact ⟨sx.trans s2,_,_,rfl⟩
 ·obtain ⟨sx,o1,o2,rfl⟩:=pv;exact q HX sx
def uY (cs:List Cb)(n:Nat):List Nat:=(List.range n).filter λi=>decide ((cs[i]?.map (·.mr))=some 0)
def nN (cs:List Cb):List Int:=(uY cs cs.length).map λi:Nat=>(i:Int)
def vZ (cs:List Cb)(ws:List be)(r:be)(last:Int):Int:=last+r.tag+3*r.start+(ws.length:Int)+(ws.map (·.lift)).sum+(cs.map λc=>c.pl+(c.ps.length:Int)).sum
def iN (cs:List Cb)(ws:List be)(r:be)(last:Int):Int×Int:=if (nN cs).length=0 then (-1,last) else if vZ cs ws r last% 7=0 then (-1,(last+1)% (cs.length:Int)) else ((nN cs).getD (vZ cs ws r last% ((nN cs).length:Int)).toNat 0,(last+vZ cs ws r last)% (cs.length:Int))
def pZ (cs:List Cb)(ws:List be)(_:be)(_:Int):Prop:=cs≠[]/\cs.length<=10/\ws.length<=1000
inductive kI (K:Fg)(vs:List V)(H:Hp)(Q:VK)(_e:XK):Prop
 |mk (c w x cs ws r last xs ys:_) (_:vs=[.ref c,.ref w,x,.int last]) (_:(aN K H c xs\/aK K H c xs)) (_:Paired (cx K H) xs cs) (_:(aN K H w ys\/aK K H w ys)) (_:aO K H ys (ws.map be.d)) (_:cI K H x (be.d r)) (_:pZ cs ws r last) (_:∀t H',ar H H'->H' t=some (.tup [.int (iN cs ws r last).1,.int (iN cs ws r last).2])->Q (.ref t) H')
theorem DM (F:bY K "_law_deal" "_law_deal" yX f fd)(bA:mg "range"=none)(bh:mg "len"=none)(Gx:mg "sum"=none):aQ P w K mg base b8 1 f fd ["_law_cabins","_law_waiting","_law_rider_here","_law_last"] (kI K):=by
 rwa[F.ok qk ↑8 ↑2]
 ·obtain ⟨c,w,x,cs,ws,r,last,xs,ys,rfl,_⟩:=h;rfl
 obtain ⟨c,w,x,cs,ws,r,last,xs,ys,rfl,hC,hd,hW,hw,hx,⟨cne,c10,w1⟩,q⟩:=h;obtain ⟨xa,rfl,hX⟩:=cB hx;have xl:xs.length=cs.length:=hd.len;have yl:ys.length=ws.length:=aT (f:=be.d) hw;have cp:0<cs.length:=List.length_pos_iff.mpr cne;erw[⟨_,(af (fM (i:=4) rfl qk.nd rfl ↑6 (aI (N':=["_law_k","_law_cabins"]) (pk:=[none,some 0]) ↑33) (cy rfl bA (ac (ax ↑32 rfl bh PySem.boot_len (ac (wv 0) ae)) ae)) (λC s H ex=>(aC (i:=0) (show List.Nodup (["_law_k","_law_cabins"]:List Str) by decide+kernel) rfl ↑6)) (λC s H ex=>(fO (az ↑10 (ak ↑4 (ak ↑4 (wv 1) (wv 0) ↑3) aa ↑3) aa (au _)))) (λC s H ex=>(wv 0))) (af (aJ (az ↑10 (ax ↑32 rfl bh PySem.boot_len (ac (wv 4) ae)) aa (au _)) (ag (aD (aP (ac (iG ir aa) (ac (wv 3) ae))))) aF) (af (aA (i:=5) qk.nd rfl ↑6 (aG ↑23 (aG ↑23 (aG ↑23 (aG ↑23 (wv 3) ↑13) (aG fv aa ↑13)) (ax ↑32 rfl bh PySem.boot_len ↑34)) (ax (He (K:=K) rfl rfl) rfl Gx boot_sum (ac (bD rfl (aI (N':=["_law_one"]) (pk:=[none]) ↑33) (bg (K:=K) rfl (wv 1)) (λC s H ex=>(aC (i:=0) (show List.Nodup (["_law_one"]:List Str) by decide+kernel) rfl ↑6)) ↑37 (λC s H ex=>↑11)) ae)))) (af (aA (i:=5) qk.nd rfl ↑6 (aG ↑23 (wv 5) (ax (He (K:=K) rfl rfl) rfl Gx boot_sum (ac (bD rfl (aI (N':=["_law_cabin_here"]) (pk:=[none]) ↑33) (bg (K:=K) rfl (wv 0)) ↑31 ↑37 (λC s H ex=>(aG ↑23 ↑11 (ax ↑32 rfl bh PySem.boot_len (ac ↑11 ae))))) ae)))) (af (aJ (az ↑10 (aG iu (wv 5) aa) aa (au _)) (ag (aD (aP (ac (iG ir aa) (ac (aG iu (aG ↑23 (wv 3) aa) (ax ↑32 rfl bh PySem.boot_len (ac (wv 0) ae))) ae))))) aF) (ag (aD (aP (ac (ak ↑4 (wv 4) (aG iu (wv 5) (ax ↑32 rfl bh PySem.boot_len (ac (wv 4) ae))) ↑3) (ac (aG iu (aG ↑23 (wv 3) (wv 5)) (ax ↑32 rfl bh PySem.boot_len (ac (wv 0) ae))) ae)))))))))),?_⟩];rwa[qj hC ?_];rw [xl];ext;rwa[⟨⟨by omega,by omega⟩,?_⟩]
 have hnn:((cs.length:Int)).toNat=cs.length:=by omega
 rwa[eV (λi zs HX=>HX=H/\zs=((uY cs i).map λi:Nat=>(i:Int)).map V.int) (bB ↑5) (λi zs HX p=>by obtain ⟨_,rfl⟩:=p;rw [List.length_map,List.length_map];unfold uY;exact Nat.le_trans (List.length_filter_le _ _) (by rw [List.length_range];exact Nat.le_refl _)) ⟨rfl,rfl⟩ (λi zs HX hi p=> ?_) (λzs HX p l nl=> ?_)]
 ·obtain ⟨rfl,rfl⟩:=p
  have hi:i<xs.length:=by omega
  obtain ⟨cb,hc,z⟩:=hd.get1 (List.getElem?_eq_getElem hi);obtain ⟨ca,cbb,ea,hcT⟩:=wz z;ext;erw[⟨bC,?_⟩];erw[IO hC (v:= .ref ca) (by rw [show (0:Int)+(i:Nat)=((i:Nat):Int) by omega,dE (List.getElem?_eq_getElem hi),ea]) ?_];rwa[ai hcT rfl ?_]
  have e:uY cs (i+1)=uY cs i++if cb.mr=0 then [i] else []:=by
   unfold uY;rw [List.range_succ,List.filter_append,List.filter_cons,List.filter_nil,hc];by_cases z:cb.mr=0
   ·rw [if_pos z,Option.map_some,z,if_pos ↑1]
   ·rw [if_neg z,Option.map_some,if_neg (by simp [z])]
  show if decide (cb.mr=0)=true then _ else _;by_cases z:cb.mr=0
  ·rw [if_pos (decide_eq_true z)];exact ⟨rfl,by rw [e,if_pos z,List.map_append,List.map_append];show _++[V.int (0+(i:Nat))]=_;rw [show (0:Int)+(i:Nat)=((i:Nat):Int) by omega];rfl⟩
  ·rw [if_neg (by rw [decide_eq_false z];decide)];exact ⟨rfl,by rw [e,if_neg z,List.append_nil]⟩
 obtain ⟨rfl,rfl⟩:=p;rw [hnn];have e1:upd HX l (.lst (((uY cs cs.length).map λi:Nat=>(i:Int)).map V.int)) l=some (.lst ((nN cs).map V.int)):=aj;have s1:ar HX (upd HX l (.lst (((uY cs cs.length).map λi:Nat=>(i:Int)).map V.int))):= .upd nl;generalize upd HX l (.lst (((uY cs cs.length).map λi:Nat=>(i:Int)).map V.int))=H1 at e1 s1 ⊢;ext;rwa[cr (aN.of e1) ?_];rw [List.length_map];unfold iN at q;rwa[hV (λz=> ?_) (λz=> ?_)]
 ·have z:(((nN cs).length:Nat):Int)=0:=z;rw [if_pos ↑5] at q;ext;exact bK ↑17 λt H2 s2 n2 e2=>q t H2 (s1.trans s2) e2
 have z: ¬(((nN cs).length:Nat):Int)=0:=z;rw [if_neg ↑5] at q;have s1C:aN K H1 c xs\/aK K H1 c xs:=hC.imp s1.seq s1.seqT;have s1W:aN K H1 w ys\/aK K H1 w ys:=hW.imp s1.seq s1.seqT;ext;erw[ai (s1.seqT hX) rfl ?_];erw[ai (s1.seqT hX) rfl ?_];erw[⟨fJ ↑1 ↑1,?_⟩];rwa[qj s1W ?_];rw [yl];ext;rwa[uL s1W (λi zs HX=>HX=H1/\zs=((ws.take i).map (·.lift)).map V.int) (bB ↑5) (λi zs HX p=>by obtain ⟨_,rfl⟩:=p;rw [List.length_map,List.length_map,List.length_take];omega) ⟨rfl,by rw [List.take_zero];rfl⟩ (λi zs HX hi p=>by rw [p.1];exact .refl _) (λi y zs HX hy p=> ?_) (λzs HX p l2 nl2=> ?_)]
 ·obtain ⟨rfl,rfl⟩:=p;obtain ⟨r',hr',dy⟩:=b6 (f:=be.d) hw hy;obtain ⟨ya,rfl,hY⟩:=cB (cI.same dy s1);ext;erw[⟨bC,?_⟩];rwa[ai hY rfl ?_];exact ⟨rfl,by rw [List.take_add_one,hr',List.map_append,List.map_append];rfl⟩
 obtain ⟨rfl,rfl⟩:=p;rw [yl,List.take_of_length_le ↑15];have e2:upd HX l2 (.lst ((ws.map (·.lift)).map V.int)) l2=some (.lst ((ws.map (·.lift)).map V.int)):=aj;have s2:ar HX (upd HX l2 (.lst ((ws.map (·.lift)).map V.int))):= .upd nl2;generalize upd HX l2 (.lst ((ws.map (·.lift)).map V.int))=H2 at e2 s2 ⊢;ext;erw[Hm (aN.of e2) ?_];have s2C:aN K H2 c xs\/aK K H2 c xs:=s1C.imp s2.seq s2.seqT;rwa[uL s2C (λi zs HX=>HX=H2/\zs=((cs.take i).map λc=>c.pl+(c.ps.length:Int)).map V.int) (bB ↑5) (λi zs HX p=>by obtain ⟨_,rfl⟩:=p;rw [List.length_map,List.length_map,List.length_take];omega) ⟨rfl,by rw [List.take_zero];rfl⟩ (λi zs HX hi p=>by rw [p.1];exact .refl _) (λi y zs HX hy p=> ?_) (λzs HX p l3 nl3=> ?_)]
 ·obtain ⟨rfl,rfl⟩:=p;obtain ⟨cb,hc,t,rfl,b,bs,et,eb,db⟩:=hd.get1 hy;have bl:=aT (f:=fb) db;have s12:=s1.trans s2;ext;erw[⟨bC,?_⟩];erw[ai (aK.of (s12 _ _ et)) rfl ?_];erw[ai (aK.of (s12 _ _ et)) rfl ?_];rwa[cY (aK.of (s12 _ _ eb)) ?_];exact ⟨rfl,by rw [List.take_add_one,hc,List.map_append,List.map_append];show _++[V.int (cb.pl+(bs.length:Int))]=_;rw [bl];rfl⟩
 obtain ⟨rfl,rfl⟩:=p;rw [xl,List.take_of_length_le ↑15];have e3:upd HX l3 (.lst ((cs.map λc=>c.pl+(c.ps.length:Int)).map V.int)) l3=some (.lst ((cs.map λc=>c.pl+(c.ps.length:Int)).map V.int)):=aj;have s3:ar HX (upd HX l3 (.lst ((cs.map λc=>c.pl+(c.ps.length:Int)).map V.int))):= .upd nl3;generalize upd HX l3 (.lst ((cs.map λc=>c.pl+(c.ps.length:Int)).map V.int))=H3 at e3 s3 ⊢;ext;rwa[Hm (aN.of e3) ?_];have s3C:aN K H3 c xs\/aK K H3 c xs:=s2C.imp s3.seq s3.seqT;have s03:=s1.trans (s2.trans s3);have e13:=s3 _ _ (s2 _ _ e1);have hm:last+r.tag+3*r.start+(ws.length:Int)+(ws.map (·.lift)).sum+(cs.map λc=>c.pl+(c.ps.length:Int)).sum=vZ cs ws r last:=rfl;ext;rwa[⟨by decide,?_⟩];rw [hm];rwa[hV (λz7=> ?_) (λz7=> ?_)]
 ·have z7:vZ cs ws r last% 7=0:=z7;rw [if_pos z7] at q;ext;rwa[qj s3C ?_];rw [xl];ext;erw[⟨by omega,?_⟩];exact bK ↑17 λt H4 s4 n4 e4=>q t H4 (s03.trans s4) e4
 ·have z7: ¬vZ cs ws r last% 7=0:=z7;rw [if_neg z7] at q;ext;rwa[cr (aN.of e13) ?_];rw [List.length_map];ext;erw[⟨by omega,?_⟩];have a0:0<=vZ cs ws r last% ((nN cs).length:Int):=Int.emod_nonneg _ ↑5;have a1:vZ cs ws r last% ((nN cs).length:Int)<((nN cs).length:Int):=Int.emod_lt_of_pos _ ↑5;erw[bi (aN.of e13) (tJ a0 a1) ?_];rwa[qj s3C ?_];rw [xl];ext;erw[⟨by omega,?_⟩];exact bK ↑17 λt H4 s4 n4 e4=>q t H4 (s03.trans s4) e4
abbrev tTwice:Str:=Str.ofString "twice"
def Dw.v:Dw->List V
 | .floor i=>[.str lH,.int i]
 | .lift i=>[.str ue,.int i]
 | .ride=>[.str zU,.int 0]
 | .twice i=>[.str tTwice,.int i]
 | .good=>[.str Cu,.int 0]
def Dw.d:Dw->D
 | .floor i=> .tup [.str lH,.int i]
 | .lift i=> .tup [.str ue,.int i]
 | .ride=> .tup [.str zU,.int 0]
 | .twice i=> .tup [.str tTwice,.int i]
 | .good=> .tup [.str Cu,.int 0]
theorem Dw.den {H:Hp}{r:Addr}{u:Dw}(h:H r=some (.tup u.v)):cI K H (.ref r) u.d:=by
 cases u<;>exact ez (aK.of h) (.cons (.str _) (.cons (.int _) .nil))
structure HL (K:Fg)(D:Addr)(b:String)(aU ba bW bI fD fE dZ cU iJ fC iK dY:Addr):Prop where
 tNoFloor:W.kitOne K (.ref D) (.ref aU)=some ("NoFloor"==b)
 tNoLift:W.kitOne K (.ref D) (.ref ba)=some ("NoLift"==b)
 tTwice:W.kitOne K (.ref D) (.ref bW)=some ("Twice"==b)
 tNoRide:W.kitOne K (.ref D) (.ref bI)=some ("NoRide"==b)
 tNoDeed:W.kitOne K (.ref D) (.ref fD)=some ("NoDeed"==b)
 tNoDeal:W.kitOne K (.ref D) (.ref fE)=some ("NoDeal"==b)
 tNoHouse:W.kitOne K (.ref D) (.ref dZ)=some ("NoHouse"==b)
 tNoRule:W.kitOne K (.ref D) (.ref cU)=some ("NoRule"==b)
 tNoIll:W.kitOne K (.ref D) (.ref iJ)=some ("NoIll"==b)
 tNoLine:W.kitOne K (.ref D) (.ref fC)=some ("NoLine"==b)
 tEmpty:W.kitOne K (.ref D) (.ref iK)=some ("Empty"==b)
 tTooMany:W.kitOne K (.ref D) (.ref dY)=some ("TooMany"==b)
 tVE:W.kitOne K (.ref D) (.type "ValueError")=some true
 ek:yb K D
def ML (kF kL kR kT:Addr)(H:Hp)(e:Addr):Dw->Prop
 | .floor i=>∃d,H e=some (ji e (.ref kF) (some d))/\H d=some (.xd [(Str.ofString "floor",.int i)])
 | .lift i=>∃d,H e=some (ji e (.ref kL) (some d))/\H d=some (.xd [(Str.ofString "lift",.int i)])
 | .twice i=>∃d,H e=some (ji e (.ref kT) (some d))/\H d=some (.xd [(Str.ofString "tag",.int i)])
 | .ride=>H e=some (ji e (.ref kR) none)
 | .good=>False
inductive u3 (kF kL kR kT:Addr)(vs:List V)(H:Hp)(Q:VK)(_e:XK):Prop
 |mk (e u:_) (_:vs=[.ref e]) (_:ML kF kL kR kT H e u) (_:∀r H',ar H H'->H' r=some (.tup (Dw.v u))->Q (.ref r) H')
unseal qz in
theorem B7 {K:Fg}{fl:Str}{a D d:Addr}{fs:List (Str×V)}{v:V}{H:Hp}{Q:VK}(h1:H a=some (ji a (.ref D) (some d)))(h2:H d=some (.xd fs))(h3:yb K D)(h4:W.hasDictIn K D=true)(h5:W.findIn K (.ref D) fl=some none)(h6:fs.lookup fl=some v)(g:Q v H):qz K fl a H Q:=⟨D,d,fs,v,h1,h2,h3,h4,h5,h6,g⟩
theorem Gc {aU ba bW bI fD fE dZ cU iJ fC iK dY:Addr}(F:bY K "_law_name" "_law_name" yR f fd)(aM:mg "isinstance"=none)(jY:mg "ValueError"=none)(bh:mg "len"=none)(m8:mg "NoFloor"=some (.ref aU))(qp:mg "NoLift"=some (.ref ba))(wn:mg "Twice"=some (.ref bW))(kK:mg "NoRide"=some (.ref bI))(wr:mg "NoDeed"=some (.ref fD))(wt:mg "NoDeal"=some (.ref fE))(se:mg "NoHouse"=some (.ref dZ))(kJ:mg "NoRule"=some (.ref cU))(zB:mg "NoIll"=some (.ref iJ))(wq:mg "NoLine"=some (.ref fC))(zC:mg "Empty"=some (.ref iK))(sd:mg "TooMany"=some (.ref dY))(tF:HL K aU "NoFloor" aU ba bW bI fD fE dZ cU iJ fC iK dY)(tL:HL K ba "NoLift" aU ba bW bI fD fE dZ cU iJ fC iK dY)(tR:HL K bI "NoRide" aU ba bW bI fD fE dZ cU iJ fC iK dY)(tT:HL K bW "Twice" aU ba bW bI fD fE dZ cU iJ fC iK dY)(oN:W.hasDictIn K aU=true)(rZ:W.hasDictIn K ba=true)(wm:W.hasDictIn K bW=true)(fL:W.findIn K (.ref bW) "tag"=some none)(dq:W.findIn K (.ref aU) "floor"=some none)(ef:W.findIn K (.ref ba) "lift"=some none)(dD:bO P w K mg base 1 "_law_whole" ["_law_thing"] fN):aQ P w K mg base b8 2 f fd ["_law_error"] (u3 aU ba bI bW):=by
 rwa[F.ok zY ↑8 ↑2]
 ·obtain ⟨e,u,rfl,_⟩:=h;rfl
 obtain ⟨e,u,rfl,hX,q⟩:=h;erw[⟨_,(af (aA (i:=1) zY.nd rfl ↑6 (cZ ae)) (af (aJ (bt (K:=K) rfl (ax (eh (K:=K) rfl) rfl aM boot_isinstance (ac (wv 0) (ac (dU rfl m8) ae)))) (ag (aH (cz (K:=K) rfl PySem.F.plainAttrs_list PySem.F.slot_list_append PySem.F.type_list_append bw (wv 1) (ac (aP (ac aq (ac (vS (K:=K) rfl (wv 0)) ae))) ae)))) aF) (af (aJ (bt (K:=K) rfl (ax (eh (K:=K) rfl) rfl aM boot_isinstance (ac (wv 0) (ac (dU rfl qp) ae)))) (ag (aH (cz (K:=K) rfl PySem.F.plainAttrs_list PySem.F.slot_list_append PySem.F.type_list_append bw (wv 1) (ac (aP (ac aq (ac (vS (K:=K) rfl (wv 0)) ae))) ae)))) aF) (af (aJ (bt (K:=K) rfl (ax (eh (K:=K) rfl) rfl aM boot_isinstance (ac (wv 0) (ac (dU rfl wn) ae)))) (ag (aH (cz (K:=K) rfl PySem.F.plainAttrs_list PySem.F.slot_list_append PySem.F.type_list_append bw (wv 1) (ac (aP (ac aq (ac (vS (K:=K) rfl (wv 0)) ae))) ae)))) aF) (af (aJ (bt (K:=K) rfl (ax (eh (K:=K) rfl) rfl aM boot_isinstance (ac (wv 0) (ac (dU rfl kK) ae)))) ↑22 aF) (af (aJ (bt (K:=K) rfl (ax (eh (K:=K) rfl) rfl aM boot_isinstance (ac (wv 0) (ac (dU rfl wr) ae)))) ↑22 aF) (af (aJ (bt (K:=K) rfl (ax (eh (K:=K) rfl) rfl aM boot_isinstance (ac (wv 0) (ac (dU rfl wt) ae)))) ↑22 aF) (af (aJ (PW.pt (cG (bt (K:=K) rfl (ax (eh (K:=K) rfl) rfl aM boot_isinstance (ac (wv 0) (ac (dU rfl se) ae)))) (cG (bt (K:=K) rfl (ax (eh (K:=K) rfl) rfl aM boot_isinstance (ac (wv 0) (ac (dU rfl kJ) ae)))) (cu (bt (K:=K) rfl (ax (eh (K:=K) rfl) rfl aM boot_isinstance (ac (wv 0) (ac (dU rfl zB) ae)))))))) ↑22 aF) (af (aJ (PW.pt (cG (bt (K:=K) rfl (ax (eh (K:=K) rfl) rfl aM boot_isinstance (ac (wv 0) (ac (dU rfl wq) ae)))) (cG (bt (K:=K) rfl (ax (eh (K:=K) rfl) rfl aM boot_isinstance (ac (wv 0) (ac (dU rfl zC) ae)))) (cu (bt (K:=K) rfl (ax (eh (K:=K) rfl) rfl aM boot_isinstance (ac (wv 0) (ac (dU rfl sd) ae)))))))) ↑22 aF) (af (aJ (PW.pt (cG (az (gv (K:=K) rfl hr) (ax ↑32 rfl bh PySem.boot_len ↑34) aa (au _)) (cG (de (bt (K:=K) rfl (ax (eh (K:=K) rfl) rfl aM boot_isinstance (ac (wv 0) (ac (gz (v:= .ty "ValueError") rfl jY PyProof.Rows.Boot.«ValueError» rfl) ae))))) (cu (de (bt (K:=K) rfl (ao dD hr ↑1 rfl (ac (ak ↑4 ↑14 aa ↑3) ae)))))))) (ag (aD (aP (ac aq (ac aa ae))))) aF) (ag (aD ↑14)))))))))))),?_⟩];rwa[iI ↑35 λl H1 s1 n1 e1=> ?_]
 cases u with
 |floor i=>
  obtain ⟨d,x0,d0⟩:=hX;have x1:=s1 _ _ x0;have d1:=s1 _ _ d0;ext;erw[aS x1 d1 tF.ek rfl tF.tNoFloor ?_];erw[bj rfl ?_];erw[⟨.inl ⟨rfl,_,aN.of e1⟩,?_⟩];erw[B7 x1 d1 tF.ek oN dq rfl ?_];erw[bK ↑17 λtp H2 s2 n2 e2=> ?_];rwa[dM (s2 _ _ e1) (nL (by show 0<1000000;decide)) ?_];have sm:ar H (upd H2 l (.lst ([]++[.ref tp]))):=ar.updF (s1.trans s2) n1;have x2:=sm _ _ x0;have d2:=sm _ _ d0;have l2:upd H2 l (.lst ([]++[.ref tp])) l=some (.lst [.ref tp]):=aj
  have ltp:tp≠l:=λz=>by rw [z] at n2;rw [n2] at e1;cases e1
  have t2:upd H2 l (.lst ([]++[.ref tp])) tp=some (.tup [.str lH,.int i]):=by rw [am ltp];exact e2
  ext;erw[aS x2 d2 tF.ek rfl tF.tNoLift ?_];erw[aB rfl ?_];erw[aS x2 d2 tF.ek rfl tF.tTwice ?_];erw[aB rfl ?_];erw[aS x2 d2 tF.ek rfl tF.tNoRide ?_];erw[aB rfl ?_];erw[aS x2 d2 tF.ek rfl tF.tNoDeed ?_];erw[aB rfl ?_];erw[aS x2 d2 tF.ek rfl tF.tNoDeal ?_];erw[aB rfl ?_];erw[aS x2 d2 tF.ek rfl tF.tNoHouse ?_];erw[aB rfl ?_];erw[aS x2 d2 tF.ek rfl tF.tNoRule ?_];erw[aB rfl ?_];erw[aS x2 d2 tF.ek rfl tF.tNoIll ?_];erw[aB rfl ?_];erw[aS x2 d2 tF.ek rfl tF.tNoLine ?_];erw[aB rfl ?_];erw[aS x2 d2 tF.ek rfl tF.tEmpty ?_];erw[aB rfl ?_];erw[aS x2 d2 tF.ek rfl tF.tTooMany ?_];erw[aB rfl ?_];erw[cr (aN.of l2) ?_];erw[aB rfl ?_];erw[aS x2 d2 tF.ek rfl tF.tVE ?_];erw[aB rfl ?_];erw[bi (aN.of l2) rfl ?_];erw[ai (aK.of t2) rfl ?_];erw[fN.mk _ rfl ?_];erw[aB rfl ?_];rwa[bi (aN.of l2) rfl ?_];exact q tp _ sm t2
 |lift i=>
  obtain ⟨d,x0,d0⟩:=hX;have x1:=s1 _ _ x0;have d1:=s1 _ _ d0;ext;erw[aS x1 d1 tL.ek rfl tL.tNoFloor ?_];erw[aB rfl ?_];erw[aS x1 d1 tL.ek rfl tL.tNoLift ?_];erw[bj rfl ?_];erw[⟨.inl ⟨rfl,_,aN.of e1⟩,?_⟩];erw[B7 x1 d1 tL.ek rZ ef rfl ?_];erw[bK ↑17 λtp H2 s2 n2 e2=> ?_];rwa[dM (s2 _ _ e1) (nL (by show 0<1000000;decide)) ?_];have sm:ar H (upd H2 l (.lst ([]++[.ref tp]))):=ar.updF (s1.trans s2) n1;have x2:=sm _ _ x0;have d2:=sm _ _ d0;have l2:upd H2 l (.lst ([]++[.ref tp])) l=some (.lst [.ref tp]):=aj
  have ltp:tp≠l:=λz=>by rw [z] at n2;rw [n2] at e1;cases e1
  have t2:upd H2 l (.lst ([]++[.ref tp])) tp=some (.tup [.str ue,.int i]):=by rw [am ltp];exact e2
  ext;erw[aS x2 d2 tL.ek rfl tL.tTwice ?_];erw[aB rfl ?_];erw[aS x2 d2 tL.ek rfl tL.tNoRide ?_];erw[aB rfl ?_];erw[aS x2 d2 tL.ek rfl tL.tNoDeed ?_];erw[aB rfl ?_];erw[aS x2 d2 tL.ek rfl tL.tNoDeal ?_];erw[aB rfl ?_];erw[aS x2 d2 tL.ek rfl tL.tNoHouse ?_];erw[aB rfl ?_];erw[aS x2 d2 tL.ek rfl tL.tNoRule ?_];erw[aB rfl ?_];erw[aS x2 d2 tL.ek rfl tL.tNoIll ?_];erw[aB rfl ?_];erw[aS x2 d2 tL.ek rfl tL.tNoLine ?_];erw[aB rfl ?_];erw[aS x2 d2 tL.ek rfl tL.tEmpty ?_];erw[aB rfl ?_];erw[aS x2 d2 tL.ek rfl tL.tTooMany ?_];erw[aB rfl ?_];erw[cr (aN.of l2) ?_];erw[aB rfl ?_];erw[aS x2 d2 tL.ek rfl tL.tVE ?_];erw[aB rfl ?_];erw[bi (aN.of l2) rfl ?_];erw[ai (aK.of t2) rfl ?_];erw[fN.mk _ rfl ?_];erw[aB rfl ?_];rwa[bi (aN.of l2) rfl ?_];exact q tp _ sm t2
 |twice i=>
  obtain ⟨d,x0,d0⟩:=hX;have x1:=s1 _ _ x0;have d1:=s1 _ _ d0;ext;erw[aS x1 d1 tT.ek rfl tT.tNoFloor ?_];erw[aB rfl ?_];erw[aS x1 d1 tT.ek rfl tT.tNoLift ?_];erw[aB rfl ?_];erw[aS x1 d1 tT.ek rfl tT.tTwice ?_];erw[bj rfl ?_];erw[⟨.inl ⟨rfl,_,aN.of e1⟩,?_⟩];erw[B7 x1 d1 tT.ek wm fL rfl ?_];erw[bK ↑17 λtp H2 s2 n2 e2=> ?_];rwa[dM (s2 _ _ e1) (nL (by show 0<1000000;decide)) ?_];have sm:ar H (upd H2 l (.lst ([]++[.ref tp]))):=ar.updF (s1.trans s2) n1;have x2:=sm _ _ x0;have d2:=sm _ _ d0;have l2:upd H2 l (.lst ([]++[.ref tp])) l=some (.lst [.ref tp]):=aj
  have ltp:tp≠l:=λz=>by rw [z] at n2;rw [n2] at e1;cases e1
  have t2:upd H2 l (.lst ([]++[.ref tp])) tp=some (.tup [.str tTwice,.int i]):=by rw [am ltp];exact e2
  ext;erw[aS x2 d2 tT.ek rfl tT.tNoRide ?_];erw[aB rfl ?_];erw[aS x2 d2 tT.ek rfl tT.tNoDeed ?_];erw[aB rfl ?_];erw[aS x2 d2 tT.ek rfl tT.tNoDeal ?_];erw[aB rfl ?_];erw[aS x2 d2 tT.ek rfl tT.tNoHouse ?_];erw[aB rfl ?_];erw[aS x2 d2 tT.ek rfl tT.tNoRule ?_];erw[aB rfl ?_];erw[aS x2 d2 tT.ek rfl tT.tNoIll ?_];erw[aB rfl ?_];erw[aS x2 d2 tT.ek rfl tT.tNoLine ?_];erw[aB rfl ?_];erw[aS x2 d2 tT.ek rfl tT.tEmpty ?_];erw[aB rfl ?_];erw[aS x2 d2 tT.ek rfl tT.tTooMany ?_];erw[aB rfl ?_];erw[cr (aN.of l2) ?_];erw[aB rfl ?_];erw[aS x2 d2 tT.ek rfl tT.tVE ?_];erw[aB rfl ?_];erw[bi (aN.of l2) rfl ?_];erw[ai (aK.of t2) rfl ?_];erw[fN.mk _ rfl ?_];erw[aB rfl ?_];rwa[bi (aN.of l2) rfl ?_];exact q tp _ sm t2
 |ride=>
  have x0:H e=some (ji e (.ref bI) none):=hX;have x1:=s1 _ _ x0;ext;erw[d3 x1 tR.ek rfl tR.tNoFloor ?_];erw[aB rfl ?_];erw[d3 x1 tR.ek rfl tR.tNoLift ?_];erw[aB rfl ?_];erw[d3 x1 tR.ek rfl tR.tTwice ?_];erw[aB rfl ?_];erw[d3 x1 tR.ek rfl tR.tNoRide ?_];erw[bj rfl ?_];erw[⟨.inl ⟨rfl,_,aN.of e1⟩,?_⟩];erw[bK ↑17 λtp H2 s2 n2 e2=> ?_];rwa[dM (s2 _ _ e1) (nL (by show 0<1000000;decide)) ?_];have sm:ar H (upd H2 l (.lst ([]++[.ref tp]))):=ar.updF (s1.trans s2) n1;have x2:=sm _ _ x0;have l2:upd H2 l (.lst ([]++[.ref tp])) l=some (.lst [.ref tp]):=aj
  have ltp:tp≠l:=λz=>by rw [z] at n2;rw [n2] at e1;cases e1
  have t2:upd H2 l (.lst ([]++[.ref tp])) tp=some (.tup [.str zU,.int 0]):=by rw [am ltp];exact e2
  ext;erw[d3 x2 tR.ek rfl tR.tNoDeed ?_];erw[aB rfl ?_];erw[d3 x2 tR.ek rfl tR.tNoDeal ?_];erw[aB rfl ?_];erw[d3 x2 tR.ek rfl tR.tNoHouse ?_];erw[aB rfl ?_];erw[d3 x2 tR.ek rfl tR.tNoRule ?_];erw[aB rfl ?_];erw[d3 x2 tR.ek rfl tR.tNoIll ?_];erw[aB rfl ?_];erw[d3 x2 tR.ek rfl tR.tNoLine ?_];erw[aB rfl ?_];erw[d3 x2 tR.ek rfl tR.tEmpty ?_];erw[aB rfl ?_];erw[d3 x2 tR.ek rfl tR.tTooMany ?_];erw[aB rfl ?_];erw[cr (aN.of l2) ?_];erw[aB rfl ?_];erw[d3 x2 tR.ek rfl tR.tVE ?_];erw[aB rfl ?_];erw[bi (aN.of l2) rfl ?_];erw[ai (aK.of t2) rfl ?_];erw[fN.mk _ rfl ?_];erw[aB rfl ?_];rwa[bi (aN.of l2) rfl ?_];exact q tp _ sm t2
 |good=>exact hX.elim
inductive EW (P:Program)(w:World)(K:Fg)(mg:Str->Option Value)(base:Heap)(kF kL kR kT:Addr)(H:Hp)(a st:Addr)(hs:Hs)(wf:Wf)(cs:List Cb)(ws:List be)(last:Int)(fire:Bool):Prop
 |mk (C dx h ru df:_) (_:H a=some (.ins C dx (oR h ru df))) (_:HR K C) (_:pD P w K mg base (nK P w) 9 "turn" C (qF P w K mg base kF kL kR kT pZ iN)) (_:jE K H h hs) (_:EN P w K mg base H ru wf) (_:qf P w K mg base 5 df (qN K pZ iN)) (_:gk K H st cs ws last fire) (_:mI hs ws.length ⟨cs,ws,last,fire,0,[]⟩)
theorem EW.same {kF kL kR kT:Addr}{H H':Hp}{a st:Addr}{hs:Hs}{wf:Wf}{cs:List Cb}{ws:List be}{last:Int}{fire:Bool}(c:EW P w K mg base kF kL kR kT H a st hs wf cs ws last fire)(s:ar H H'):EW P w K mg base kF kL kR kT H' a st hs wf cs ws last fire:=by
 obtain ⟨C,dx,h,ru,df,h1,h2,h3,h4,h5,h6,h7,h8⟩:=c;exact ⟨C,dx,h,ru,df,s _ _ h1,h2,h3,h4.same s,h5.same s,h6,h7.keep s.st,h8⟩
theorem kA.ok {H:Hp}{p:Addr}{ds:List Dd}(h:kA K H p ds):∀d∈ds,d.ok:=λd hd=>by
 obtain ⟨xs,h1,h2⟩:=h;obtain ⟨i,hi⟩:=List.mem_iff_getElem?.mp hd;obtain ⟨x,hx,ad,_,hdd⟩:=h2.get2 hi;exact hdd.2
theorem I9 {hs:Hs}{cs:List Cb}{ws:List be}{last:Int}{fire:Bool}{ds:List Dd}(o:mI hs ws.length ⟨cs,ws,last,fire,0,[]⟩)(ho:hs.ok)(hok:∀d∈ds,d.ok)(hb:bv hs.fl hs.ls.length (bM cs ws) ds= .good)(hl:ws.length+ds.length<=64)(W:List be)(i:Nat)(r:be):pZ (bu iN W i ↑43).cs (bu iN W i ↑43).ws r (bu iN W i ↑43).last:=by
 have z:=o.deeds (λd hd=>⟨hok d hd,nv hb d hd⟩) ds.length;rw [List.take_length] at z;generalize bJ hs.lo ⟨cs,ws,last,fire,0,[]⟩ ds=M at z ⊢;have y:=fI (dl:=iN) (W:=W) (M:=M) i;have z1:=z.len;have z2:=z.sum;have l1:=ho.l1;have l3:=ho.l3;rwa[⟨λe=> ?_,by rw [y.2.1];omega,by rw [y.1];omega⟩];rw [y.2.1] at e;rw [e] at z1;have:(0:Nat)=hs.ls.length:=z1;omega
inductive CB (P:Program)(w:World)(K:Fg)(mg:Str->Option Value)(base:Heap)(kF kL kR kT:Addr)(vs:List V)(H:Hp)(Q:VK)(_e:XK):Prop
 |mk (a st dp t hs wf cs ws last fire ds:_) (_:vs=[.ref a,.ref st,.ref dp,.ref t]) (_:EW P w K mg base kF kL kR kT H a st hs wf cs ws last fire) (_:kA K H dp ds) (_:ws.length+ds.length<=64) (_:bv hs.fl hs.ls.length (bM cs ws) ds≠ .good) (_:H t=some (.tup (bv hs.fl hs.ls.length (bM cs ws) ds).v)) (_:∀H',ar H H'->Q (.bl true) H')
def Pn (kF kL kR kT:Addr)(H:Hp)(cls:Value)(dd:Option Addr):Dw->Prop
 | .floor i=>cls= .ref kF/\∃d,dd=some d/\H d=some (.xd [(Str.ofString "floor",.int i)])
 | .lift i=>cls= .ref kL/\∃d,dd=some d/\H d=some (.xd [(Str.ofString "lift",.int i)])
 | .twice i=>cls= .ref kT/\∃d,dd=some d/\H d=some (.xd [(Str.ofString "tag",.int i)])
 | .ride=>cls= .ref kR/\dd=none
 | .good=>False
theorem Hk {kF kL kR kT:Addr}{H:Hp}{a st dp:Addr}{C dx h ru df:Addr}{hs:Hs}{wf:Wf}{cs:List Cb}{ws:List be}{last:Int}{fire:Bool}{ds:List Dd}{Q:VK}{E:XK}(h1:H a=some (.ins C dx (oR h ru df)))(h2:HR K C)(h4:jE K H h hs)(h5:EN P w K mg base H ru wf)(h6:qf P w K mg base 5 df (qN K pZ iN))(h7:gk K H st cs ws last fire)(h8:mI hs ws.length ⟨cs,ws,last,fire,0,[]⟩)(hd:kA K H dp ds)(hl:ws.length+ds.length<=64)
(g:bv hs.fl hs.ls.length (bM cs ws) ds= .good->∀r st' ll zs M' H',ar H H'->H' r=some (.tup [.ref st',.ref ll])->gk K H' st' M'.cs M'.ws M'.last M'.fire->H ll=none->H' ll=some (.lst zs)->aO K H' zs M'.log->noLs M'.log=true->KC hs wf hs.ls.length (jd iN ↑43) M'->Q (.ref r) H')
(b:bv hs.fl hs.ls.length (bM cs ws) ds≠ .good->zL kF kL kR kT H (λ_ _=>False) E (bv hs.fl hs.ls.length (bM cs ws) ds)):qF P w K mg base kF kL kR kT pZ iN [.ref a,.ref st,.ref dp] H Q E:=
 ⟨a,st,dp,C,dx,h,ru,df,hs,wf,cs,ws,last,fire,ds,rfl,h1,h2,h4,h5,h6,h7,hd,h8,hl,λhb _ i r _ _=>I9 h8 h4.1 hd.ok hb hl _ i r,g,b⟩
theorem Jw {kF kL kR kT kCE:Addr}(F:bY K "_law_refused" "_law_refused" om f fd)(bU:mg "CourtError"=some (.ref kCE))(ke:zQ K kCE)(cF:dm K (.ref kF) kCE)(cL:dm K (.ref kL) kCE)(cR:dm K (.ref kR) kCE)(cT:dm K (.ref kT) kCE)(oY:bO P w K mg base 2 "_law_name" ["_law_error"] (u3 kF kL kR kT)):aQ P w K mg base b8 10 f fd ["_law_court","_law_state_here","_law_deeds","_law_due_here"] (CB P w K mg base kF kL kR kT):=by
 rwa[F.ok iW ↑8 ↑2]
 ·obtain ⟨a,st,dp,t,hs,wf,cs,ws,last,fire,ds,rfl,_⟩:=h;rfl
 obtain ⟨a,st,dp,t,hs,wf,cs,ws,last,fire,ds,rfl,⟨C,dx,h,ru,df,h1,h2,h3,h4,h5,h6,h7,h8⟩,hd,hl,hb,et,q⟩:=h;rwa[⟨_,(af (aA (i:=4) iW.nd rfl ↑6 jR) (fP (AM (j:=5) rfl rfl ke rfl bU iW.nd rfl rfl (Dh (FO (n:=9) rfl hr ↑1 (wv 0) (ac (wv 1) (ac (wv 2) ae)))) (λa=>(ag (aA (i:=4) iW.nd rfl ↑6 (wv 5))))) (ag (aD (ib (ce Cf (wv 4) jR (au _)) (jQ (ce ↑10 (ao oY hr ↑1 rfl (ac (wv 4) ae)) (wv 3) (au _)))))))),?_⟩];generalize hu:bv hs.fl hs.ls.length (bM cs ws) ds=u at *;ext;rwa[qc (λσ H'=>ar H H'/\∃e,σ=[some (.ref a),some (.ref st),some (.ref dp),some (.ref t),some (.ref e),none]/\ML kF kL kR kT H' e u) ?_ ?_]
 ·rwa[⟨λcls dd H1=>ar H H1/\Pn kF kL kR kT H1 cls dd u,?_,?_⟩]
  ·ext;erw[mY h1 rfl h3 ?_];rwa[Hk h1 h2 h4 h5 h6 h7 h8 hd hl (λz=>absurd (hu.symm.trans z) hb) λ_=> ?_];rw [hu]
   cases u with
   |good=>exact absurd rfl hb
   |floor i=>exact λd H' sm ed=>⟨sm,rfl,d,rfl,ed⟩
   |lift i=>exact λd H' sm ed=>⟨sm,rfl,d,rfl,ed⟩
   |twice i=>exact λd H' sm ed=>⟨sm,rfl,d,rfl,ed⟩
   |ride=>exact λH' sm=>⟨sm,rfl,rfl⟩
  ·rintro cls dd H1 ⟨sm,xm⟩;have fin:∀(cls:Value) (dd:Option Addr),dm K cls kCE->(∀e,H1 e=none->ML kF kL kR kT (upd H1 e (ji e cls dd)) e u)->dm K cls kCE/\∀e,H1 e=none->ar H (upd H1 e (ji e cls dd))/\ML kF kL kR kT (upd H1 e (ji e cls dd)) e u:=λcls dd c g=>⟨c,λe ne=>⟨sm.trans (.upd ne),g e ne⟩⟩
   have got:dm K cls kCE/\∀e,H1 e=none->ar H (upd H1 e (ji e cls dd))/\ML kF kL kR kT (upd H1 e (ji e cls dd)) e u:=by
    cases u with
    |good=>exact xm.elim
    |floor i=>
     obtain ⟨rfl,d,rfl,ed⟩:=xm;exact fin _ _ cF λe ne=>⟨d,aj,by rw [am (λz=>by rw [z,ne] at ed;cases ed)];exact ed⟩
    |lift i=>
     obtain ⟨rfl,d,rfl,ed⟩:=xm;exact fin _ _ cL λe ne=>⟨d,aj,by rw [am (λz=>by rw [z,ne] at ed;cases ed)];exact ed⟩
    |twice i=>
     obtain ⟨rfl,d,rfl,ed⟩:=xm;exact fin _ _ cT λe ne=>⟨d,aj,by rw [am (λz=>by rw [z,ne] at ed;cases ed)];exact ed⟩
    |ride=>
     obtain ⟨rfl,rfl⟩:=xm;exact fin _ _ cR λe ne=>aj
   erw[⟨got.1,λe ne=> ?_⟩];obtain ⟨g1,g2⟩:=got.2 e ne;exact ⟨g1,e,rfl,g2⟩
 rintro σ' H' ⟨sm,e,rfl,hx⟩;ext;erw[bj rfl ?_];erw[u3.mk _ _ rfl hx λr H2 s2 e2=> ?_];rwa[oQ (Dw.den e2) (Dw.den (s2 _ _ (sm _ _ et))) (by cases u<;>simp [Dw.d,jF,deps]) ?_];exact q H2 (sm.trans s2)
theorem Iw {x y j:Int}(h0:0<=j)(h1:j<2):∃v:Int,ly [V.int x,.int y] j=some (.int v):=by
 rcases (show j=0\/j=1 by omega) with rfl|rfl<;>exact ⟨_,rfl⟩
theorem Cs {x y z j:Int}(h0:0<=j)(h1:j<3):∃v:Int,ly [V.int x,.int y,.int z] j=some (.int v):=by
 rcases (show j=0\/j=1\/j=2 by omega) with rfl|rfl|rfl<;>exact ⟨_,rfl⟩
theorem IN {j:Int}(h0:0<=j)(h1:j<6):∃x:Str,ly [V.str (Str.ofString "block"),.str (Str.ofString "stick"),.str (Str.ofString "free"),.str (Str.ofString "goods"),.str (Str.ofString "back"),.str (Str.ofString "stick")] j=some (.str x)/\Dd.ok (.lf x 0):=by
 rcases (show j=0\/j=1\/j=2\/j=3\/j=4\/j=5 by omega) with rfl|rfl|rfl|rfl|rfl|rfl
 ·exact ⟨_,rfl,.inl rfl⟩
 ·exact ⟨_,rfl,.inr (.inl rfl)⟩
 ·exact ⟨_,rfl,.inr (.inr (.inl rfl))⟩
 ·exact ⟨_,rfl,.inr (.inr (.inr (.inl rfl)))⟩
 ·exact ⟨_,rfl,.inr (.inr (.inr (.inr rfl)))⟩
 ·exact ⟨_,rfl,.inr (.inl rfl)⟩
theorem Kf {j:Int}(h0:0<=j)(h1:j<2):∃x:Str,ly [V.str (Str.ofString "fire"),.str (Str.ofString "calm")] j=some (.str x)/\Dd.ok (.sg x):=by
 rcases (show j=0\/j=1 by omega) with rfl|rfl
 ·exact ⟨_,rfl,.inl rfl⟩
 ·exact ⟨_,rfl,.inr rfl⟩
inductive va (K:Fg)(vs:List V)(H:Hp)(Q:VK)(_e:XK):Prop
 |mk (a ns k h hs st cs ws last fire:_) (_:vs=[.ref a,.int k,.ref h,.ref st]) (_:zM K H a ns) (_:2<=k) (_:k<1000) (_:jE K H h hs) (_:gk K H st cs ws last fire) (_:ws.length<=64) (_:(∀c∈cs,c.ps.length<=64)) (_:cs.length<=10) (_:∀t d H',ar H H'->jv H' t d->Q (.ref t) H')
theorem DL (F:bY K "_law_deed" "_law_deed" yW f fd)(bh:mg "len"=none)(aE:bO P w K mg base 2 "_law_draw" ["_law_script","_law_k","_law_prime","_law_many"] (cq K))(eL:bO P w K mg base 3 "_law_tag" ["_law_script","_law_number"] (pJ K)):aQ P w K mg base b8 4 f fd ["_law_script","_law_at","_law_house_here","_law_state_here"] (va K):=by
 rwa[F.ok eO ↑8 ↑2]
 ·obtain ⟨a,ns,k,h,hs,st,cs,ws,last,fire,rfl,_⟩:=h;rfl
 obtain ⟨a,ns,k,h,hs,st,cs,ws,last,fire,rfl,hS,k2,k1,⟨ho,p,ls,hh,hp,hl⟩,⟨tc,tw,xs,ys,h1,h2,h3,h4,h5⟩,wl,c64,cl,q⟩:=h
 have k0:0<=k:=by omega
 have f2:=ho.f2;have l1:=ho.l1;have ll:ls.length=hs.ls.length:=hl.len;have yl:ys.length=ws.length:=aT h5;have xl:xs.length=cs.length:=h4.len;generalize hfl:hs.fl=fl at *;generalize hlo:hs.lo=lo at *;generalize hso:hs.so=so at *;erw[⟨_,(af (aA (i:=4) eO.nd rfl ↑6 ↑18) (af (aA (i:=5) eO.nd rfl ↑6 (ao aE hr ↑1 rfl (ac (wv 0) (ac (wv 1) (ac aa (ac (ax ↑32 rfl bh PySem.boot_len (ac ↑13 ae)) ae)))))) (af (aA (i:=6) eO.nd rfl ↑6 (ao aE hr ↑1 rfl (ac (wv 0) (ac (wv 1) (ac aa (ac ↑13 ae)))))) (af (aA (i:=7) eO.nd rfl ↑6 (aG iu (aG ↑23 (aG ↑23 (wv 6) aa) (ao aE hr ↑1 rfl (ac (wv 0) (ac (wv 1) (ac aa (ac (aG eX ↑13 aa) ae)))))) ↑13)) (af (aA (i:=8) eO.nd rfl ↑6 (ao eL hr ↑1 rfl (ac (wv 0) (ac (aG eX (wv 1) aa) ae)))) (af (aA (i:=9) eO.nd rfl ↑6 ↑18) (fP (aJ (az ↑10 (wv 9) aa (au _)) (af (aA (i:=5) eO.nd rfl ↑6 (ak ↑4 (cZ (ac (iG ir aa) (ac (ax ↑32 rfl bh PySem.boot_len (ac ↑13 ae)) ae))) ↑18 ↑3)) (ag (aA (i:=7) eO.nd rfl ↑6 (ak ↑4 (cZ (ac (iG ir aa) (ac ↑13 (ac (wv 6) ae)))) ↑18 ↑3)))) aF) (fP (aJ (az ↑10 ↑18 aa (au _)) (af (aA (i:=10) eO.nd rfl ↑6 (aG ↑23 (cZ (ac (ao eL hr ↑1 rfl (ac (wv 0) (ac aa ae))) ae)) (bD rfl (aI (N':=["_law_one"]) (pk:=[none]) ↑33) (bg (K:=K) rfl ↑28) (λC s H ex=>(aC (i:=0) (show List.Nodup (["_law_one"]:List Str) by decide+kernel) rfl ↑6)) ↑37 (λC s H ex=>↑11)))) (af (du PassesOwn.never rfl (bg (K:=K) rfl ↑28) (aC (i:=11) eO.nd rfl ↑6) (ag (aH (cz (K:=K) rfl PySem.F.plainAttrs_list PySem.F.slot_list_extend PySem.F.type_list_extend iw (wv 10) (ac (bD rfl (aI (N':=["_law_pair"]) (pk:=[none]) ↑33) (bg (K:=K) rfl (ak ↑4 (wv 11) aa ↑3)) (λC s H ex=>(aC (i:=0) (show List.Nodup (["_law_pair"]:List Str) by decide+kernel) rfl ↑6)) ↑37 (λC s H ex=>↑11)) ae))))) (ag (aA (i:=8) eO.nd rfl ↑6 (ak ↑4 (wv 10) (ao aE hr ↑1 rfl (ac (wv 0) (ac (wv 1) (ac aa (ac (ax ↑32 rfl bh PySem.boot_len (ac (wv 10) ae)) ae))))) ↑3))))) aF) (af (aJ (az w_lt (wv 4) aa (au _)) (ag (aD (aP (ac aq (ac (wv 8) (ac (wv 6) (ac (wv 7) (ac (ce ↑10 ↑18 aa (au _)) ae)))))))) aF) (af (aJ (az w_lt (wv 4) aa (au _)) (ag (aD (aP (ac (ak ↑4 (cZ (ac aq (ac aq (ac aq (ac aq (ac aq (ac aq ae))))))) (aG eX (wv 4) aa) ↑3) (ac (wv 5) ae))))) aF) (ag (aD (aP (ac (ak ↑4 (cZ (ac aq (ac aq ae))) (aG eX (wv 4) aa) ↑3) ae)))))))))))))),?_⟩];erw[cq.mk _ _ _ _ _ rfl hS k0 k1 ↑1 ↑1 λway w0 w1=> ?_];erw[ai hh rfl ?_];erw[cY hp ?_];erw[cq.mk _ _ _ _ _ rfl hS k0 k1 ↑1 ↑5 λlift _ _=> ?_];erw[ai hh rfl ?_];erw[cq.mk _ _ _ _ _ rfl hS k0 k1 ↑1 ↑5 λstart _ _=> ?_];erw[ai hh rfl ?_];erw[cq.mk _ _ _ _ _ rfl hS k0 k1 ↑1 (by show (0:Int)<fl - 1;omega) λj _ _=> ?_];erw[ai hh rfl ?_];erw[⟨by omega,?_⟩];erw[pJ.mk _ _ _ rfl hS (by show (0:Int)<=k - 2;omega) (by show k - 2<(1000:Int);omega) λtg=> ?_];rwa[cq.mk _ _ _ _ _ rfl hS k0 k1 ↑1 ↑1 λodd _ _=> ?_];generalize (start+1+j)% fl=goal0;ext;rwa[qc (λσ H'=>ar H H'/\∃li go:Int,σ=[some (.ref a),some (.int k),some (.ref h),some (.ref st),some (.int way),some (.int li),some (.int start),some (.int go),some (.int tg),some (.int odd),none,none]) ?_ ?_]
 ·ext;rwa[hV (λ_=> ?_) (λ_=> ?_)]
  ·ext;erw[ai hh rfl ?_];erw[cY hp ?_];erw[iI ↑17 λl1' H1 s1 n1 e1=> ?_];erw[cq.mk _ _ _ _ _ rfl (hS.same s1) k0 k1 ↑1 ↑1 λj1 j0 j2=> ?_];obtain ⟨v1,ev1⟩:=Iw (x:= -1) (y:=(ls.length:Int)) j0 j2;erw[bi (aN.of e1) ev1 ?_];erw[ai (s1.seqT hh) rfl ?_];erw[iI (bB (by show 3<=1000000;decide)) λl2' H2 s2 n2 e2=> ?_];erw[cq.mk _ _ _ _ _ rfl (hS.same (s1.trans s2)) k0 k1 ↑1 ↑1 λj3 j30 j31=> ?_];obtain ⟨v2,ev2⟩:=Cs (x:= -1) (y:=fl) (z:=start) j30 j31;rwa[bi (aN.of e2) ev2 ?_];exact ⟨s1.trans s2,v1,v2,rfl⟩
  ·exact ⟨.refl _,lift,goal0,rfl⟩
 rintro σ' H1 ⟨s1,li,go,rfl⟩;have hS1:=hS.same s1;ext;rwa[qc (λσ H'=>ar H1 H'/\∃(tg':Int) (o1 o2:Option V),σ=[some (.ref a),some (.int k),some (.ref h),some (.ref st),some (.int way),some (.int li),some (.int start),some (.int go),some (.int tg'),some (.int odd),o1,o2]) ?_ ?_]
 ·ext;erw[cq.mk _ _ _ _ _ rfl hS1 k0 k1 ↑1 ↑1 λi9 _ _=> ?_];rwa[hV (λ_=> ?_) (λ_=> ?_)]
  ·ext;erw[pJ.mk _ _ _ rfl hS1 ↑1 ↑1 λt41=> ?_];rwa[iI (bB (by show 1<=1000000;decide)) λla H2 s2 na ea=> ?_];have s12:=s1.trans s2;ext;erw[ai (s12.seqT h1) rfl ?_];rwa[dj (s12.seqT h3) ?_];rwa[ck (xs:=ys) (λj us HX=>HX=H2/\∃ts:List Int,us=ts.map V.int/\ts.length=j) (bB ↑5) (λj us HX h=>by obtain ⟨_,ts,rfl,e⟩:=h;rw [List.length_map,e];exact Nat.le_refl _) ⟨rfl,[],rfl,rfl⟩ (λj us HX _ h=>by rw [h.1];exact s12.seqT h3) ↑29 (λus HX hP lb nb=> ?_)]
   ·obtain ⟨rfl,ts,rfl,tl⟩:=hP;obtain ⟨r,hr',dr⟩:=b6 (f:=be.d) h5 hy;obtain ⟨ra,rfl,hT⟩:=cB (cI.same dr s12);ext;erw[⟨bC,?_⟩];rwa[ai hT rfl ?_];exact ⟨rfl,ts++[r.tag],by rw [List.map_append];rfl,by rw [List.length_append,tl];rfl⟩
   obtain ⟨rfl,ts0,rfl,tl0⟩:=hP;have sb:ar HX (upd HX lb (.lst (ts0.map V.int))):= .upd nb;have eb:upd HX lb (.lst (ts0.map V.int)) lb=some (.lst (ts0.map V.int)):=aj;generalize upd HX lb (.lst (ts0.map V.int))=H3 at sb eb ⊢;ext;rwa[An (sb _ _ ea) eb (bB (by rw [List.length_map];show 1+_<=_;omega)) λkn H4 s4 nkn ekn=> ?_];have ekn:H4 kn=some (.lst ((t41::ts0).map V.int)):=ekn;have s14:ar H1 H4:=s2.trans (sb.trans s4);have n1kn:H1 kn=none:=none_of (s2.trans sb) nkn;have s04:=s1.trans s14;ext;erw[ai (s04.seqT h1) rfl ?_];rwa[dj (s04.seqT h2) ?_];rwa[ka (xs:=xs) (λi σ HY=>ar H1 HY/\(∃ts:List Int,HY kn=some (.lst (ts.map V.int))/\ts≠[]/\ts.length<=100+64*i)/\∃o2,σ=[some (.ref a),some (.int k),some (.ref h),some (.ref st),some (.int way),some (.int li),some (.int start),some (.int go),some (.int tg),some (.int odd),some (.ref kn),o2]) ⟨s14,⟨_,ekn,by simp,by rw [List.length_cons];omega⟩,_,rfl⟩ (λi σ HY _ pv=>(s1.trans pv.1).seqT h2) (λi x σ HY hx pv=> ?_) (λσ HY pv=> ?_)]
   ·obtain ⟨sY,⟨ts,eY,tne,tln⟩,o2,rfl⟩:=pv;obtain ⟨c,hc,t,rfl,hct⟩:=h4.get1 hx;have i10:i<cs.length:=(List.getElem?_eq_some_iff.mp hc).1;obtain ⟨b,bs,et,ebb,db⟩:=hct.keep (s1.trans sY).st;have bl:bs.length=c.ps.length:=aT db;have c64':=c64 c (List.mem_of_getElem? hc);ext;erw[⟨.inl ⟨rfl,_,aN.of eY⟩,?_⟩];erw[ai (aK.of et) rfl ?_];rwa[dj (aK.of ebb) ?_];rwa[ck (xs:=bs) (λj us HX=>HX=HY/\∃ts:List Int,us=ts.map V.int/\ts.length=j) (bB ↑5) (λj us HX h=>by obtain ⟨_,ts,rfl,e⟩:=h;rw [List.length_map,e];exact Nat.le_refl _) ⟨rfl,[],rfl,rfl⟩ (λj us HX _ h=>by rw [h.1];exact aK.of ebb) ↑29 (λus HZ hP l3 n3=> ?_)]
    ·obtain ⟨rfl,ts',rfl,tl⟩:=hP;obtain ⟨pp,pt,hpp,rfl,hpT⟩:=jS db hy;ext;erw[⟨bC,?_⟩];rwa[ai hpT rfl ?_];exact ⟨rfl,ts'++[pp.1],by rw [List.map_append];rfl,by rw [List.length_append,tl];rfl⟩
    obtain ⟨rfl,ts',rfl,tl'⟩:=hP;have s3:ar HZ (upd HZ l3 (.lst (ts'.map V.int))):= .upd n3;have e3:upd HZ l3 (.lst (ts'.map V.int)) l3=some (.lst (ts'.map V.int)):=aj;generalize upd HZ l3 (.lst (ts'.map V.int))=H5 at s3 e3 ⊢;ext;rwa[uE (s3 _ _ eY) e3 (bB (by rw [List.length_map,List.length_map];omega)) ?_];exact ⟨ar.updF (sY.trans s3) n1kn,⟨ts++ts',by rw [aj,List.map_append],by simp [tne],by rw [List.length_append];omega⟩,_,rfl⟩
   obtain ⟨sY,⟨ts,eY,tne,tln⟩,o2,rfl⟩:=pv;have tp:0<ts.length:=List.length_pos_iff.mpr tne;ext;rwa[cr (aN.of eY) ?_];rw [List.length_map];ext;erw[cq.mk _ _ _ _ _ rfl (hS1.same sY) k0 k1 ↑1 ↑5 λi7 i70 i71=> ?_];rwa[bi (aN.of eY) (tJ i70 i71) ?_];exact ⟨sY,_,_,_,rfl⟩
  ·exact ⟨.refl _,tg,_,_,rfl⟩
 rintro σ' H2 ⟨s2,tg',o1,o2,rfl⟩;have hS2:=hS1.same s2;ext;rwa[hV (λz6=> ?_) (λz6=> ?_)]
 ·ext;erw[cq.mk _ _ _ _ _ rfl hS2 k0 k1 ↑1 ↑1 λi8 _ _=> ?_];exact bK (bB (by show 5<=1000000;decide)) λt H3 s3 n3 e3=>q t (.come tg' start go (decide (i8=0))) H3 (s1.trans (s2.trans s3)) ⟨e3,trivial⟩
 have z6: ¬way<6:=z6;rwa[hV (λz12=> ?_) (λz12=> ?_)]
 ·have z12:way<12:=z12;ext;erw[iI (bB (by show 6<=1000000;decide)) λl3 H3 s3 n3 e3=> ?_];obtain ⟨x,ex,ok⟩:=IN (j:=way - 6) ↑5 ↑5;erw[bi (aN.of e3) ex ?_];exact bK ↑17 λt H4 s4 n4 e4=>q t (.lf x li) H4 (s1.trans (s2.trans (s3.trans s4))) ⟨e4,ok⟩
 ·have z12: ¬way<12:=z12;ext;erw[iI ↑17 λl3 H3 s3 n3 e3=> ?_];obtain ⟨x,ex,ok⟩:=Kf (j:=way - 12) ↑5 ↑5;erw[bi (aN.of e3) ex ?_];exact bK (bB (by show 1<=1000000;decide)) λt H4 s4 n4 e4=>q t (.sg x) H4 (s1.trans (s2.trans (s3.trans s4))) ⟨e4,ok⟩
def kf (fl:Int)(n:Nat)(ts:List Int)(d:Dd):Dw:=match gT fl n d with
 | .good=>match d with
   | .come t _ _ _=>if t∈ts then .twice t else .good
   |_=> .good
 |u=>u
def MC:Dd->List Int
 | .come t _ _ _=>[t]
 |_=>[]
theorem EH {fl:Int}{n:Nat}{ts:List Int}{d:Dd}{ds:List Dd}(h:kf fl n ts d≠ .good):bv fl n ts (d::ds)=kf fl n ts d:=by
 unfold kf at *;rw [tI]
 cases e:gT fl n d with
 |good=>
  rw [e] at h
  cases d with
  |come t s g k=>
   dsimp only at h ⊢;split
   ·rfl
   ·rename_i z;rw [if_neg z] at h;exact absurd rfl h
  |lf x i=>exact absurd rfl h
  |sg x=>exact absurd rfl h
 |floor i=>rfl
 |lift i=>rfl
 |ride=>rfl
 |twice i=>rfl
theorem Kn {fl:Int}{n:Nat}{ts:List Int}{d:Dd}{ds:List Dd}(h:kf fl n ts d= .good):bv fl n ts (d::ds)=bv fl n (ts++MC d) ds:=by
 unfold kf at h;rw [tI]
 cases e:gT fl n d with
 |good=>
  rw [e] at h
  cases d with
  |come t s g k=>
   dsimp only at h ⊢;split
   ·rename_i z;rw [if_pos z] at h;cases h
   ·rfl
  |lf x i=>show _=bv fl n (ts++[]) ds;rw [List.append_nil]
  |sg x=>show _=bv fl n (ts++[]) ds;rw [List.append_nil]
 |floor i=>rw [e] at h;cases h
 |lift i=>rw [e] at h;cases h
 |ride=>rw [e] at h;cases h
 |twice i=>rw [e] at h;cases h
inductive yA (K:Fg)(vs:List V)(H:Hp)(Q:VK)(_e:XK):Prop
 |mk (h hs a d kn ts:_) (_:vs=[.ref h,.ref a,.ref kn]) (_:jE K H h hs) (_:jv H a d) (_:H kn=some (.lst (List.map V.int ts))) (_:∀r H',ar H H'->H' r=some (.tup (kf hs.fl hs.ls.length ts d).v)->Q (.ref r) H')
theorem Gf (F:bY K "_law_due" "_law_due" C3 f fd)(bh:mg "len"=none):aQ P w K mg base b8 1 f fd ["_law_house_here","_law_deed_here","_law_known"] (yA K):=by
 rwa[F.ok CQ ↑8 ↑2]
 ·obtain ⟨h,hs,a,d,kn,ts,rfl,_⟩:=h;rfl
 obtain ⟨h,hs,a,d,kn,ts,rfl,⟨ho,p,ls,hh,hp,hlf⟩,⟨ea,ok⟩,ek,q⟩:=h;have hl:ls.length=hs.ls.length:=hlf.len;generalize hfl:hs.fl=fl at *;generalize hlo:hs.lo=lo at *;generalize hso:hs.so=so at *;generalize hn:hs.ls.length=n at *;have hT:=aK.of (K:=K) ea;rwa[⟨_,(fP (aJ (az ↑10 ↑14 aq (au _)) (af (du PassesOwn.never rfl (bg (K:=K) rfl (dh (jw (K:=K) rfl) (wv 1) (dA aa) (dA aa))) (aC (i:=3) CQ.nd rfl ↑6) (ag (aJ (PW.pt (cG (az w_lt (wv 3) aa (au _)) (cu (az Fe (wv 3) ↑11 (au _))))) (ag (aD (aP (ac aq (ac (wv 3) ae))))) aF))) (af (aJ (az ↑10 ↑14 ↑14 (au _)) (ag (aD (aP (ac aq (ac aa ae))))) aF) (ag (aJ (az (Fd (K:=K) rfl) ↑14 (wv 2) (by with_unfolding_all rfl)) (ag (aD (aP (ac aq (ac ↑14 ae))))) aF)))) (ag (aJ (PW.pt (eR (az ↑10 (ax ↑32 rfl bh PySem.boot_len ↑34) aa (au _)) (dS (PW.pt (cG (az w_lt ↑14 aa (au _)) (cu (az Fe ↑14 (ax ↑32 rfl bh PySem.boot_len (ac ↑11 ae)) (au _)))))))) (ag (aD (aP (ac aq (ac ↑14 ae))))) aF))) (ag (aD (aP (ac aq (ac aa ae)))))),?_⟩]
 have fin:∀ {x:Str} {i:Int} (D:Dw),kf fl n ts d=D->D.v=[.str x,.int i]->∀ {H'},ar H H'->DZ [.str x,.int i] H' Q:=by
  intro x i D e e2 H' sm;exact bK ↑17 λr H2 s2 n2 e3=>q r H2 (sm.trans s2) (by rw [e,e2];exact e3)
 have lift1:∀ {u:Dw},gT fl n d=u->u≠ .good->kf fl n ts d=u:=by
  intro u e ne;unfold kf;rw [e]
  cases u with
  |good=>exact absurd rfl ne
  |_=>rfl
 cases d with
 |come t s g k=>
  have hT:aK K H a [.str fS,.int t,.int s,.int g,.bl k]:=hT
  have flr:∀ {i:Int},gT fl n (.come t s g k)= .floor i->∀ {H'},ar H H'->DZ [.str lH,.int i] H' Q:=by
   intro i e H' sm;exact fin _ (lift1 e (λz=>by cases z)) rfl sm
  rwa[qc (λσ H'=>ar H H'/\kf fl n ts (.come t s g k)= .good/\∃o,σ=[some (.ref h),some (.ref a),some (.ref kn),o]) ?_ ?_]
  ·ext;erw[ai hT rfl ?_];erw[bj rfl ?_];erw[hI hT (by show ¬(HT.sIx 5 0 (some 2)=0/\HT.sIx 5 5 (some 4)=5);decide) λl1 H1 s1 n1 e1=> ?_];rwa[dj (aK.of e1) ?_];rwa[ka (xs:=[.int s,.int g]) (λi σ H'=>H'=H1/\(1<=i-> ¬(s<0\/fl<=s))/\(2<=i-> ¬(g<0\/fl<=g))/\∃o,σ=[some (.ref h),some (.ref a),some (.ref kn),o]) ⟨rfl,λz=>absurd z ↑1,λz=>absurd z ↑1,_,rfl⟩ (λi σ H' _ pv=>by rw [pv.1];exact aK.of e1) (λi y σ H' hy pv=> ?_) (λσ H' pv=> ?_)]
   ·obtain ⟨rfl,p1,p2,o,rfl⟩:=pv;have hhs:=s1.seqT hh
    match i,hy with
    |0,hy=>
     cases hy;by_cases z1:s<0
     ·left;exact flr (if_pos (.inl z1)) s1
     by_cases z2:fl<=s
     ·left;exact flr (if_pos (.inr z2)) s1
     ·left;exact ⟨rfl,λ_ z=>z.elim z1 z2,λz=>absurd z ↑1,_,rfl⟩
    |1,hy=>
     cases hy;have ps:=p1 ↑1;by_cases z1:g<0
     ·left;exact flr ((if_neg ps).trans (if_pos (.inl z1))) s1
     by_cases z2:fl<=g
     ·left;exact flr ((if_neg ps).trans (if_pos (.inr z2))) s1
     ·left;exact ⟨rfl,λ_=>ps,λ_ z=>z.elim z1 z2,_,rfl⟩
    |n+2,hy=>cases hy
   ·obtain ⟨rfl,p1,p2,o,rfl⟩:=pv;have ps:=p1 (by show 1<=2;decide);have pg:=p2 (by show 2<=2;decide);have hT1:=s1.seqT hT;by_cases z:s=g
    ·left;exact fin .ride (lift1 ((if_neg ps).trans ((if_neg pg).trans (if_pos z))) (λz=>by cases z)) rfl s1
    ·left;have eg:gT fl n (.come t s g k)= .good:=(if_neg ps).trans ((if_neg pg).trans (if_neg z));rwa[vh (aN.of (s1 _ _ ek)) rfl (oP _) ?_];rw [we];ext;rwa[hV (λzi=> ?_) (λzi=> ?_)]
     ·ext;erw[ai hT1 rfl ?_];rwa[fin (.twice t) ?_ rfl s1];unfold kf;rw [eg];exact if_pos zi
     ·rwa[⟨s1,?_,_,rfl⟩];unfold kf;rw [eg];exact if_neg zi
  ·rintro σ' H' ⟨sm,e,o,rfl⟩;ext;exact fin .good e rfl sm
 |lf x i=>
  rwa[qc (λσ H'=>ar H H'/\kf fl n ts (.lf x i)= .good/\∃o,σ=[some (.ref h),some (.ref a),some (.ref kn),o]) ?_ ?_]
  ·have hx:x≠fS:=by rcases ok with rfl|rfl|rfl|rfl|rfl<;>decide
   have hT:aK K H a [.str x,.int i]:=hT
   have hpl:(ls.length:Int)=n:=by rw [hl]
   ext;erw[ai hT rfl ?_];erw[aB (decide_eq_false hx) ?_];erw[cY hT ?_];rwa[bj rfl ?_];by_cases z1:i<0
   ·left;exact fin (.lift i) (lift1 (if_pos (.inl z1)) (λz=>by cases z)) rfl (.refl _)
   by_cases z2:(n:Int)<=i
   ·left;exact fin (.lift i) (lift1 (if_pos (.inr z2)) (λz=>by cases z)) rfl (.refl _)
   ·left;rwa[⟨.refl _,?_,_,rfl⟩];have eg:gT fl n (.lf x i)= .good:=if_neg (λz=>z.elim z1 z2);unfold kf;rw [eg]
  ·rintro σ' H' ⟨sm,e,o,rfl⟩;ext;exact fin .good e rfl sm
 |sg x=>
  rwa[qc (λσ H'=>ar H H'/\kf fl n ts (.sg x)= .good/\∃o,σ=[some (.ref h),some (.ref a),some (.ref kn),o]) ?_ ?_]
  ·have hx:x≠fS:=by rcases ok with rfl|rfl<;>decide
   have hT:aK K H a [.str x]:=hT;ext;erw[ai hT rfl ?_];erw[aB (decide_eq_false hx) ?_];erw[cY hT ?_];rwa[aB rfl ?_];left;exact ⟨.refl _,rfl,_,rfl⟩
  ·rintro σ' H' ⟨sm,e,o,rfl⟩;ext;exact fin .good e rfl sm
def CH (K:Fg):Sp:=λvs H Q _=>∃h st dl hs cs ws last fire ds,vs=[.ref h,.ref st,.ref dl]/\jE K H h hs/\gk K H st cs ws last fire/\kA K H dl ds/\ws.length<=64/\(∀c∈cs,c.ps.length<=64)/\cs.length<=10/\ds.length<=100/\(bv hs.fl hs.ls.length (bM cs ws) ds= .good->∀H',ar H H'->Q .non H')/\(bv hs.fl hs.ls.length (bM cs ws) ds≠ .good->∀(k:Nat) t r H',k<ds.length->ar H H'->H' r=some (.tup [.int (k:Int),.ref t])->H' t=some (.tup (bv hs.fl hs.ls.length (bM cs ws) ds).v)->Q (.ref r) H')
theorem Pm {H:Hp}{h st dl:Addr}{hs:Hs}{cs:List Cb}{ws:List be}{last:Int}{fire:Bool}{ds:List Dd}{Q:VK}{E:XK}(h1:jE K H h hs)(h2:gk K H st cs ws last fire)(h3:kA K H dl ds)(h4:ws.length<=64)(h5:∀c∈cs,c.ps.length<=64)(h6:cs.length<=10)(h7:ds.length<=100)(g:bv hs.fl hs.ls.length (bM cs ws) ds= .good->∀H',ar H H'->Q .non H')(b:bv hs.fl hs.ls.length (bM cs ws) ds≠ .good->∀(k:Nat) t r H',k<ds.length->ar H H'->H' r=some (.tup [.int (k:Int),.ref t])->H' t=some (.tup (bv hs.fl hs.ls.length (bM cs ws) ds).v)->Q (.ref r) H'):CH K [.ref h,.ref st,.ref dl] H Q E:=⟨h,st,dl,hs,cs,ws,last,fire,ds,rfl,h1,h2,h3,h4,h5,h6,h7,g,b⟩
theorem LX (F:bY K "_law_first_bad" "_law_first_bad" lV f fd)(bh:mg "len"=none)(bA:mg "range"=none)(sQ:bO P w K mg base 1 "_law_due" ["_law_house_here","_law_deed_here","_law_known"] (yA K)):aQ P w K mg base b8 2 f fd ["_law_house_here","_law_state_here","_law_deeds"] (CH K):=by
 rwa[F.ok fU ↑8 ↑2]
 ·obtain ⟨h,st,dl,hs,cs,ws,last,fire,ds,rfl,_⟩:=h;rfl
 obtain ⟨h,st,dl,hs,cs,ws,last,fire,ds,rfl,hH,⟨tc,tw,xs,ys,h1,h2,h3,h4,h5⟩,⟨xd,hxd,pd⟩,wl,c64,cl,d100,q,qb⟩:=h;have yl:ys.length=ws.length:=aT h5;have xl:xs.length=cs.length:=h4.len;have dl':xd.length=ds.length:=pd.len;erw[⟨_,(af (fM (i:=3) rfl fU.nd rfl ↑6 (aI (N':=["_law_one"]) (pk:=[none]) ↑33) (bg (K:=K) rfl ↑14) (λC s H ex=>(aC (i:=0) (show List.Nodup (["_law_one"]:List Str) by decide+kernel) rfl ↑6)) ↑37 (λC s H ex=>↑11)) (af (du PassesOwn.never rfl (bg (K:=K) rfl ↑14) (aC (i:=4) fU.nd rfl ↑6) (ag (aH (cz (K:=K) rfl PySem.F.plainAttrs_list PySem.F.slot_list_extend PySem.F.type_list_extend iw (wv 3) (ac (bD rfl (aI (N':=["_law_pair"]) (pk:=[none]) ↑33) (bg (K:=K) rfl (ak ↑4 (wv 4) aa ↑3)) (λC s H ex=>(aC (i:=0) (show List.Nodup (["_law_pair"]:List Str) by decide+kernel) rfl ↑6)) ↑37 (λC s H ex=>↑11)) ae))))) (af (du PassesOwn.never rfl (cy rfl bA (ac (ax ↑32 rfl bh PySem.boot_len (ac (wv 2) ae)) ae)) (aC (i:=5) fU.nd rfl ↑6) (af (aA (i:=6) fU.nd rfl ↑6 (ao sQ hr ↑1 rfl (ac (wv 0) (ac (ak ↑4 (wv 2) (wv 5) ↑3) (ac (wv 3) ae))))) (af (aJ (az (gv (K:=K) rfl hr) (ak ↑4 (wv 6) aa ↑3) aq (au _)) (ag (aD (aP (ac (wv 5) (ac (wv 6) ae))))) aF) (ag (aJ (az ↑10 (ak ↑4 (ak ↑4 (wv 2) (wv 5) ↑3) aa ↑3) aq (au _)) (ag (aH (cz (K:=K) rfl PySem.F.plainAttrs_list PySem.F.slot_list_append PySem.F.type_list_append bw (wv 3) (ac (ak ↑4 (ak ↑4 (wv 2) (wv 5) ↑3) aa ↑3) ae)))) aF))))) (ag (aD jR))))),?_⟩];erw[ai h1 rfl ?_];rwa[dj h3 ?_];rwa[ck (xs:=ys) (λj us HX=>HX=H/\us=((ws.take j).map (·.tag)).map V.int) (bB ↑5) ↑24 ⟨rfl,rfl⟩ (λj us HX _ h=>by rw [h.1];exact h3) ↑29 (λus HX hP l n=> ?_)]
 ·obtain ⟨rfl,rfl⟩:=hP;obtain ⟨r,hr',dr⟩:=b6 (f:=be.d) h5 hy;obtain ⟨ra,rfl,hT⟩:=cB dr;ext;erw[⟨bC,?_⟩];rwa[ai hT rfl ?_];rwa[⟨rfl,?_⟩];rw [List.take_add_one,hr',List.map_append,List.map_append];rfl
 obtain ⟨rfl,rfl⟩:=hP;rw [yl,List.take_of_length_le ↑15];have s2:ar HX (upd HX l (.lst ((ws.map (·.tag)).map V.int))):= .upd n;have e2:upd HX l (.lst ((ws.map (·.tag)).map V.int)) l=some (.lst ((ws.map (·.tag)).map V.int)):=aj;generalize hH2:upd HX l (.lst ((ws.map (·.tag)).map V.int))=H2 at s2 e2 ⊢;ext;erw[ai (s2.seqT h1) rfl ?_];rwa[dj (s2.seqT h2) ?_];rwa[ka (xs:=xs) (λi σ HY=>ar HX HY/\HY l=some (.lst ((ws.map (·.tag)++(cs.take i).flatMap λc=>c.ps.map (·.1)).map V.int))/\∃o2,σ=[some (.ref h),some (.ref st),some (.ref dl),some (.ref l),o2,none,none]) ⟨s2,by rw [List.take_zero,List.flatMap_nil,List.append_nil];exact e2,_,rfl⟩ (λi σ HY _ pv=>pv.1.seqT h2) (λi x σ HY hx pv=> ?_) (λσ HY pv=> ?_)]
 ·obtain ⟨sY,eY,o2,rfl⟩:=pv;obtain ⟨c,hc,t,rfl,hct⟩:=h4.get1 hx;obtain ⟨b,bs,et,eb,db⟩:=hct.keep sY.st;have bl:bs.length=c.ps.length:=aT db;have c64':=c64 c (List.mem_of_getElem? hc);ext;erw[⟨.inl ⟨rfl,_,aN.of eY⟩,?_⟩];erw[ai (aK.of et) rfl ?_];rwa[dj (aK.of eb) ?_];rwa[ck (xs:=bs) (λj us HZ=>HZ=HY/\us=((c.ps.take j).map (·.1)).map V.int) (bB ↑5) ↑24 ⟨rfl,rfl⟩ (λj us HZ _ h=>by rw [h.1];exact aK.of eb) (λj y us HZ hy hP=> ?_) (λus HZ hP l3 n3=> ?_)]
  ·obtain ⟨rfl,rfl⟩:=hP;obtain ⟨p,pt,hp,rfl,hpT⟩:=jS db hy;ext;erw[⟨bC,?_⟩];rwa[ai hpT rfl ?_];rwa[⟨rfl,?_⟩];rw [List.take_add_one,hp,List.map_append,List.map_append];rfl
  obtain ⟨rfl,rfl⟩:=hP;rw [bl,List.take_of_length_le ↑15];have s3:ar HZ (upd HZ l3 (.lst ((c.ps.map (·.1)).map V.int))):= .upd n3;have e3:upd HZ l3 (.lst ((c.ps.map (·.1)).map V.int)) l3=some (.lst ((c.ps.map (·.1)).map V.int)):=aj;generalize hH3:upd HZ l3 (.lst ((c.ps.map (·.1)).map V.int))=H3 at s3 e3 ⊢;ext;rwa[uE (s3 _ _ eY) e3 (bB ?_) ?_]
  ·have h1:((cs.take i).flatMap λc=>c.ps.map (·.1)).length<=64*(cs.take i).length:=m9 λc hc=>c64 c (List.mem_of_mem_take hc)
   have h2:(cs.take i).length<=10:=by rw [List.length_take];omega
   simp only [List.length_map,List.length_append];omega
  ·rwa[⟨ar.updF (sY.trans s3) n,?_,_,rfl⟩];rw [aj,List.take_add_one,hc];simp only [Option.toList_some,List.flatMap_append,List.flatMap_cons,List.flatMap_nil,List.append_nil,List.map_append,List.append_assoc]
 obtain ⟨sY,eY,o2,rfl⟩:=pv;rw [xl,List.take_of_length_le ↑15] at eY;have eY:HY l=some (.lst ((bM cs ws).map V.int)):=eY
 have tl:(bM cs ws).length<=1000:=by
  have z:=m9 c64;unfold bM;rw [List.length_append,List.length_map];omega
 ext;rwa[cr (sY.seq hxd) ?_];rw [dl'];ext;rwa[⟨⟨by omega,by omega⟩,?_⟩]
 have hnn:((ds.length:Int)).toNat=ds.length:=by omega
 rwa[fG (λi σ HZ=>ar HX HZ/\(∃ts:List Int,HZ l=some (.lst (ts.map V.int))/\ts.length<=1000+i/\bv hs.fl hs.ls.length (bM cs ws) ds=bv hs.fl hs.ls.length ts (ds.drop i))/\∃o3 o4,σ=[some (.ref h),some (.ref st),some (.ref dl),some (.ref l),o2,o3,o4]) ⟨sY,⟨_,eY,by omega,by rw [List.drop_zero]⟩,_,_,rfl⟩ (λi σ HZ hi pv=> ?_) (λσ HZ pv=> ?_)]
 ·obtain ⟨sZ,⟨ts,eZ,tz,hbad⟩,o3,o4,rfl⟩:=pv
  have hi:i<ds.length:=by omega
  have i0:(0:Int)+(i:Nat)=((i:Nat):Int):=by omega
  rw [i0]
  have hix:i<xd.length:=by omega
  obtain ⟨d,hd,ad,ead,had⟩:=pd.get1 (List.getElem?_eq_getElem hix)
  have hdr:ds.drop i=d::ds.drop (i+1):=by
   rw [List.drop_eq_getElem_cons hi];rw [List.getElem?_eq_getElem hi] at hd;cases hd;rfl
  rw [hdr] at hbad
  have hat:ly xd ((i:Nat):Int)=some (V.ref ad):=by rw [dE (List.getElem?_eq_getElem hix),ead]
  ext;erw[bi (sZ.seq hxd) hat ?_];have hadZ:jv HZ ad d:=⟨sZ _ _ had.1,had.2⟩;rwa[yA.mk _ _ _ _ _ _ rfl (hH.same sZ) hadZ eZ λr H4 s4 e4=> ?_];by_cases hg:kf hs.fl hs.ls.length ts d= .good
  ·rw [hg] at e4;rw [Kn hg] at hbad;ext;erw[ai (aK.of e4) rfl ?_];erw[aB rfl ?_];rwa[bi ((sZ.trans s4).seq hxd) hat ?_];have had4:aK K H4 ad d.v:=aK.of (s4 _ _ hadZ.1);ext
   cases d with
   |come t s g k=>
    have had4:aK K H4 ad [.str fS,.int t,.int s,.int g,.bl k]:=had4;erw[ai had4 rfl ?_];erw[bj rfl ?_];erw[⟨.inl ⟨rfl,_,aN.of (s4 _ _ eZ)⟩,?_⟩];erw[bi ((sZ.trans s4).seq hxd) hat ?_];erw[ai had4 rfl ?_];rwa[dM (s4 _ _ eZ) (nL (by rw [List.length_map];omega)) ?_];exact ⟨ar.updF (sZ.trans s4) n,⟨ts++[t],by rw [aj,List.map_append];rfl,by rw [List.length_append];show _+1<=_;omega,hbad⟩,_,_,rfl⟩
   |lf x j=>
    have had4:aK K H4 ad [.str x,.int j]:=had4
    have hx:x≠fS:=by rcases hadZ.2 with rfl|rfl|rfl|rfl|rfl<;>decide
    erw[ai had4 rfl ?_];rwa[aB (decide_eq_false hx) ?_];exact ⟨sZ.trans s4,⟨ts,s4 _ _ eZ,by omega,by rw [hbad];show bv _ _ (ts++[]) _=_;rw [List.append_nil]⟩,_,_,rfl⟩
   |sg x=>
    have had4:aK K H4 ad [.str x]:=had4
    have hx:x≠fS:=by rcases hadZ.2 with rfl|rfl<;>decide
    erw[ai had4 rfl ?_];rwa[aB (decide_eq_false hx) ?_];exact ⟨sZ.trans s4,⟨ts,s4 _ _ eZ,by omega,by rw [hbad];show bv _ _ (ts++[]) _=_;rw [List.append_nil]⟩,_,_,rfl⟩
  ·rw [EH hg] at hbad;have qq:=qb (by rw [hbad];exact hg) i r;rw [hbad] at qq;have tell:DZ [.int (i:Int),.ref r] H4 Q:=bK ↑17 λr2 H5 s5 n5 e5=>qq r2 H5 hi (sZ.trans (s4.trans s5)) e5 (s5 _ _ e4);ext
   cases hu:kf hs.fl hs.ls.length ts d with
   |good=>exact absurd hu hg
   |floor j=>
    rw [hu] at e4;erw[ai (aK.of e4) rfl ?_];erw[bj rfl ?_];exact tell
   |lift j=>
    rw [hu] at e4;erw[ai (aK.of e4) rfl ?_];erw[bj rfl ?_];exact tell
   |ride=>
    rw [hu] at e4;erw[ai (aK.of e4) rfl ?_];erw[bj rfl ?_];exact tell
   |twice j=>
    rw [hu] at e4;erw[ai (aK.of e4) rfl ?_];erw[bj rfl ?_];exact tell
 obtain ⟨sZ,⟨ts,eZ,tz,hbad⟩,o3,o4,rfl⟩:=pv;ext;rwa[q ?_ HZ sZ];rw [hbad,hnn,List.drop_length];rfl
seal CH
abbrev kR:cX:=Sum.inr (Str.ofString "riders")
abbrev kL:cX:=Sum.inr (Str.ofString "last")
abbrev kF:cX:=Sum.inr (Str.ofString "fire")
abbrev kG:cX:=Sum.inr (Str.ofString "log")
abbrev kM:cX:=Sum.inr (Str.ofString "marks")
def dW (lr:Addr)(la:Int)(fi:Bool)(lg lm:Addr):List (cX×V):=[(kR,.ref lr),(kL,.int la),(kF,.bl fi),(kG,.ref lg),(kM,.ref lm)]
theorem JY:(kR=kL)=False:=eq_false ↑26
theorem JZ:(kR=kF)=False:=eq_false ↑26
theorem Mh:(kR=kG)=False:=eq_false ↑26
theorem Mg:(kR=kM)=False:=eq_false ↑26
theorem Ou:(kL=kR)=False:=eq_false ↑26
theorem J0:(kL=kF)=False:=eq_false ↑26
theorem Mj:(kL=kG)=False:=eq_false ↑26
theorem Mi:(kL=kM)=False:=eq_false ↑26
theorem Oy:(kF=kR)=False:=eq_false ↑26
theorem Oz:(kF=kL)=False:=eq_false ↑26
theorem Mn:(kF=kG)=False:=eq_false ↑26
theorem Mm:(kF=kM)=False:=eq_false ↑26
theorem Ov:(kG=kR)=False:=eq_false ↑26
theorem Ow:(kG=kL)=False:=eq_false ↑26
theorem Ox:(kG=kF)=False:=eq_false ↑26
theorem Ml:(kG=kM)=False:=eq_false ↑26
theorem Oq:(kM=kR)=False:=eq_false ↑26
theorem Os:(kM=kL)=False:=eq_false ↑26
theorem Ot:(kM=kF)=False:=eq_false ↑26
section
variable {lr lg lm:Addr}{la:Int}{fi:Bool}
theorem Md:eS (dW lr la fi lg lm) kR=some (.ref lr):=cg rfl
theorem Me:eS (dW lr la fi lg lm) kL=some (.int la):=by
 unfold dW;rw [bb (by rw [JY];exact id)];exact cg rfl
theorem Mf:eS (dW lr la fi lg lm) kF=some (.bl fi):=by
 unfold dW;rw [bb (by rw [JZ];exact id),bb (by rw [J0];exact id)];exact cg rfl
theorem Oo:eS (dW lr la fi lg lm) kG=some (.ref lg):=by
 unfold dW;rw [bb (by rw [Mh];exact id),bb (by rw [Mj];exact id),bb (by rw [Mn];exact id)];exact cg rfl
theorem On:eS (dW lr la fi lg lm) kM=some (.ref lm):=by
 unfold dW;rw [bb (by rw [Mg];exact id),bb (by rw [Mi];exact id),bb (by rw [Mm];exact id),bb (by rw [Ml];exact id)];exact cg rfl
theorem y8 {kvs:List (cX×V)}{k:cX}{v x:V}(h:eS kvs k=some x):cK kvs k v=kvs.map λkv=>if kv.1=k then (kv.1,v) else kv:=by
 unfold cK;rw [if_pos (by rw [ix,h];rfl)]
theorem Of {l':Addr}:cK (dW lr la fi lg lm) kR (.ref l')=dW l' la fi lg lm:=by
 rw [y8 Md];simp only [dW,List.map_cons,List.map_nil,Ou,Oy,Ov,Oq,if_false,if_true]
theorem Og {i:Int}:cK (dW lr la fi lg lm) kL (.int i)=dW lr i fi lg lm:=by
 rw [y8 Me];simp only [dW,List.map_cons,List.map_nil,JY,Oz,Ow,Os,if_false,if_true]
theorem Oh {i:Bool}:cK (dW lr la fi lg lm) kF (.bl i)=dW lr la i lg lm:=by
 rw [y8 Mf];simp only [dW,List.map_cons,List.map_nil,JZ,J0,Ox,Ot,if_false,if_true]
end
structure fg (K:Fg)(H0 H:Hp)(kp lr lg lm:Addr)(xs zs:List V)(M:MS):Prop where
 s:ar H0 H
 nk:H0 kp=none
 nr:H0 lr=none
 ng:H0 lg=none
 nm:H0 lm=none
 rg:lr≠lg
 rm:lr≠lm
 gm:lg≠lm
 ek:H kp=some (.dK (dW lr M.last M.fire lg lm))
 er:H lr=some (.lst xs)
 eg:H lg=some (.lst zs)
 em:H lm=some (.lst (M.cs.map λc=>V.int c.mr))
 dr:aO K H xs (M.ws.map be.d)
 dg:aO K H zs M.log
 no:noLs M.log=true
inductive Kp (K:Fg)(H0 H:Hp)(kp:Addr)(M:MS):Prop
 |mk (lr lg lm xs zs:_) (_:fg K H0 H kp lr lg lm xs zs M)
section
variable {H0 H H':Hp}{kp lr lg lm:Addr}{xs zs:List V}{M:MS}
theorem fg.same (a:fg K H0 H kp lr lg lm xs zs M)(s:ar H H'):fg K H0 H' kp lr lg lm xs zs M:=
 ⟨a.s.trans s,a.nk,a.nr,a.ng,a.nm,a.rg,a.rm,a.gm,s _ _ a.ek,s _ _ a.er,s _ _ a.eg,s _ _ a.em,aO.same a.dr s,aO.same a.dg s,a.no⟩
theorem fg.gR (a:fg K H0 H kp lr lg lm xs zs M):fZ H kp (.str (Str.ofString "riders")) (some (.ref lr)):=Md▸fZ.k (k:=kR) a.ek
theorem fg.gL (a:fg K H0 H kp lr lg lm xs zs M):fZ H kp (.str (Str.ofString "last")) (some (.int M.last)):=Me▸fZ.k (k:=kL) a.ek
theorem fg.gF (a:fg K H0 H kp lr lg lm xs zs M):fZ H kp (.str (Str.ofString "fire")) (some (.bl M.fire)):=Mf▸fZ.k (k:=kF) a.ek
theorem fg.gG (a:fg K H0 H kp lr lg lm xs zs M):fZ H kp (.str (Str.ofString "log")) (some (.ref lg)):=Oo▸fZ.k (k:=kG) a.ek
theorem fg.gM (a:fg K H0 H kp lr lg lm xs zs M):fZ H kp (.str (Str.ofString "marks")) (some (.ref lm)):=On▸fZ.k (k:=kM) a.ek
theorem fg.nek (a:fg K H0 H kp lr lg lm xs zs M){l:Addr}{ys:List V}(h:H l=some (.lst ys)):kp≠l:=λz=>by have:=a.ek;rw [z,h] at this;cases this
theorem fg.log (a:fg K H0 H kp lr lg lm xs zs M){v:V}{d:D}(hv:cI K H v d)(hn:noL d=true):fg K H0 (upd H lg (.lst (zs++[v]))) kp lr lg lm xs (zs++[v]) {M with log:=M.log++[d]}:=by
 rwa[⟨ar.updF a.s a.ng,a.nk,a.nr,a.ng,a.nm,a.rg,a.rm,a.gm,?_,?_,aj,?_,cj a.dr (cE _) a.eg,?_,?_⟩]
 ·rw [am (a.nek a.eg)];exact a.ek
 ·rw [am a.rg];exact a.er
 ·rw [am a.gm.symm];exact a.em
 ·exact Paired.app (cj a.dg a.no a.eg) (.cons (cI.noL hv hn a.eg) .nil)
 ·show noLs (M.log++[d])=true;exact rL a.no (by show (noL d&&true)=true;rw [hn];rfl)
theorem fg.wait (a:fg K H0 H kp lr lg lm xs zs M){v:V}{r:be}(hv:cI K H v (be.d r)):fg K H0 (upd H lr (.lst (xs++[v]))) kp lr lg lm (xs++[v]) zs {M with ws:=M.ws++[r]}:=by
 rwa[⟨ar.updF a.s a.nr,a.nk,a.nr,a.ng,a.nm,a.rg,a.rm,a.gm,?_,aj,?_,?_,?_,cj a.dg a.no a.er,a.no⟩]
 ·rw [am (a.nek a.er)];exact a.ek
 ·rw [am a.rg.symm];exact a.eg
 ·rw [am a.rm.symm];exact a.em
 ·show aO K _ _ ((M.ws++[r]).map be.d);rw [List.map_append];exact Paired.app (cj a.dr (cE _) a.er) (.cons (cI.noL (d:=be.d r) hv rfl a.er) .nil)
end
theorem EF {lo g:Nat}:(Builtin.bitAnd ((lo:Int) / 2^g) 1=1)↔lo.testBit g=true:=by
 have e:(lo:Int) / 2^g=((lo / 2^g:Nat):Int):=by simp
 rw [e,show (1:Int)=((1:Nat):Int) from rfl,Ar,Nat.and_one_is_mod,Nat.testBit_eq_decide_div_mod_eq,decide_eq_true_eq];omega
inductive vb (K:Fg)(vs:List V)(H:Hp)(Q:VK)(_e:XK):Prop
 |mk (h kp a H0 hs M t s g k:_) (_:vs=[.ref h,.ref kp,.ref a]) (_:jE K H0 h hs) (_:H0 a=some (.tup (Dd.v (.come t s g k)))) (_:Kp K H0 H kp M) (_:0<=g) (_:g<1000) (_:M.ws.length<=1000) (_:M.log.length<=1000) (_:∀H',Kp K H0 H' kp (kh hs.lo M t s g k)->Q .non H')
theorem DN (F:bY K "_law_come" "_law_come" yY f fd):aQ P w K mg base b8 1 f fd ["_law_house_here","_law_kept_here","_law_deed_here"] (vb K):=by
 rwa[F.ok FD ↑8 ↑2]
 ·obtain ⟨h,kp,a,H0,hs,M,t,s,g,k,rfl,_⟩:=h;rfl
 obtain ⟨h,kp,a,H0,hs,M,t,s,g,k,rfl,⟨ho,p,ls,hh,hp,hl⟩,ea,⟨lr,lg,lm,xs,zs,A1⟩,g0,g1,wl,gl,q⟩:=h;obtain ⟨gn,rfl⟩:=Int.eq_ofNat_of_zero_le g0;have hT:aK K H a [.str fS,.int t,.int s,.int (gn:Int),.bl k]:=A1.s.seqT (aK.of ea);have hhH:=A1.s.seqT hh;have zl:zs.length=M.log.length:=A1.dg.len;have xl:xs.length=M.ws.length:=aT (f:=be.d) A1.dr;generalize hlo:hs.lo=lo at *;rwa[⟨_,(ag (aJ (PW.pt (eR (az ↑10 (aG Ci (aG KO ↑11 ↑13) aa) aa (au _)) (dS (de (bt (K:=K) rfl ↑13))))) (ag (aH (cz (K:=K) rfl PySem.F.plainAttrs_list PySem.F.slot_list_append PySem.F.type_list_append bw ↑30 (ac (aP (ac aq (ac ↑13 ae))) ae)))) (ag (aJ (bt (K:=K) rfl ↑30) (ag (aH (cz (K:=K) rfl PySem.F.plainAttrs_list PySem.F.slot_list_append PySem.F.type_list_append bw ↑30 (ac (aP (ac aq (ac ↑13 ae))) ae)))) (ag (aH (cz (K:=K) rfl PySem.F.plainAttrs_list PySem.F.slot_list_append PySem.F.type_list_append bw ↑30 (ac (aP (ac ↑13 (ac ↑13 (ac ↑13 (ac (iG ir aa) ae))))) ae)))))))),?_⟩];unfold kh at q;ext;erw[ai hhH rfl ?_];erw[ai hT rfl ?_];erw[⟨by omega,?_⟩]
 have gt:((gn:Int)).toNat=gn:=by omega
 rw [gt] at q ⊢;by_cases bar:lo.testBit gn=true/\k=false
 ·rw [if_pos bar] at q;obtain ⟨z,rfl⟩:=bar;erw[j6 (EF.mpr z) ?_];erw[ai hT rfl ?_];erw[bj rfl ?_];erw[⟨kp,_,rfl,A1.gG,?_⟩];erw[⟨.inl ⟨rfl,_,aN.of A1.eg⟩,?_⟩];erw[ai hT rfl ?_];erw[bK ↑17 λr H2 s2 n2 e2=> ?_];rwa[dM (s2 _ _ A1.eg) (nL ↑5) ?_];exact q _ ⟨_,_,_,_,_,(A1.same s2).log (d:=FK t) (ez (aK.of e2) (.cons (.str _) (.cons (.int _) .nil))) rfl⟩
 ·rw [if_neg bar] at q;rwa[wg (λz=> ?_) (λz=> ?_)]
  ·have kt:k=true:=by cases k with
    |true=>rfl
    |false=>exact absurd ⟨EF.mp (of_decide_eq_true z),rfl⟩ bar
   subst kt;ext;erw[ai hT rfl ?_];erw[aB rfl ?_];erw[⟨kp,_,rfl,A1.gF,?_⟩]
   cases hf:M.fire with
   |true=>
    rwa[bj rfl ?_];rw [hf,if_pos rfl] at q;ext;erw[⟨kp,_,rfl,A1.gG,?_⟩];erw[⟨.inl ⟨rfl,_,aN.of A1.eg⟩,?_⟩];erw[ai hT rfl ?_];erw[bK ↑17 λr H2 s2 n2 e2=> ?_];rwa[dM (s2 _ _ A1.eg) (nL ↑5) ?_];exact q _ ⟨_,_,_,_,_,hf▸(A1.same s2).log (d:=tS t) (ez (aK.of e2) (.cons (.str _) (.cons (.int _) .nil))) rfl⟩
   |false=>
    rwa[aB rfl ?_];rw [hf,if_neg ↑1] at q;ext;erw[⟨kp,_,rfl,A1.gR,?_⟩];erw[⟨.inl ⟨rfl,_,aN.of A1.er⟩,?_⟩];erw[ai hT rfl ?_];erw[ai hT rfl ?_];erw[ai hT rfl ?_];erw[bK (bB (by show 4<=1000000;decide)) λr H2 s2 n2 e2=> ?_];rwa[dM (s2 _ _ A1.er) (nL ↑5) ?_];exact q _ ⟨_,_,_,_,_,hf▸(A1.same s2).wait (r:=⟨t,s,(gn:Int),-1⟩) (ez (aK.of e2) (.cons (.int _) (.cons (.int _) (.cons (.int _) (.cons (.int _) .nil)))))⟩
  ·ext;erw[aB rfl ?_];erw[⟨kp,_,rfl,A1.gF,?_⟩]
   cases hf:M.fire with
   |true=>
    rwa[bj rfl ?_];rw [hf,if_pos rfl] at q;ext;erw[⟨kp,_,rfl,A1.gG,?_⟩];erw[⟨.inl ⟨rfl,_,aN.of A1.eg⟩,?_⟩];erw[ai hT rfl ?_];erw[bK ↑17 λr H2 s2 n2 e2=> ?_];rwa[dM (s2 _ _ A1.eg) (nL ↑5) ?_];exact q _ ⟨_,_,_,_,_,hf▸(A1.same s2).log (d:=tS t) (ez (aK.of e2) (.cons (.str _) (.cons (.int _) .nil))) rfl⟩
   |false=>
    rwa[aB rfl ?_];rw [hf,if_neg ↑1] at q;ext;erw[⟨kp,_,rfl,A1.gR,?_⟩];erw[⟨.inl ⟨rfl,_,aN.of A1.er⟩,?_⟩];erw[ai hT rfl ?_];erw[ai hT rfl ?_];erw[ai hT rfl ?_];erw[bK (bB (by show 4<=1000000;decide)) λr H2 s2 n2 e2=> ?_];rwa[dM (s2 _ _ A1.er) (nL ↑5) ?_];exact q _ ⟨_,_,_,_,_,hf▸(A1.same s2).wait (r:=⟨t,s,(gn:Int),-1⟩) (ez (aK.of e2) (.cons (.int _) (.cons (.int _) (.cons (.int _) (.cons (.int _) .nil)))))⟩
theorem aK.noK {H:Hp}{a p:Addr}{xs:List V}{kvs:List (cX×V)}{o:HO}(h:aK K H a xs)(hp:H p=some (.dK kvs)):aK K (upd H p o) a xs:=by
 rcases h with (h|⟨u,h⟩)|h
 ·exact .inl (.inl (by rw [am (λz=>by rw [z,hp] at h;cases h)];exact h))
 ·exact .inl (.inr ⟨u,by rw [am (λz=>by rw [z,hp] at h;cases h)];exact h⟩)
 ·exact .inr h
theorem cI.noK {H:Hp}{x:V}{d:D}{p:Addr}{kvs:List (cX×V)}{o:HO}(h:cI K H x d)(hn:L2.noL d=true)(hp:H p=some (.dK kvs)):cI K (upd H p o) x d:=by
 induction h with
 |non=>exact .non
 |bl b=>exact .bl b
 |int i=>exact .int i
 |str z=>exact .str z
 |lst h hl hi ih=>rw [L2.noL] at hn;cases hn
 |tup h hl hi ih=>
  rw [L2.noL] at hn;exact .tup (aK.noK h hp) hl λi x d h1 h2=>ih i x d h1 h2 (gO hn h2)
theorem fX {H:Hp}{xs:List V}{ds:List D}{p:Addr}{kvs:List (cX×V)}{o:HO}(h:aO K H xs ds)(hn:noLs ds=true)(hp:H p=some (.dK kvs)):aO K (upd H p o) xs ds:=
 PySem.Paired.of h.len λi x d h1 h2=>by
  obtain ⟨e,h3,r⟩:=h.get1 h1;rw [h2] at h3;cases h3;exact cI.noK r (gO hn h2) hp
theorem Gs {a b x:Str}{u v:V}:eS (bR [] [(Sum.inr a,u),(Sum.inr b,v)]) (Sum.inr x:cX)=if x=b then some v else if x=a then some u else none:=by
 show eS (cK (cK [] (Sum.inr a) u) (Sum.inr b) v) (Sum.inr x)=_;rw [qB,qB];simp only [Sum.inr.injEq];rfl
section
variable {H0 H H':Hp}{kp lr lg lm:Addr}{xs zs:List V}{M:MS}
theorem fg.bl (a:fg K H0 H kp lr lg lm xs zs M){b:Nat}:fg K H0 H kp lr lg lm xs zs {M with bl:=b}:=⟨a.s,a.nk,a.nr,a.ng,a.nm,a.rg,a.rm,a.gm,a.ek,a.er,a.eg,a.em,a.dr,a.dg,a.no⟩
theorem fg.mark (a:fg K H0 H kp lr lg lm xs zs M){i:Nat}{c:Cb}:fg K H0 (upd H lm (.lst ((M.cs.map λc=>V.int c.mr).set i (.int c.mr)))) kp lr lg lm xs zs {M with cs:=M.cs.set i c}:=by
 rwa[⟨ar.updF a.s a.nm,a.nk,a.nr,a.ng,a.nm,a.rg,a.rm,a.gm,?_,?_,?_,?_,cj a.dr (cE _) a.em,cj a.dg a.no a.em,a.no⟩]
 ·rw [am (a.nek a.em)];exact a.ek
 ·rw [am a.rm];exact a.er
 ·rw [am a.gm];exact a.eg
 ·rw [aj];show _=some (HO.lst ((M.cs.set i c).map _));rw [List.map_set]
theorem fg.riders (a:fg K H0 H kp lr lg lm xs zs M){l':Addr}{ys:List V}{ws':List be}(n:H0 l'=none)(e:H l'=some (.lst ys))(d:aO K H ys (ws'.map be.d))(n1:l'≠lg)(n2:l'≠lm):fg K H0 (upd H kp (.dK (dW l' M.last M.fire lg lm))) kp l' lg lm ys zs {M with ws:=ws'}:=by
 rwa[⟨ar.updF a.s a.nk,a.nk,n,a.ng,a.nm,n1,n2,a.gm,aj,?_,?_,?_,fX d (cE _) a.ek,fX a.dg a.no a.ek,a.no⟩]
 ·rw [am (a.nek e).symm];exact e
 ·rw [am (a.nek a.eg).symm];exact a.eg
 ·rw [am (a.nek a.em).symm];exact a.em
theorem fg.fire (a:fg K H0 H kp lr lg lm xs zs M){b:Bool}:fg K H0 (upd H kp (.dK (dW lr M.last b lg lm))) kp lr lg lm xs zs {M with fire:=b}:=by
 rwa[⟨ar.updF a.s a.nk,a.nk,a.nr,a.ng,a.nm,a.rg,a.rm,a.gm,aj,?_,?_,?_,fX a.dr (cE _) a.ek,fX a.dg a.no a.ek,a.no⟩]
 ·rw [am (a.nek a.er).symm];exact a.er
 ·rw [am (a.nek a.eg).symm];exact a.eg
 ·rw [am (a.nek a.em).symm];exact a.em
theorem fg.last (a:fg K H0 H kp lr lg lm xs zs M){b:Int}:fg K H0 (upd H kp (.dK (dW lr b M.fire lg lm))) kp lr lg lm xs zs {M with last:=b}:=by
 rwa[⟨ar.updF a.s a.nk,a.nk,a.nr,a.ng,a.nm,a.rg,a.rm,a.gm,aj,?_,?_,?_,fX a.dr (cE _) a.ek,fX a.dg a.no a.ek,a.no⟩]
 ·rw [am (a.nek a.er).symm];exact a.er
 ·rw [am (a.nek a.eg).symm];exact a.eg
 ·rw [am (a.nek a.em).symm];exact a.em
theorem fg.ext (a:fg K H0 H kp lr lg lm xs zs M){vs:List V}{ds:List D}(hv:aO K H vs ds)(hn:noLs ds=true):fg K H0 (upd H lg (.lst (zs++vs))) kp lr lg lm xs (zs++vs) {M with log:=M.log++ds}:=by
 rwa[⟨ar.updF a.s a.ng,a.nk,a.nr,a.ng,a.nm,a.rg,a.rm,a.gm,?_,?_,aj,?_,cj a.dr (cE _) a.eg,?_,?_⟩]
 ·rw [am (a.nek a.eg)];exact a.ek
 ·rw [am a.rg];exact a.er
 ·rw [am a.gm.symm];exact a.em
 ·exact Paired.app (cj a.dg a.no a.eg) (cj hv hn a.eg)
 ·exact rL a.no hn
theorem fg.pR (a:fg K H0 H kp lr lg lm xs zs M){l':Addr}:pE H kp (.str (Str.ofString "riders")) (.ref l') (upd H kp (.dK (dW l' M.last M.fire lg lm))):=by
 have z:=pE.k (k:=kR) (v:= .ref l') a.ek (nL (by show 5<1000000;decide));rw [Of] at z;exact z
theorem fg.pF (a:fg K H0 H kp lr lg lm xs zs M){b:Bool}:pE H kp (.str (Str.ofString "fire")) (.bl b) (upd H kp (.dK (dW lr M.last b lg lm))):=by
 have z:=pE.k (k:=kF) (v:= .bl b) a.ek (nL (by show 5<1000000;decide));rw [Oh] at z;exact z
theorem fg.pL (a:fg K H0 H kp lr lg lm xs zs M){b:Int}:pE H kp (.str (Str.ofString "last")) (.int b) (upd H kp (.dK (dW lr b M.fire lg lm))):=by
 have z:=pE.k (k:=kL) (v:= .int b) a.ek (nL (by show 5<1000000;decide));rw [Og] at z;exact z
end
def Cb.un (c:Cb):Cb:= {c with mr:=0}
structure LI (cs0:List Cb)(M:MS):Prop where
 rel:M.cs.map Cb.un=cs0.map Cb.un
 m0:∀c∈M.cs,0<=c.mr
 m3:∀c∈M.cs,c.mr<=3
 fw:M.fire=true->M.ws=[]
theorem LI.left {cs0:List Cb}{M:MS}(o:LI cs0 M):M.cs.all cO=cs0.all cO:=by
 have e:∀cs:List Cb,cs.all cO=(cs.map Cb.un).all cO:=λcs=>by rw [List.all_map];rfl
 rw [e,o.rel,<-e]
theorem Iu {cs:List Cb}{i:Nat}{c c':Cb}(h:cs[i]? =some c)(e:c'.un=c.un):(cs.set i c').map Cb.un=cs.map Cb.un:=by
 rw [List.map_set,e];rwa[List.ext_getElem? λj=> ?_];rw [List.getElem?_set];split
 ·rename_i z;subst z;have hi:i<cs.length:=(List.getElem?_eq_some_iff.mp h).1;rw [if_pos (by rw [List.length_map];exact hi),List.getElem?_map,h];rfl
 ·rfl
theorem Ag {M:MS}{i:Int}(h:i.toNat<M.cs.length):M.cs[i.toNat]? =some (cf M i):=by
 unfold cf;rw [List.getD_eq_getElem?_getD,List.getElem?_eq_getElem h];rfl
theorem Ds {m:Int}{k:Nat}(h0:0<=m)(h3:m<=3)(hk:k=0\/k=1):Builtin.bitOr m ((2^k:Nat):Int)=((m.toNat|||2^k:Nat):Int):=by
 obtain ⟨n,rfl⟩:=Int.eq_ofNat_of_zero_le h0;exact Dr _ _
theorem EJ {m:Int}(h0:0<=m)(h3:m<=3):Builtin.bitAnd m 2=((pQ m.toNat 0:Nat):Int):=by
 rcases (show m=0\/m=1\/m=2\/m=3 by omega) with rfl|rfl|rfl|rfl<;>decide
theorem EI {m:Int}(h0:0<=m)(h3:m<=3):Builtin.bitAnd m 1=((pQ m.toNat 1:Nat):Int):=by
 rcases (show m=0\/m=1\/m=2\/m=3 by omega) with rfl|rfl|rfl|rfl<;>decide
theorem Na {m:Int}{k:Nat}(h0:0<=m)(h3:m<=3)(hk:k=0\/k=1):((m.toNat|||2^k:Nat):Int)<=3/\((pQ m.toNat k:Nat):Int)<=3:=by
 rcases hk with rfl|rfl<;>rcases (show m=0\/m=1\/m=2\/m=3 by omega) with rfl|rfl|rfl|rfl<;>decide
theorem LI.setM {cs0:List Cb}{M:MS}(o:LI cs0 M){i:Int}{k:Int}{ws:List be}(hi:i.toNat<M.cs.length)(k0:0<=k)(k3:k<=3)(hw:M.fire=true->ws=[]):LI cs0 {M with cs:=M.cs.set i.toNat {cf M i with mr:=k},ws:=ws}:=by
 rwa[⟨(Iu (c':= {cf M i with mr:=k}) (Ag hi) rfl).trans o.rel,λc hc=> ?_,λc hc=> ?_,hw⟩]
 ·rcases mZ hc with z|z
  ·exact o.m0 c z
  ·rw [z];exact k0
 ·rcases mZ hc with z|z
  ·exact o.m3 c z
  ·rw [z];exact k3
theorem LI.deed {cs0:List Cb}{M:MS}(o:LI cs0 M){lo:Nat}{fl:Int}{d:Dd}(hd:d.ok)(hf:d.fit fl M.cs.length):LI cs0 (eK lo M d):=by
 cases d with
 |come t s g k=>
  show LI cs0 (kh lo M t s g k);unfold kh;split
  ·exact ⟨o.rel,o.m0,o.m3,o.fw⟩
  split
  ·exact ⟨o.rel,o.m0,o.m3,o.fw⟩
  ·rename_i z;exact ⟨o.rel,o.m0,o.m3,λy=>absurd y z⟩
 |lf x i=>
  obtain ⟨i0,i1⟩:=hf
  have hi:i.toNat<M.cs.length:=by omega
  have m0:=o.m0 _ (j8 hi);have m3:=o.m3 _ (j8 hi)
  have fr:M.fire=true->dR i M.ws=[]:=λz=>by rw [o.fw z];rfl
  rcases hd with rfl|rfl|rfl|rfl|rfl
  ·rw [gZ];exact ⟨o.rel,o.m0,o.m3,o.fw⟩
  ·rw [gX];exact o.setM hi ↑5 (Na m0 m3 (.inl rfl)).1 fr
  ·rw [iO];exact o.setM hi ↑5 (Na m0 m3 (.inl rfl)).2 o.fw
  ·rw [gY];exact o.setM hi ↑5 (Na m0 m3 (.inr rfl)).1 fr
  ·rw [iR];exact o.setM hi ↑5 (Na m0 m3 (.inr rfl)).2 o.fw
 |sg x=>
  rcases hd with rfl|rfl
  ·rw [iP];exact ⟨o.rel,o.m0,o.m3,λ_=>rfl⟩
  ·rw [iQ];unfold pX;split
   ·exact ⟨o.rel,o.m0,o.m3,λz=>by cases z⟩
   ·exact o
theorem Mu {ps:List (Int×Int)}:sq (.tup (ps.map fb)) (.tup [])=decide (ps=[]):=by
 cases ps with
 |nil=>rfl
 |cons p ps=>rfl
theorem zE {M:MS}(h:M.fire=true)(w:M.ws=[]):xO M=M:=by
 cases M
 simp_all [xO]
theorem xN {H0 H:Hp}{kp lr lg lm:Addr}{xs zs:List V}{M:MS}{b:Bool}(h:M.fire=b)(a:fg K H0 H kp lr lg lm xs zs {M with fire:=b}):fg K H0 H kp lr lg lm xs zs M:=by
 subst h;exact a
theorem rE:∀ps:List (Int×Int),deps (ps.map fb)<=10
 |[]=>by simp [deps]
 |p::ps=>by have:=rE ps;rw [List.map_cons];simp only [deps];simp [fb,jF,deps] at *;omega
theorem AQ (ps:List (Int×Int)):jF (.tup (ps.map fb))<=60:=by
 have:=rE ps;simp only [jF];omega
inductive u9 (K:Fg)(vs:List V)(H:Hp)(Q:VK)(_e:XK):Prop
 |mk (h kp tc a H0 hs M xs cs0 d:_) (_:vs=[.ref h,.ref kp,.ref tc,.ref a]) (_:jE K H0 h hs) (_:aK K H0 tc xs) (_:Paired (cx K H0) xs cs0) (_:jv H0 a d) (_:d.fit hs.fl hs.ls.length) (_:Kp K H0 H kp M) (_:LI cs0 M) (_:M.cs.length=hs.ls.length) (_:M.ws.length<=1000) (_:M.log.length<=1000) (_:cs0.length<=10) (_:∀H',Kp K H0 H' kp (eK hs.lo M d)->Q .non H')
theorem DK (F:bY K "_law_done" "_law_done" yV f fd)(Bl:mg "all"=none)(pi:bO P w K mg base 1 "_law_come" ["_law_house_here","_law_kept_here","_law_deed_here"] (vb K)):aQ P w K mg base b8 2 f fd ["_law_house_here","_law_kept_here","_law_cabins","_law_deed_here"] (u9 K):=by
 rwa[F.ok vn ↑8 ↑2]
 ·obtain ⟨h,kp,tc,a,H0,hs,M,xs,cs0,d,rfl,_⟩:=h;rfl
 obtain ⟨h,kp,tc,a,H0,hs,M,xc,cs0,d,rfl,hH,hC,hd,⟨ea,ok⟩,fit,hK,li,cl,wl,gl,c10,q⟩:=h;have hf8:=hH.1.f8;rwa[⟨_,(af (aA (i:=4) vn.nd rfl ↑6 ↑28) (af (aJ (az ↑10 (wv 4) aq (au _)) (ag (aH (ao pi hr ↑1 rfl (ac (wv 0) (ac (wv 1) (ac (wv 3) ae)))))) aF) (af (aJ (PW.pt (cG (az ↑10 (wv 4) aq (au _)) (cu (az ↑10 (wv 4) aq (au _))))) (af (fA (aG KP (ak ↑4 ↑30 ↑28 ↑3) (bx (bX hr) (vT (fV aq aa (fV aq aa vQ)) rfl rfl ↑1 ↑1) (wv 4) ↑3)) (fB ↑30 ↑28 iq)) (ag (jb (bX hr) (wv 1) aq (bD rfl (aI (N':=["_law_one","_law_deed_here"]) (pk:=[none,some 3]) ↑33) (bg (K:=K) rfl ↑30) (λC s H ex=>(aC (i:=0) (show List.Nodup (["_law_one","_law_deed_here"]:List Str) by decide+kernel) rfl ↑6)) ↑37 (λC s H ex=>(aG ↑23 (dh (jw (K:=K) rfl) (wv 0) fm (dA aa)) (aP (ac (fR (az ↑10 ↑11 ↑14 (au _)) (iG ir aa) ↑11) ae))))) rfl))) aF) (af (aJ (PW.pt (cG (az ↑10 (wv 4) aq (au _)) (cu (az ↑10 (wv 4) aq (au _))))) (ag (fA (aG Ci (ak ↑4 ↑30 ↑28 ↑3) (bx (bX hr) (vT (fV aq aa (fV aq aa vQ)) rfl rfl ↑1 ↑1) (wv 4) ↑3)) (fB ↑30 ↑28 iq))) aF) (af (aJ (PW.pt (eR (az ↑10 (wv 4) aq (au _)) (dS (de (bt (K:=K) rfl ↑30))))) (af (aH (cz (K:=K) rfl PySem.F.plainAttrs_list PySem.F.slot_list_extend PySem.F.type_list_extend iw ↑30 (ac (bD rfl (aI (N':=["_law_one"]) (pk:=[none]) ↑33) (bg (K:=K) rfl ↑30) (λC s H ex=>(aC (i:=0) (show List.Nodup (["_law_one"]:List Str) by decide+kernel) rfl ↑6)) ↑37 (λC s H ex=>(aP (ac aq (ac ↑11 ae))))) ae))) (af (jb (bX hr) (wv 1) aq (cZ ae) rfl) (ag (jb (bX hr) (wv 1) aq gy rfl)))) aF) (ag (aJ (az ↑10 (wv 4) aq (au _)) (af (fM (i:=5) rfl vn.nd rfl ↑6 (aI (N':=["_law_cabin_here"]) (pk:=[none]) ↑33) (bg (K:=K) rfl (wv 2)) ↑31 ↑37 (λC s H ex=>(ib (ce ↑10 ↑11 aa (au _)) (ib (ce lF ↑11 aa (au _)) (jQ (ce ↑10 ↑11 (aP ae) (au _))))))) (ag (jb (bX hr) (wv 1) aq (ib ↑30 (jQ (B9 (K:=K) rfl (ax (Hh (K:=K) rfl rfl) rfl Bl boot_all (ac (wv 5) ae))))) rfl))) aF))))))),?_⟩]
 cases d with
 |come t s g k=>
  obtain ⟨s0,s1,g0,g1,ne⟩:=fit;have hK0:=hK;obtain ⟨lr,lg,lm,xs,zs,A1⟩:=hK;have hT:aK K H a [.str fS,.int t,.int s,.int g,.bl k]:=A1.s.seqT (aK.of ea);ext;erw[ai hT rfl ?_];erw[bj rfl ?_];erw[vb.mk _ _ _ _ _ _ _ _ _ _ rfl hH ea hK0 g0 ↑5 wl gl λH' hk=> ?_];erw[aB rfl ?_];erw[aB rfl ?_];erw[aB rfl ?_];erw[aB rfl ?_];erw[aB rfl ?_];erw[aB rfl ?_];rwa[aB rfl ?_];exact q H' hk
 |lf x i=>
  obtain ⟨i0,i1⟩:=fit;obtain ⟨lr,lg,lm,xs,zs,A1⟩:=hK;have hT:aK K H a [.str x,.int i]:=A1.s.seqT (aK.of ea)
  have hi:i.toNat<M.cs.length:=by omega
  have hxl:xs.length=M.ws.length:=aT (f:=be.d) A1.dr;have m0:=li.m0 _ (j8 hi);have m3:=li.m3 _ (j8 hi)
  have hat:ly (M.cs.map λc=>V.int c.mr) i=some (.int (cf M i).mr):=by
   obtain ⟨j,rfl⟩:=Int.eq_ofNat_of_zero_le i0;rw [dE (v:= .int (cf M (j:Int)).mr)];rw [List.getElem?_map];have:=Ag hi;rw [show ((j:Int)).toNat=j by omega] at this;rw [this];rfl
  have hix:xH (M.cs.map λc=>V.int c.mr).length i=some i.toNat:=by
   unfold xH;rw [List.length_map,if_pos i0,if_pos ↑5]
  have ok':x=Str.ofString "block"\/x=Str.ofString "stick"\/x=Str.ofString "free"\/x=Str.ofString "goods"\/x=Str.ofString "back":=ok
  rcases ok' with hx|hx|hx|hx|hx
  ·ext;erw[ai hT rfl ?_];erw[bz ↑7 ?_];erw[bz ↑7 ?_];erw[bz ↑7 ?_];erw[bz ↑7 ?_];erw[bz ↑7 ?_];erw[bz ↑7 ?_];erw[aB rfl ?_];rwa[bz ↑7 ?_];exact q H ⟨lr,lg,lm,xs,zs,by rw [hx,gZ];exact A1.bl⟩
  ·ext;erw[ai hT rfl ?_];erw[bz ↑7 ?_];erw[j6 hx ?_];erw[bj rfl ?_];erw[⟨kp,_,rfl,A1.gM,?_⟩];erw[ai hT rfl ?_];erw[bi (aN.of A1.em) hat ?_];intro p np;ext;rwa[⟨aj,[(Sum.inr (Str.ofString "stick"),.int 1),(Sum.inr (Str.ofString "goods"),.int 2)],rfl,by decide,?_⟩];have sP:ar H (upd (upd H p (.dK [])) p (.dK ↑19)):=ar.updF (.upd np) np;have eP:upd (upd H p (.dK [])) p (.dK ↑19) p=some (.dK ↑19):=aj;generalize upd (upd H p (.dK [])) p (.dK ↑19)=H1 at sP eP ⊢;ext
   have hg:fZ H1 p (.str x) (some (.int 1)):=by
    have z:=fZ.k (k:=Sum.inr x) eP;rw [Gs,hx] at z;rw [hx];rw [if_neg ↑26,if_pos rfl] at z;exact z
   erw[⟨p,_,rfl,hg,?_⟩];have A2:=A1.same sP;erw[⟨kp,_,rfl,A2.gM,?_⟩];erw[ai (sP.seqT hT) rfl ?_];rwa[gI A2.em hix ?_];have A3:=A2.mark (i:=i.toNat) (c:= {cf M i with mr:=Builtin.bitOr (cf M i).mr 1});have hT3:aK K (upd H1 lm (.lst ((M.cs.map λc=>V.int c.mr).set i.toNat (.int (Builtin.bitOr (cf M i).mr 1))))) a [.str x,.int i]:=aK.noL (sP.seqT hT) A2.em;have A3:fg K H0 (upd H1 lm (.lst ((M.cs.map λc=>V.int c.mr).set i.toNat (.int (Builtin.bitOr (cf M i).mr 1))))) kp lr lg lm xs zs {M with cs:=M.cs.set i.toNat {cf M i with mr:=Builtin.bitOr (cf M i).mr 1}}:=A3;generalize upd H1 lm (.lst ((M.cs.map λc=>V.int c.mr).set i.toNat (.int (Builtin.bitOr (cf M i).mr 1))))=H3 at A3 hT3 ⊢;ext;erw[⟨kp,_,rfl,A3.gR,?_⟩];rwa[cW (aN.of A3.er) ?_];rwa[bZ (xs:=xs) (λj us HX=>ar H3 HX/\aO K HX us ((dR i (M.ws.take j)).map be.d)) (bB ↑5) (λj us HX h=>by have:=aT (f:=be.d) h.2;rw [this];unfold dR;rw [List.length_map,List.length_take];exact Nat.min_le_left _ _) ⟨.refl _,.nil⟩ (λj us HX _ h=>h.1.seq (aN.of A3.er)) ↑29 (λus HX hP l n=> ?_)]
   ·obtain ⟨sX,dX⟩:=hP;obtain ⟨r,hr',dy⟩:=b6 (f:=be.d) A3.dr hy;obtain ⟨ra,rfl,hR⟩:=cB (cI.same dy sX)
    have step:∀ {v:Int},v=(if r.lift=i then -1 else r.lift)->∀(l1:Addr) (H4:Hp),ar HX H4->H4 l1=some (.tup [.int r.tag,.int r.start,.int r.goal])->DZ [.int v] H4 (λy H5=>Cl K (.ref l1) y H5 (λv H6=>ar H3 H6/\aO K H6 (us++[v]) ((dR i (M.ws.take (j+1))).map be.d))):=by
     intro v hv l1 H4 s4 e4;rwa[bK (bB (by show 1<=1000000;decide)) λl2 H5 s5 n5 e5=> ?_];show zG K l1 l2 H5 _;rwa[uM (aK.of (s5 _ _ e4)) e5 ↑27 (bB (by show 3+1<=1000000;decide)) λl3 H6 s6 e6=> ?_];rwa[⟨sX.trans (s4.trans (s5.trans s6)),?_⟩]
     have e:dR i (M.ws.take (j+1))=dR i (M.ws.take j)++[if r.lift=i then {r with lift:= -1} else r]:=by
      unfold dR;rw [List.take_add_one,hr',List.map_append];rfl
     rw [e,List.map_append];rwa[Paired.app (aO.same dX (s4.trans (s5.trans s6))) (.cons ?_ .nil)];have e6:H6 l3=some (.tup [.int r.tag,.int r.start,.int r.goal,.int v]):=e6;rw [hv] at e6;by_cases z:r.lift=i
     ·rw [if_pos z] at e6 ⊢;exact ez (aK.of e6) (.cons (.int _) (.cons (.int _) (.cons (.int _) (.cons (.int _) .nil))))
     ·rw [if_neg z] at e6 ⊢;exact ez (aK.of e6) (.cons (.int _) (.cons (.int _) (.cons (.int _) (.cons (.int _) .nil))))
    ext;erw[⟨bC,?_⟩];rwa[hI hR (by show ¬(HT.sIx 4 0 none=0/\HT.sIx 4 4 (some 3)=4);decide) λl1 H4 s4 n4 e4=> ?_];have e4:H4 l1=some (.tup [.int r.tag,.int r.start,.int r.goal]):=e4;ext;rwa[ai (s4.seqT hR) rfl ?_];have hT4:=(sX.trans s4).seqT hT3;ext;erw[ai hT4 rfl ?_];rwa[hV (λz=> ?_) (λz=> ?_)]
    ·have z:r.lift=i:=z;ext;exact step (v:= -1) (by rw [if_pos z]) l1 H4 s4 e4
    ·have z: ¬r.lift=i:=z;ext;erw[ai (s4.seqT hR) rfl ?_];exact step (v:=r.lift) (by rw [if_neg z]) l1 H4 s4 e4
   obtain ⟨sX,dX⟩:=hP;rw [hxl,List.take_of_length_le ↑15] at dX;have s5:ar HX (upd HX l (.lst us)):= .upd n;have e5:upd HX l (.lst us) l=some (.lst us):=aj;have A5:=(A3.same sX).same s5;have d5:=aO.same dX s5;have hT5:=(sX.trans s5).seqT hT3;generalize upd HX l (.lst us)=H5 at s5 e5 A5 d5 hT5 ⊢;ext;rwa[⟨kp,_,rfl,A5.pR,?_⟩]
   have ne1:l≠lg:=λz=>by have:=(A3.same sX).eg;rw [<-z,n] at this;cases this
   have ne2:l≠lm:=λz=>by have:=(A3.same sX).em;rw [<-z,n] at this;cases this
   have A6:=A5.riders (none_of (A3.same sX).s n) e5 d5 ne1 ne2;generalize upd H5 kp _=H6 at A6 ⊢;ext;erw[bz ↑7 ?_];erw[bz ↑7 ?_];erw[bz ↑7 ?_];erw[aB rfl ?_];rwa[bz ↑7 ?_];rw [show Builtin.bitOr (cf M i).mr 1=_ from Ds (k:=0) m0 m3 (.inl rfl)] at A6;exact q H6 ⟨_,_,_,_,_,by rw [hx,gX];exact A6⟩
  ·ext;erw[ai hT rfl ?_];erw[bz ↑7 ?_];erw[bz ↑7 ?_];erw[bz ↑7 ?_];erw[j6 hx ?_];erw[bj rfl ?_];erw[⟨kp,_,rfl,A1.gM,?_⟩];erw[ai hT rfl ?_];erw[bi (aN.of A1.em) hat ?_];intro p np;ext;rwa[⟨aj,[(Sum.inr (Str.ofString "free"),.int 2),(Sum.inr (Str.ofString "back"),.int 1)],rfl,by decide,?_⟩];have sP:ar H (upd (upd H p (.dK [])) p (.dK ↑21)):=ar.updF (.upd np) np;have eP:upd (upd H p (.dK [])) p (.dK ↑21) p=some (.dK ↑21):=aj;generalize upd (upd H p (.dK [])) p (.dK ↑21)=H1 at sP eP ⊢;ext
   have hg:fZ H1 p (.str x) (some (.int 2)):=by
    have z:=fZ.k (k:=Sum.inr x) eP;rw [Gs,hx] at z;rw [hx];rw [if_neg ↑26,if_pos rfl] at z;exact z
   erw[⟨p,_,rfl,hg,?_⟩];have A2:=A1.same sP;erw[⟨kp,_,rfl,A2.gM,?_⟩];erw[ai (sP.seqT hT) rfl ?_];rwa[gI A2.em hix ?_];have A3:=A2.mark (i:=i.toNat) (c:= {cf M i with mr:=Builtin.bitAnd (cf M i).mr 2});have hT3:aK K (upd H1 lm (.lst ((M.cs.map λc=>V.int c.mr).set i.toNat (.int (Builtin.bitAnd (cf M i).mr 2))))) a [.str x,.int i]:=aK.noL (sP.seqT hT) A2.em;have A3:fg K H0 (upd H1 lm (.lst ((M.cs.map λc=>V.int c.mr).set i.toNat (.int (Builtin.bitAnd (cf M i).mr 2))))) kp lr lg lm xs zs {M with cs:=M.cs.set i.toNat {cf M i with mr:=Builtin.bitAnd (cf M i).mr 2}}:=A3;generalize upd H1 lm (.lst ((M.cs.map λc=>V.int c.mr).set i.toNat (.int (Builtin.bitAnd (cf M i).mr 2))))=H3 at A3 hT3 ⊢;ext;erw[bz ↑7 ?_];erw[aB rfl ?_];rwa[bz ↑7 ?_];rw [show Builtin.bitAnd (cf M i).mr 2=_ from EJ m0 m3] at A3;exact q H3 ⟨_,_,_,_,_,by rw [hx,iO];exact A3⟩
  ·ext;erw[ai hT rfl ?_];erw[bz ↑7 ?_];erw[bz ↑7 ?_];erw[j6 hx ?_];erw[⟨kp,_,rfl,A1.gM,?_⟩];erw[ai hT rfl ?_];erw[bi (aN.of A1.em) hat ?_];intro p np;ext;rwa[⟨aj,[(Sum.inr (Str.ofString "stick"),.int 1),(Sum.inr (Str.ofString "goods"),.int 2)],rfl,by decide,?_⟩];have sP:ar H (upd (upd H p (.dK [])) p (.dK ↑19)):=ar.updF (.upd np) np;have eP:upd (upd H p (.dK [])) p (.dK ↑19) p=some (.dK ↑19):=aj;generalize upd (upd H p (.dK [])) p (.dK ↑19)=H1 at sP eP ⊢;ext
   have hg:fZ H1 p (.str x) (some (.int 2)):=by
    have z:=fZ.k (k:=Sum.inr x) eP;rw [Gs,hx] at z;rw [hx];rw [if_pos rfl] at z;exact z
   erw[⟨p,_,rfl,hg,?_⟩];have A2:=A1.same sP;erw[⟨kp,_,rfl,A2.gM,?_⟩];erw[ai (sP.seqT hT) rfl ?_];rwa[gI A2.em hix ?_];have A3:=A2.mark (i:=i.toNat) (c:= {cf M i with mr:=Builtin.bitOr (cf M i).mr 2});have hT3:aK K (upd H1 lm (.lst ((M.cs.map λc=>V.int c.mr).set i.toNat (.int (Builtin.bitOr (cf M i).mr 2))))) a [.str x,.int i]:=aK.noL (sP.seqT hT) A2.em;have A3:fg K H0 (upd H1 lm (.lst ((M.cs.map λc=>V.int c.mr).set i.toNat (.int (Builtin.bitOr (cf M i).mr 2))))) kp lr lg lm xs zs {M with cs:=M.cs.set i.toNat {cf M i with mr:=Builtin.bitOr (cf M i).mr 2}}:=A3;generalize upd H1 lm (.lst ((M.cs.map λc=>V.int c.mr).set i.toNat (.int (Builtin.bitOr (cf M i).mr 2))))=H3 at A3 hT3 ⊢;ext;erw[⟨kp,_,rfl,A3.gR,?_⟩];rwa[cW (aN.of A3.er) ?_];rwa[bZ (xs:=xs) (λj us HX=>ar H3 HX/\aO K HX us ((dR i (M.ws.take j)).map be.d)) (bB ↑5) (λj us HX h=>by have:=aT (f:=be.d) h.2;rw [this];unfold dR;rw [List.length_map,List.length_take];exact Nat.min_le_left _ _) ⟨.refl _,.nil⟩ (λj us HX _ h=>h.1.seq (aN.of A3.er)) ↑29 (λus HX hP l n=> ?_)]
   ·obtain ⟨sX,dX⟩:=hP;obtain ⟨r,hr',dy⟩:=b6 (f:=be.d) A3.dr hy;obtain ⟨ra,rfl,hR⟩:=cB (cI.same dy sX)
    have step:∀ {v:Int},v=(if r.lift=i then -1 else r.lift)->∀(l1:Addr) (H4:Hp),ar HX H4->H4 l1=some (.tup [.int r.tag,.int r.start,.int r.goal])->DZ [.int v] H4 (λy H5=>Cl K (.ref l1) y H5 (λv H6=>ar H3 H6/\aO K H6 (us++[v]) ((dR i (M.ws.take (j+1))).map be.d))):=by
     intro v hv l1 H4 s4 e4;rwa[bK (bB (by show 1<=1000000;decide)) λl2 H5 s5 n5 e5=> ?_];show zG K l1 l2 H5 _;rwa[uM (aK.of (s5 _ _ e4)) e5 ↑27 (bB (by show 3+1<=1000000;decide)) λl3 H6 s6 e6=> ?_];rwa[⟨sX.trans (s4.trans (s5.trans s6)),?_⟩]
     have e:dR i (M.ws.take (j+1))=dR i (M.ws.take j)++[if r.lift=i then {r with lift:= -1} else r]:=by
      unfold dR;rw [List.take_add_one,hr',List.map_append];rfl
     rw [e,List.map_append];rwa[Paired.app (aO.same dX (s4.trans (s5.trans s6))) (.cons ?_ .nil)];have e6:H6 l3=some (.tup [.int r.tag,.int r.start,.int r.goal,.int v]):=e6;rw [hv] at e6;by_cases z:r.lift=i
     ·rw [if_pos z] at e6 ⊢;exact ez (aK.of e6) (.cons (.int _) (.cons (.int _) (.cons (.int _) (.cons (.int _) .nil))))
     ·rw [if_neg z] at e6 ⊢;exact ez (aK.of e6) (.cons (.int _) (.cons (.int _) (.cons (.int _) (.cons (.int _) .nil))))
    ext;erw[⟨bC,?_⟩];rwa[hI hR (by show ¬(HT.sIx 4 0 none=0/\HT.sIx 4 4 (some 3)=4);decide) λl1 H4 s4 n4 e4=> ?_];have e4:H4 l1=some (.tup [.int r.tag,.int r.start,.int r.goal]):=e4;ext;rwa[ai (s4.seqT hR) rfl ?_];have hT4:=(sX.trans s4).seqT hT3;ext;erw[ai hT4 rfl ?_];rwa[hV (λz=> ?_) (λz=> ?_)]
    ·have z:r.lift=i:=z;ext;exact step (v:= -1) (by rw [if_pos z]) l1 H4 s4 e4
    ·have z: ¬r.lift=i:=z;ext;erw[ai (s4.seqT hR) rfl ?_];exact step (v:=r.lift) (by rw [if_neg z]) l1 H4 s4 e4
   obtain ⟨sX,dX⟩:=hP;rw [hxl,List.take_of_length_le ↑15] at dX;have s5:ar HX (upd HX l (.lst us)):= .upd n;have e5:upd HX l (.lst us) l=some (.lst us):=aj;have A5:=(A3.same sX).same s5;have d5:=aO.same dX s5;have hT5:=(sX.trans s5).seqT hT3;generalize upd HX l (.lst us)=H5 at s5 e5 A5 d5 hT5 ⊢;ext;rwa[⟨kp,_,rfl,A5.pR,?_⟩]
   have ne1:l≠lg:=λz=>by have:=(A3.same sX).eg;rw [<-z,n] at this;cases this
   have ne2:l≠lm:=λz=>by have:=(A3.same sX).em;rw [<-z,n] at this;cases this
   have A6:=A5.riders (none_of (A3.same sX).s n) e5 d5 ne1 ne2;generalize upd H5 kp _=H6 at A6 ⊢;ext;erw[bz ↑7 ?_];erw[bz ↑7 ?_];erw[bz ↑7 ?_];erw[aB rfl ?_];rwa[bz ↑7 ?_];rw [show Builtin.bitOr (cf M i).mr 2=_ from Ds (k:=1) m0 m3 (.inr rfl)] at A6;exact q H6 ⟨_,_,_,_,_,by rw [hx,gY];exact A6⟩
  ·ext;erw[ai hT rfl ?_];erw[bz ↑7 ?_];erw[bz ↑7 ?_];erw[bz ↑7 ?_];erw[bz ↑7 ?_];erw[j6 hx ?_];erw[⟨kp,_,rfl,A1.gM,?_⟩];erw[ai hT rfl ?_];erw[bi (aN.of A1.em) hat ?_];intro p np;ext;rwa[⟨aj,[(Sum.inr (Str.ofString "free"),.int 2),(Sum.inr (Str.ofString "back"),.int 1)],rfl,by decide,?_⟩];have sP:ar H (upd (upd H p (.dK [])) p (.dK ↑21)):=ar.updF (.upd np) np;have eP:upd (upd H p (.dK [])) p (.dK ↑21) p=some (.dK ↑21):=aj;generalize upd (upd H p (.dK [])) p (.dK ↑21)=H1 at sP eP ⊢;ext
   have hg:fZ H1 p (.str x) (some (.int 1)):=by
    have z:=fZ.k (k:=Sum.inr x) eP;rw [Gs,hx] at z;rw [hx];rw [if_pos rfl] at z;exact z
   erw[⟨p,_,rfl,hg,?_⟩];have A2:=A1.same sP;erw[⟨kp,_,rfl,A2.gM,?_⟩];erw[ai (sP.seqT hT) rfl ?_];rwa[gI A2.em hix ?_];have A3:=A2.mark (i:=i.toNat) (c:= {cf M i with mr:=Builtin.bitAnd (cf M i).mr 1});have hT3:aK K (upd H1 lm (.lst ((M.cs.map λc=>V.int c.mr).set i.toNat (.int (Builtin.bitAnd (cf M i).mr 1))))) a [.str x,.int i]:=aK.noL (sP.seqT hT) A2.em;have A3:fg K H0 (upd H1 lm (.lst ((M.cs.map λc=>V.int c.mr).set i.toNat (.int (Builtin.bitAnd (cf M i).mr 1))))) kp lr lg lm xs zs {M with cs:=M.cs.set i.toNat {cf M i with mr:=Builtin.bitAnd (cf M i).mr 1}}:=A3;generalize upd H1 lm (.lst ((M.cs.map λc=>V.int c.mr).set i.toNat (.int (Builtin.bitAnd (cf M i).mr 1))))=H3 at A3 hT3 ⊢;ext;erw[bz ↑7 ?_];erw[aB rfl ?_];rwa[bz ↑7 ?_];rw [show Builtin.bitAnd (cf M i).mr 1=_ from EI m0 m3] at A3;exact q H3 ⟨_,_,_,_,_,by rw [hx,iR];exact A3⟩
 |sg x=>
  obtain ⟨lr,lg,lm,xs,zs,A1⟩:=hK;have hT:aK K H a [.str x]:=A1.s.seqT (aK.of ea);have hxl:xs.length=M.ws.length:=aT (f:=be.d) A1.dr;have hzl:zs.length=M.log.length:=A1.dg.len;have ok':x=Str.ofString "fire"\/x=Str.ofString "calm":=ok
  rcases ok' with hx|hx
  ·ext;erw[ai hT rfl ?_];erw[bz ↑7 ?_];erw[bz ↑7 ?_];erw[bz ↑7 ?_];erw[bz ↑7 ?_];erw[bz ↑7 ?_];erw[j6 hx ?_];erw[⟨kp,_,rfl,A1.gF,?_⟩];rw [hx,iP] at q
   cases hf:M.fire with
   |true=>
    erw[aB rfl ?_];rwa[bz ↑7 ?_];exact q H ⟨lr,lg,lm,xs,zs,by rw [zE hf (li.fw hf)];exact A1⟩
   |false=>
    erw[bj rfl ?_];erw[⟨kp,_,rfl,A1.gG,?_⟩];erw[⟨.inl ⟨rfl,_,aN.of A1.eg⟩,?_⟩];erw[⟨kp,_,rfl,A1.gR,?_⟩];rwa[cW (aN.of A1.er) ?_];rwa[bZ (xs:=xs) (λj us HX=>ar H HX/\aO K HX us ((M.ws.take j).map λr=>tS r.tag)) (bB ↑5) (λj us HX h=>by rw [h.2.len,List.length_map,List.length_take];exact Nat.min_le_left _ _) ⟨.refl _,.nil⟩ (λj us HX _ h=>h.1.seq (aN.of A1.er)) ↑29 (λus HX hP l n=> ?_)]
    ·obtain ⟨sX,dX⟩:=hP;obtain ⟨r,hr',dy⟩:=b6 (f:=be.d) A1.dr hy;obtain ⟨ra,rfl,hR⟩:=cB (cI.same dy sX);ext;erw[⟨bC,?_⟩];erw[ai hR rfl ?_];rwa[bK ↑17 λl1 H4 s4 n4 e4=>⟨sX.trans s4,?_⟩];rw [List.take_add_one,hr',List.map_append];exact Paired.app (aO.same dX s4) (.cons (ez (aK.of e4) (.cons (.str _) (.cons (.int _) .nil))) .nil)
    obtain ⟨sX,dX⟩:=hP;rw [hxl,List.take_of_length_le ↑15] at dX
    have ul:us.length=M.ws.length:=by rw [dX.len,List.length_map]
    have s5:ar HX (upd HX l (.lst us)):= .upd n;have e5:upd HX l (.lst us) l=some (.lst us):=aj;have A5:=(A1.same sX).same s5;have d5:=aO.same dX s5;generalize upd HX l (.lst us)=H5 at s5 e5 A5 d5 ⊢;ext;rwa[uE A5.eg e5 (bB ↑5) ?_];have A6:=A5.ext d5 (xv M.ws);generalize upd H5 lg _=H6 at A6 ⊢;ext;rwa[iI ↑35 λl7 H7 s7 n7 e7=> ?_];have A7:=A6.same s7;ext;rwa[⟨kp,_,rfl,A7.pR,?_⟩]
    have ne1:l7≠lg:=λz=>by have:=A6.eg;rw [<-z,n7] at this;cases this
    have ne2:l7≠lm:=λz=>by have:=A6.em;rw [<-z,n7] at this;cases this
    have A8:=A7.riders (ws':=[]) (none_of A6.s n7) e7 .nil ne1 ne2;generalize upd H7 kp _=H8 at A8 ⊢;ext;rwa[⟨kp,_,rfl,A8.pF (b:=true),?_⟩];have A9:=A8.fire (b:=true);generalize upd H8 kp _=H9 at A9 ⊢;ext;rwa[bz ↑7 ?_];exact q H9 ⟨_,_,_,_,_,A9⟩
  ·ext;erw[ai hT rfl ?_];erw[bz ↑7 ?_];erw[bz ↑7 ?_];erw[bz ↑7 ?_];erw[bz ↑7 ?_];erw[bz ↑7 ?_];erw[bz ↑7 ?_];erw[aB rfl ?_];erw[j6 hx ?_];rw [hx,iQ] at q;have hCH:=A1.s.seqT hC;have xcl:xc.length=cs0.length:=hd.len;rwa[dj hCH ?_];rwa[ck (xs:=xc) (λj us HX=>ar H HX/\us=((cs0.take j).map cO).map V.bl) (bB ↑5) ↑24 ⟨.refl _,rfl⟩ (λj us HX _ h=>h.1.seqT hCH) ↑29 (λus HX hP l n=> ?_)]
   ·obtain ⟨sX,rfl⟩:=hP;obtain ⟨c,hc,t,rfl,b,bs,et,eb,db⟩:=hd.get1 hy;have s0X:=A1.s.trans sX;have hcT:=s0X.seqT (aK.of (K:=K) et)
    have e:(cs0.take (j+1)).map cO=(cs0.take j).map cO++[cO c]:=by rw [List.take_add_one,hc,List.map_append];rfl
    rw [e,List.map_append];ext;erw[⟨bC,?_⟩];erw[ai hcT rfl ?_];rwa[hV (λz0=> ?_) (λz0=> ?_)]
    ·have z0:c.pl=0:=z0;ext;erw[ai hcT rfl ?_];rwa[hV (λz1=> ?_) (λz1=> ?_)]
     ·have z1:0<c.dr:=z1;ext;erw[ai hcT rfl ?_];erw[bK ↑35 λl1 H4 s4 n4 e4=> ?_];have d1:cI K H4 (.ref b) (.tup (c.ps.map fb)):=ez ((s0X.trans s4).seqT (aK.of eb)) (aO.same db (s0X.trans s4));rwa[Ke d1 (ez (aK.of e4) .nil) ?_ ?_]
      ·exact AQ c.ps
      rw [Mu];rwa[⟨sX.trans s4,?_⟩];unfold cO;rw [decide_eq_true z0,decide_eq_true z1];rfl
     ·have z1: ¬0<c.dr:=z1;rwa[⟨sX,?_⟩];unfold cO;rw [decide_eq_true z0,decide_eq_false z1];rfl
    ·have z0: ¬c.pl=0:=z0;rwa[⟨sX,?_⟩];unfold cO;rw [decide_eq_false z0];rfl
   obtain ⟨sX,rfl⟩:=hP;rw [xcl,List.take_of_length_le ↑15];have s5:ar HX (upd HX l (.lst ((cs0.map cO).map V.bl))):= .upd n;have e5:upd HX l (.lst ((cs0.map cO).map V.bl)) l=some (.lst ((cs0.map cO).map V.bl)):=aj;have A5:=(A1.same sX).same s5;generalize upd HX l (.lst ((cs0.map cO).map V.bl))=H5 at s5 e5 A5 ⊢
   have ha:(cs0.map cO).all id=M.cs.all cO:=by rw [li.left,List.all_map];rfl
   unfold pX at q;ext;erw[⟨kp,_,rfl,A5.gF,?_⟩]
   cases hf:M.fire with
   |true=>
    erw[bj rfl ?_];rwa[HH (aN.of e5) ?_];rw [ha];ext;by_cases z:M.cs.all cO=true
    ·rw [if_pos z] at q;rw [z];rwa[⟨kp,_,rfl,A5.pF (b:=false),?_⟩];exact q _ ⟨_,_,_,_,_,A5.fire (b:=false)⟩
    ·rw [if_neg z] at q;rw [Bool.eq_false_iff.mpr z];rwa[⟨kp,_,rfl,A5.pF (b:=true),?_⟩];have A6:=A5.fire (b:=true);exact q _ ⟨_,_,_,_,_,xN hf A6⟩
   |false=>
    erw[aB rfl ?_];rwa[⟨kp,_,rfl,A5.pF (b:=false),?_⟩];have A6:=A5.fire (b:=false);by_cases z:M.cs.all cO=true
    ·rw [if_pos z] at q;exact q _ ⟨_,_,_,_,_,A6⟩
    ·rw [if_neg z] at q;exact q _ ⟨_,_,_,_,_,xN hf A6⟩
theorem mW {kvs:List (cX×V)}{k:cX}{v:V}(h:eS kvs k=none):cK kvs k v=kvs++[(k,v)]:=by
 unfold cK;rw [if_neg (by rw [ix,h];decide)]
theorem JQ {lr lg lm:Addr}{la:Int}{fi:Bool}:cK (bR [] [(kR,.ref lr),(kL,.int la),(kF,.bl fi),(kG,.ref lg)]) kM (.ref lm)=dW lr la fi lg lm:=by
 have e0:eS ([]:List (cX×V)) kR=none:=rfl;have e1:cK ([]:List (cX×V)) kR (.ref lr)=[(kR,.ref lr)]:=mW e0;have e2:cK [(kR,V.ref lr)] kL (.int la)=[(kR,.ref lr),(kL,.int la)]:=mW (by rw [bb (by rw [JY];exact id)];rfl);have e3:cK [(kR,V.ref lr),(kL,.int la)] kF (.bl fi)=[(kR,.ref lr),(kL,.int la),(kF,.bl fi)]:=mW (by rw [bb (by rw [JZ];exact id),bb (by rw [J0];exact id)];rfl);have e4:cK [(kR,V.ref lr),(kL,.int la),(kF,.bl fi)] kG (.ref lg)=[(kR,.ref lr),(kL,.int la),(kF,.bl fi),(kG,.ref lg)]:=mW (by rw [bb (by rw [Mh];exact id),bb (by rw [Mj];exact id),bb (by rw [Mn];exact id)];rfl);have e5:cK [(kR,V.ref lr),(kL,.int la),(kF,.bl fi),(kG,.ref lg)] kM (.ref lm)=[(kR,.ref lr),(kL,.int la),(kF,.bl fi),(kG,.ref lg),(kM,.ref lm)]:=mW (by rw [bb (by rw [Mg];exact id),bb (by rw [Mi];exact id),bb (by rw [Mm];exact id),bb (by rw [Ml];exact id)];rfl);show cK (cK (cK (cK (cK [] kR (.ref lr)) kL (.int la)) kF (.bl fi)) kG (.ref lg)) kM (.ref lm)=_;rw [e1,e2,e3,e4,e5];rfl
theorem cx.noK {H:Hp}{x:V}{c:Cb}{p:Addr}{kvs:List (cX×V)}{o:HO}(h:cx K H x c)(hp:H p=some (.dK kvs)):cx K (upd H p o) x c:=by
 obtain ⟨t,rfl,b,bs,et,eb,db⟩:=h;exact ⟨t,rfl,b,bs,by rw [am (λz=>by rw [z,hp] at et;cases et)];exact et,by rw [am (λz=>by rw [z,hp] at eb;cases eb)];exact eb,fX db (gB _) hp⟩
section
variable {H0 H H':Hp}{kp lr lg lm:Addr}{xs zs:List V}{M:MS}
theorem fg.setR (a:fg K H0 H kp lr lg lm xs zs M){i:Nat}{v:V}{r:be}(hv:cI K H v (be.d r)):fg K H0 (upd H lr (.lst (xs.set i v))) kp lr lg lm (xs.set i v) zs {M with ws:=M.ws.set i r}:=by
 rwa[⟨ar.updF a.s a.nr,a.nk,a.nr,a.ng,a.nm,a.rg,a.rm,a.gm,?_,aj,?_,?_,?_,cj a.dg a.no a.er,a.no⟩]
 ·rw [am (a.nek a.er)];exact a.ek
 ·rw [am a.rg.symm];exact a.eg
 ·rw [am a.rm.symm];exact a.em
 ·show aO K _ _ ((M.ws.set i r).map be.d);rw [List.map_set];exact jc (cj a.dr (cE _) a.er) (cI.noL (d:=be.d r) hv rfl a.er)
theorem fg.other (a:fg K H0 H kp lr lg lm xs zs M){lc:Addr}{us:List V}{o:HO}(n:H0 lc=none)(e:H lc=some (.lst us))(n1:lc≠lr)(n2:lc≠lg)(n3:lc≠lm):fg K H0 (upd H lc o) kp lr lg lm xs zs M:=by
 rwa[⟨ar.updF a.s n,a.nk,a.nr,a.ng,a.nm,a.rg,a.rm,a.gm,?_,?_,?_,?_,cj a.dr (cE _) e,cj a.dg a.no e,a.no⟩]
 ·rw [am (a.nek e)];exact a.ek
 ·rw [am n1.symm];exact a.er
 ·rw [am n2.symm];exact a.eg
 ·rw [am n3.symm];exact a.em
end
theorem LI.deeds {cs0:List Cb}{M:MS}(o:LI cs0 M){hs:Hs}(hl:M.cs.length=hs.ls.length):∀ {ds:List Dd},(∀d∈ds,d.ok/\d.fit hs.fl hs.ls.length)->∀i,LI cs0 (bJ hs.lo M (ds.take i))/\(bJ hs.lo M (ds.take i)).cs.length=hs.ls.length
 |ds,h,0=>by
  rw [List.take_zero];exact ⟨o,hl⟩
 |ds,h,i+1=>by
  have z:=LI.deeds o hl h i
  cases e:ds[i]? with
  |none=>
   rw [List.take_add_one,e];simp only [Option.toList_none,List.append_nil];exact z
  |some d=>
   rw [jj e];have hd:=h d (List.mem_of_getElem? e);have y:=z.1.deed (lo:=hs.lo) (fl:=hs.fl) hd.1 (by rw [z.2];exact hd.2);exact ⟨y,by rw [<-List.length_map (f:=Cb.un),y.rel,<-z.1.rel,List.length_map];exact z.2⟩
theorem xS {dl:yc}{W:List be}{M:MS}{j:Nat}:∀i,i<=j->(bu dl W i M).ws[j]? =M.ws[j]?
 |0,_=>rfl
 |i+1,h=>by
  have z:=xS (dl:=dl) (W:=W) (M:=M) (j:=j) i ↑5;unfold bu;split
  ·rename_i r _;split
   ·unfold g8;split
    ·exact z
    ·show ((bu dl W i M).ws.set i _)[j]? =_;rw [List.getElem?_set_ne ↑5];exact z
   ·exact z
  ·exact z
theorem Ki {cs:List Cb}{ws:List be}{r:be}{last:Int}:(iN cs ws r last).1= -1\/0<=(iN cs ws r last).1:=by
 unfold iN;split
 ·exact .inl rfl
 split
 ·exact .inl rfl
 ·right
  show 0<=(nN cs).getD _ 0;rw [List.getD_eq_getElem?_getD]
  cases e:(nN cs)[(vZ cs ws r last% ((nN cs).length:Int)).toNat]? with
  |none=>exact Int.le_refl _
  |some v=>
   have:=List.mem_of_getElem? e;unfold nN at this;obtain ⟨n,_,rfl⟩:=List.mem_map.mp this;show (0:Int)<=(n:Int);omega
theorem BB {M:MS}{p:Nat}{r:be}(hp:M.ws[p]? =some r)(hr:r.lift= -1):g8 iN M p r= {M with last:=(iN M.cs M.ws r M.last).2,ws:=M.ws.set p {r with lift:=(iN M.cs M.ws r M.last).1},log:=if (iN M.cs M.ws r M.last).1> -1 then M.log++[C8 r.tag (iN M.cs M.ws r M.last).1] else M.log}:=by
 unfold g8
 rcases (Ki (cs:=M.cs) (ws:=M.ws) (r:=r) (last:=M.last)) with e|e
 ·rw [if_pos e,e,if_neg ↑1]
  have e2:M.ws.set p {r with lift:= -1}=M.ws:=by
   have:({r with lift:= -1}:be)=r:=by cases r;simp_all
   rw [this];rwa[List.ext_getElem? λj=> ?_];rw [List.getElem?_set];split
   ·rename_i z;subst z;rw [if_pos (List.getElem?_eq_some_iff.mp hp).1,hp]
   ·rfl
  rw [e2]
 ·rw [if_neg ↑5,if_pos ↑5]
inductive yB (K:Fg)(vs:List V)(H:Hp)(Q:VK)(_e:XK):Prop
 |mk (h st dl hs cs ws last fire ds:_) (_:vs=[.ref h,.ref st,.ref dl]) (_:jE K H h hs) (_:gk K H st cs ws last fire) (_:kA K H dl ds) (_:mI hs ws.length ⟨cs,ws,last,fire,0,[]⟩) (_:LI cs ⟨cs,ws,last,fire,0,[]⟩) (_:ws.length+ds.length<=64) (_:bv hs.fl hs.ls.length (bM cs ws) ds= .good) (_:∀kp H',Kp K H H' kp (jd iN ↑43)->Q (.ref kp) H')
theorem Gg (F:bY K "_law_kept" "_law_kept" yT f fd)(eF:mg "list"=none)(bA:mg "range"=none)(bh:mg "len"=none)(pe:bO P w K mg base 2 "_law_done" ["_law_house_here","_law_kept_here","_law_cabins","_law_deed_here"] (u9 K))(gC:bO P w K mg base 1 "_law_deal" ["_law_cabins","_law_waiting","_law_rider_here","_law_last"] (kI K)):aQ P w K mg base b8 3 f fd ["_law_house_here","_law_state_here","_law_deeds"] (yB K):=by
 rwa[F.ok hJ ↑8 ↑2]
 ·obtain ⟨h,st,dl,hs,cs,ws,last,fire,ds,rfl,_⟩:=h;rfl
 obtain ⟨h,st,dl,hs,cs,ws,last,fire,ds,rfl,hH,⟨tc,tw,xc,yw,h1,h2,h3,h4,h5⟩,⟨xd,hxd,pd⟩,mok,li,n64,hb,q⟩:=h;have xcl:xc.length=cs.length:=h4.len;have ywl:yw.length=ws.length:=aT (f:=be.d) h5;have xdl:xd.length=ds.length:=pd.len;have csl:cs.length=hs.ls.length:=mok.len;have l1:=hH.1.l1;have l3:=hH.1.l3;have fit:=nv hb
 have okd:∀d∈ds,d.ok/\d.fit hs.fl hs.ls.length:=λd hd=>by
  obtain ⟨i,hi⟩:=List.mem_iff_getElem?.mp hd;obtain ⟨x,hx,ad,_,hdd⟩:=pd.get2 hi;exact ⟨hdd.2,fit d hd⟩
 erw[⟨_,(af (aA (i:=3) hJ.nd rfl ↑6 (vT (fV aq (br (lE (K:=K) rfl) rfl eF boot_list (ac ↑14 ae)) (fV aq ↑14 (fV aq ↑14 (fV aq (cZ ae) vQ)))) rfl rfl ↑1 ↑1)) (af (jb (bX hr) (wv 3) aq (bD rfl (aI (N':=["_law_cabin_here"]) (pk:=[none]) ↑33) (bg (K:=K) rfl ↑14) ↑31 ↑37 (λC s H ex=>↑11)) rfl) (af (du PassesOwn.never rfl (bg (K:=K) rfl (wv 2)) (aC (i:=4) hJ.nd rfl ↑6) (ag (aH (ao pe hr ↑1 rfl (ac (wv 0) (ac (wv 3) (ac ↑14 (ac (wv 4) ae)))))))) (af (aJ (bt (K:=K) rfl (bx (bX hr) (wv 3) aq ↑3)) (ag (aD (wv 3))) aF) (af (aA (i:=5) hJ.nd rfl ↑6 (cZ ae)) (af (du PassesOwn.never rfl (cy rfl bA (ac (ax ↑32 rfl bh PySem.boot_len (ac ↑14 ae)) ae)) (aC (i:=6) hJ.nd rfl ↑6) (ag (aH (cz (K:=K) rfl PySem.F.plainAttrs_list PySem.F.slot_list_append PySem.F.type_list_append bw (wv 5) (ac (aG ↑23 (aG ↑23 (dh (jw (K:=K) rfl) (ak ↑4 ↑14 (wv 6) ↑3) fm (dA aa)) (aP (ac (ak ↑4 (bx (bX hr) (wv 3) aq ↑3) (wv 6) ↑3) ae))) (dh (jw (K:=K) rfl) (ak ↑4 ↑14 (wv 6) ↑3) (dA aa) fm)) ae))))) (af (du PassesOwn.never rfl (cy rfl bA (ac (ax ↑32 rfl bh PySem.boot_len (ac (bx (bX hr) (wv 3) aq ↑3) ae)) ae)) (aC (i:=6) hJ.nd rfl ↑6) (af (aA (i:=7) hJ.nd rfl ↑6 (ak ↑4 (bx (bX hr) (wv 3) aq ↑3) (wv 6) ↑3)) (ag (aJ (az ↑10 (ak ↑4 (wv 7) aa ↑3) (iG ir aa) (au _)) (af (aA (i:=8) hJ.nd rfl ↑6 (ao gC hr ↑1 rfl (ac (wv 5) (ac (bx (bX hr) (wv 3) aq ↑3) (ac (wv 7) (ac (bx (bX hr) (wv 3) aq ↑3) ae)))))) (af (jb (bX hr) (wv 3) aq (ak ↑4 (wv 8) aa ↑3) rfl) (af (fA (aG ↑23 (dh (jw (K:=K) rfl) (wv 7) fm (dA aa)) (aP (ac (ak ↑4 (wv 8) aa ↑3) ae))) (fB (bx (bX hr) (wv 3) aq ↑3) (wv 6) iq)) (ag (aJ (az lF (ak ↑4 (wv 8) aa ↑3) (iG ir aa) (au _)) (ag (aH (cz (K:=K) rfl PySem.F.plainAttrs_list PySem.F.slot_list_append PySem.F.type_list_append bw (bx (bX hr) (wv 3) aq ↑3) (ac (aP (ac aq (ac (ak ↑4 (wv 7) aa ↑3) (ac (ak ↑4 (wv 8) aa ↑3) ae)))) ae)))) aF))))) aF)))) (ag (aD (wv 3)))))))))),?_⟩];intro kp nkp;have sA:ar H (upd H kp (.dK [])):= .upd nkp;have ekA:upd H kp (.dK []) kp=some (.dK []):=aj;generalize upd H kp (.dK [])=HA at sA ekA ⊢;ext;erw[ai (sA.seqT h1) rfl ?_];erw[jf (.inr (sA.seqT h3)) λlr HB sB nrB erB=> ?_];erw[ai (sB.seqT (sA.seqT h1)) rfl ?_];erw[ai (sB.seqT (sA.seqT h1)) rfl ?_];rwa[iI ↑35 λlg HC sC ngC egC=> ?_];have sAC:=sB.trans sC;rwa[⟨sAC _ _ ekA,[(kR,.ref lr),(kL,.int last),(kF,.bl fire),(kG,.ref lg)],rfl,by show 4<=15;decide,?_⟩];have ekC:=sAC _ _ ekA
 have nkr:kp≠lr:=λz=>by rw [<-z,ekA] at nrB;cases nrB
 have nkg:kp≠lg:=λz=>by rw [<-z,sB _ _ ekA] at ngC;cases ngC
 have nrg:lr≠lg:=λz=>by rw [<-z,erB] at ngC;cases ngC
 have sHC:=sA.trans sAC;have n0r:H lr=none:=none_of sA nrB;have n0g:H lg=none:=none_of (sA.trans sB) ngC;have sD:ar H (upd HC kp (.dK ↑42)):=ar.updF sHC nkp;have ekD:upd HC kp (.dK ↑42) kp=some (.dK ↑42):=aj
 have erD:upd HC kp (.dK ↑42) lr=some (.lst yw):=by rw [am nkr.symm];exact sC _ _ erB
 have egD:upd HC kp (.dK ↑42) lg=some (.lst []):=by rw [am nkg.symm];exact egC
 generalize upd HC kp (.dK ↑42)=HD at sD ekD erD egD ⊢;ext;erw[ai (sD.seqT h1) rfl ?_];rwa[dj (sD.seqT h2) ?_];rwa[ck (xs:=xc) (λj us HX=>HX=HD/\us=(cs.take j).map λc=>V.int c.mr) (bB ↑5) (λj us HX h=>by rw [h.2,List.length_map,List.length_take];exact Nat.min_le_left _ _) ⟨rfl,rfl⟩ (λj us HX _ h=>by rw [h.1];exact sD.seqT h2) ↑29 (λus HX hP lm nm=> ?_)]
 ·obtain ⟨rfl,rfl⟩:=hP;obtain ⟨c,hc,t,rfl,b,bs,et,eb,db⟩:=h4.get1 hy;ext;erw[⟨bC,?_⟩];rwa[ai (sD.seqT (aK.of et)) rfl ?_];rwa[⟨rfl,?_⟩];rw [List.take_add_one,hc,List.map_append];rfl
 obtain ⟨rfl,rfl⟩:=hP;rw [xcl,List.take_of_length_le ↑15];have sE:ar HX (upd HX lm (.lst (cs.map λc=>V.int c.mr))):= .upd nm;have emE:upd HX lm (.lst (cs.map λc=>V.int c.mr)) lm=some (.lst (cs.map λc=>V.int c.mr)):=aj;generalize upd HX lm (.lst (cs.map λc=>V.int c.mr))=HE at sE emE ⊢;have ekE:=sE _ _ ekD
 have nkm:kp≠lm:=λz=>by rw [<-z,ekD] at nm;cases nm
 have nrm:lr≠lm:=λz=>by rw [<-z,erD] at nm;cases nm
 have ngm:lg≠lm:=λz=>by rw [<-z,egD] at nm;cases nm
 have n0m:H lm=none:=none_of sD nm
 have hput:pE HE kp (.str (Str.ofString "marks")) (.ref lm) (upd HE kp (.dK (dW lr last fire lg lm))):=by
  have z:=pE.k (k:=kM) (v:= .ref lm) ekE (nL (Nat.lt_of_le_of_lt (ij _ _) (by show 0+4<1000000;decide)));rw [JQ] at z;exact z
 ext;rwa[⟨kp,_,rfl,hput,?_⟩]
 have A0:fg K H (upd HE kp (.dK (dW lr last fire lg lm))) kp lr lg lm yw [] ⟨cs,ws,last,fire,0,[]⟩:=by
  rwa[⟨ar.updF (sD.trans sE) nkp,nkp,n0r,n0g,n0m,nrg,nrm,ngm,aj,?_,?_,?_,fX (aO.same h5 (sD.trans sE)) (cE _) ekE,.nil,rfl⟩]
  ·rw [am nkr.symm];exact sE _ _ erD
  ·rw [am nkg.symm];exact sE _ _ egD
  ·rw [am nkm.symm];exact emE
 generalize upd HE kp (.dK (dW lr last fire lg lm))=HF at A0 ⊢;generalize hM0:(⟨cs,ws,last,fire,0,[]⟩:MS)=M0 at *
 have hM0c:M0.cs.length=hs.ls.length:=by rw [<-hM0];exact csl
 have mid:∀i,mI hs (ws.length+i) (bJ hs.lo M0 (ds.take i)):=λi=>mok.deeds okd i;have lis:=li.deeds hM0c okd;ext;rwa[cW (A0.s.seq hxd) ?_];rwa[fH (xs:=xd) (λi σ HX=>Kp K H HX kp (bJ hs.lo M0 (ds.take i))/\∃o,σ=[some (.ref h),some (.ref st),some (.ref dl),some (.ref kp),o,none,none,none,none]) ⟨by rw [List.take_zero];exact ⟨_,_,_,_,_,A0⟩,_,rfl⟩ (λi σ HX _ pv=>by obtain ⟨⟨_,_,_,_,_,a⟩,_⟩:=pv;exact a.s.seq hxd) (λi x σ HX hx pv=> ?_) (λσ HX pv=> ?_)]
 ·obtain ⟨hk,o,rfl⟩:=pv;obtain ⟨_,_,_,_,_,a⟩:=id hk;obtain ⟨d,hd,ad,rfl,had⟩:=pd.get1 hx;have hi:i<ds.length:=(List.getElem?_eq_some_iff.mp hd).1;have mi:=mid i;have smi:=mi.sum;ext;erw[ai (a.s.seqT h1) rfl ?_];rwa[u9.mk _ _ _ _ _ _ _ _ _ _ rfl hH h2 h4 had (fit d (List.mem_of_getElem? hd)) hk (lis i).1 (lis i).2 ↑5 ↑5 ↑5 λH' hk'=> ?_];rwa[⟨?_,_,rfl⟩];rw [jj hd];exact hk'
 obtain ⟨hk,o,rfl⟩:=pv;rw [xdl,List.take_length] at hk;have mL:=mid ds.length;have lL:=lis ds.length;rw [List.take_length] at mL lL;generalize bJ hs.lo M0 ds=M1 at *;obtain ⟨lr1,lg1,lm1,xs1,zs1,A1⟩:=hk;have sm1:=mL.sum;unfold jd at q;ext;erw[⟨kp,_,rfl,A1.gF,?_⟩]
 cases hf:M1.fire with
 |true=>
  rwa[bj rfl ?_];rw [if_pos hf] at q;exact q kp HX ⟨_,_,_,_,_,A1⟩
 |false=>
 rwa[aB rfl ?_];rw [if_neg (by rw [hf];decide)] at q;ext;rwa[iI ↑35 λlc HG sG nlc elc=> ?_];have A2:=A1.same sG;have n0c:H lc=none:=none_of A1.s nlc
 have ncr:lc≠lr1:=λz=>by have:=A1.er;rw [<-z,nlc] at this;cases this
 have ncg:lc≠lg1:=λz=>by have:=A1.eg;rw [<-z,nlc] at this;cases this
 have ncm:lc≠lm1:=λz=>by have:=A1.em;rw [<-z,nlc] at this;cases this
 ext;erw[ai (A2.s.seqT h1) rfl ?_];rwa[cY (A2.s.seqT h2) ?_];rw [xcl];ext;rwa[⟨⟨by omega,by omega⟩,?_⟩]
 have c1l:M1.cs.length=cs.length:=by rw [lL.2,csl]
 have hnn:((cs.length:Int)).toNat=cs.length:=by omega
 rwa[fG (λi σ HY=>fg K H HY kp lr1 lg1 lm1 xs1 zs1 M1/\(∃us:List V,HY lc=some (.lst us)/\Paired (cx K HY) us (M1.cs.take i)/\us.length=i)/\∃o6,σ=[some (.ref h),some (.ref st),some (.ref dl),some (.ref kp),o,some (.ref lc),o6,none,none]) ⟨A2,⟨[],elc,by rw [List.take_zero];exact .nil,rfl⟩,_,rfl⟩ (λi σ HY hi pv=> ?_) (λσ HY pv=> ?_)]
 ·obtain ⟨a,⟨us,el,pu,ul⟩,o6,rfl⟩:=pv
  have hi:i<xc.length:=by omega
  have i0:(0:Int)+(i:Nat)=((i:Nat):Int):=by omega
  rw [i0];obtain ⟨c0,hc0,t,et0,b,bs,et,eb,db⟩:=h4.get1 (List.getElem?_eq_getElem hi);have hcT:=a.s.seqT (aK.of (K:=K) et)
  have hi1:i<M1.cs.length:=by omega
  have hc1:M1.cs[i]? =some M1.cs[i]:=List.getElem?_eq_getElem hi1
  have eun:(M1.cs[i]).un=c0.un:=by
   have z:(M1.cs.map Cb.un)[i]? =(cs.map Cb.un)[i]? :=by rw [lL.1.rel]
   rw [List.getElem?_map,List.getElem?_map,hc1,hc0] at z;exact Option.some.inj z
  generalize hce:M1.cs[i]=c1 at hc1 eun
  have e_pl:c1.pl=c0.pl:=show c1.un.pl=c0.un.pl by rw [eun]
  have e_li:c1.li=c0.li:=show c1.un.li=c0.un.li by rw [eun]
  have e_dr:c1.dr=c0.dr:=show c1.un.dr=c0.un.dr by rw [eun]
  have e_ps:c1.ps=c0.ps:=show c1.un.ps=c0.un.ps by rw [eun]
  have hat:ly xc ((i:Nat):Int)=some (V.ref t):=by rw [dE (List.getElem?_eq_getElem hi),et0]
  have hatm:ly (M1.cs.map λc=>V.int c.mr) ((i:Nat):Int)=some (.int c1.mr):=by
   rwa[dE ?_];rw [List.getElem?_map,hc1];rfl
  ext;erw[⟨.inl ⟨rfl,_,aN.of el⟩,?_⟩];erw[ai (a.s.seqT h1) rfl ?_];erw[ai (a.s.seqT h2) hat ?_];rwa[hI hcT (by show ¬(HT.sIx 5 0 none=0/\HT.sIx 5 5 (some 3)=5);decide) λt1 H1 s1 n1 e1=> ?_];have e1:H1 t1=some (.tup [.int c0.pl,.int c0.li,.int c0.dr]):=e1;have a1:=a.same s1;ext;erw[⟨kp,_,rfl,a1.gM,?_⟩];erw[bi (aN.of a1.em) hatm ?_];erw[bK (bB (by show 1<=1000000;decide)) λt2 H2 s2 n2 e2=> ?_];rwa[uM (aK.of (s2 _ _ e1)) e2 ↑27 (bB (by show 3+1<=1000000;decide)) λt3 H3 s3 e3=> ?_];have e3:H3 t3=some (.tup [.int c0.pl,.int c0.li,.int c0.dr,.int c1.mr]):=e3;have a3:=(a1.same s2).same s3;ext;erw[ai (a3.s.seqT h1) rfl ?_];erw[ai (a3.s.seqT h2) hat ?_];rwa[hI (a3.s.seqT (aK.of (K:=K) et)) (by show ¬(HT.sIx 5 0 (some 4)=0/\HT.sIx 5 5 none=5);decide) λt4 H4 s4 n4 e4=> ?_];have e4:H4 t4=some (.tup [.ref b]):=e4;ext;rwa[uM (aK.of (s4 _ _ e3)) e4 ↑27 (bB (by show 4+1<=1000000;decide)) λt5 H5 s5 e5=> ?_];have e5:H5 t5=some (.tup [.int c0.pl,.int c0.li,.int c0.dr,.int c1.mr,.ref b]):=e5;have a5:=(a3.same s4).same s5;have sY5:ar HY H5:=s1.trans (s2.trans (s3.trans (s4.trans s5)));ext;rwa[dM (sY5 _ _ el) (nL ↑5) ?_];have hcb:cx K H5 (.ref t5) c1:=⟨t5,rfl,b,bs,by rw [e_pl,e_li,e_dr];exact e5,a5.s _ _ eb,by rw [e_ps];exact aO.same db a5.s⟩;have st:bc H5 (upd H5 lc (.lst (us++[.ref t5]))):= .updL (sY5 _ _ el);rwa[⟨a5.other n0c (sY5 _ _ el) ncr ncg ncm,⟨us++[.ref t5],aj,?_,by rw [List.length_append,ul];rfl⟩,_,rfl⟩];rw [List.take_add_one,hc1];exact Paired.app (Paired.imp' (λx c z=>cx.keep (cx.keep z sY5.st) st) pu) (.cons (hcb.keep st) .nil)
 obtain ⟨A3,⟨us,el,pu,ul⟩,o6,rfl⟩:=pv;rw [hnn,<-c1l,List.take_of_length_le ↑15] at pu
 have w1l:M1.ws.length<=64:=by omega
 have x1l:xs1.length=M1.ws.length:=aT (f:=be.d) A3.dr;ext;erw[⟨kp,_,rfl,A3.gR,?_⟩];rwa[cr (aN.of A3.er) ?_];rw [x1l];ext;rwa[⟨⟨by omega,by omega⟩,?_⟩]
 have hnw:((M1.ws.length:Int)).toNat=M1.ws.length:=by omega
 rwa[fG (λi σ HZ=>(∃xs zs,fg K H HZ kp lr1 lg1 lm1 xs zs (bu iN M1.ws i M1))/\HZ lc=some (.lst us)/\Paired (cx K HZ) us M1.cs/\∃o6 o7 o8,σ=[some (.ref h),some (.ref st),some (.ref dl),some (.ref kp),o,some (.ref lc),o6,o7,o8]) ⟨⟨_,_,A3⟩,el,pu,_,_,_,rfl⟩ (λi σ HZ hi pv=> ?_) (λσ HZ pv=> ?_)]
 ·obtain ⟨⟨xs,zs,a⟩,elz,puz,o6',o7,o8,rfl⟩:=pv
  have hi:i<M1.ws.length:=by omega
  have i0:(0:Int)+(i:Nat)=((i:Nat):Int):=by omega
  rw [i0];have hr1:M1.ws[i]? =some M1.ws[i]:=List.getElem?_eq_getElem hi;generalize hre:M1.ws[i]=r at hr1;have hdl:=fI (dl:=iN) (W:=M1.ws) (M:=M1) i;have hrz:(bu iN M1.ws i M1).ws[i]? =some r:=(xS i ↑15).trans hr1
  have hnext:bu iN M1.ws (i+1) M1=if r.lift= -1 then g8 iN (bu iN M1.ws i M1) i r else bu iN M1.ws i M1:=by
   rw [bu,hr1]
  rw [hnext];generalize bu iN M1.ws i M1=N at *;have xl:xs.length=N.ws.length:=aT (f:=be.d) a.dr
  have hix:i<xs.length:=by omega
  have zl:zs.length=N.log.length:=a.dg.len;obtain ⟨r',hr',dx⟩:=b6 (f:=be.d) a.dr (List.getElem?_eq_getElem hix);rw [hrz] at hr';cases hr';generalize hye:xs[i]=y at dx;obtain ⟨ra,rfl,hR⟩:=cB dx
  have hat:ly xs ((i:Nat):Int)=some (V.ref ra):=by rw [dE (List.getElem?_eq_getElem hix),hye]
  ext;erw[⟨kp,_,rfl,a.gR,?_⟩];erw[bi (aN.of a.er) hat ?_];erw[ai hR rfl ?_];rwa[hV (λz=> ?_) (λz=> ?_)]
  ·have z:r.lift= -1:=z;rw [if_pos z,BB hrz z];have hcs:N.cs=M1.cs:=hdl.2.1;rw [<-hcs] at puz;ext;erw[⟨kp,_,rfl,a.gR,?_⟩];erw[⟨kp,_,rfl,a.gL,?_⟩];rwa[kI.mk _ _ _ _ _ _ _ _ _ rfl (.inl (aN.of elz)) puz (.inl (aN.of a.er)) a.dr dx ⟨λe=> ?_,by rw [hcs];omega,by omega⟩ λt H1 s1 e1=> ?_]
   ·rw [hcs] at e;rw [e] at c1l;have:(0:Nat)=cs.length:=c1l;omega
   generalize iN N.cs N.ws r N.last=tl at *;have a1:=a.same s1;ext;erw[ai (aK.of e1) rfl ?_];rwa[⟨kp,_,rfl,a1.pL (b:=tl.2),?_⟩];have e1':aK K (upd H1 kp (.dK (dW lr1 tl.2 N.fire lg1 lm1))) t [.int tl.1,.int tl.2]:=aK.noK (aK.of e1) a1.ek;have hR':aK K (upd H1 kp (.dK (dW lr1 tl.2 N.fire lg1 lm1))) ra _:=aK.noK (s1.seqT hR) a1.ek
   have el':upd H1 kp (.dK (dW lr1 tl.2 N.fire lg1 lm1)) lc=some (.lst us):=by rw [am (a1.nek (s1 _ _ elz)).symm];exact s1 _ _ elz
   have pu':Paired (cx K (upd H1 kp (.dK (dW lr1 tl.2 N.fire lg1 lm1)))) us N.cs:=Paired.imp' (λx c z=>cx.noK (cx.keep z s1.st) a1.ek) puz;have a2:=a1.last (b:=tl.2);generalize upd H1 kp (.dK (dW lr1 tl.2 N.fire lg1 lm1))=H2 at e1' hR' el' pu' a2 ⊢;ext;rwa[hI hR' (by show ¬(HT.sIx 4 0 none=0/\HT.sIx 4 4 (some 3)=4);decide) λt3 H3 s3 n3 e3=> ?_];have e3:H3 t3=some (.tup [.int r.tag,.int r.start,.int r.goal]):=e3;ext;erw[ai (s3.seqT e1') rfl ?_];erw[bK (bB (by show 1<=1000000;decide)) λt4 H4 s4 n4 e4=> ?_];rwa[uM (aK.of (s4 _ _ e3)) e4 ↑27 (bB (by show 3+1<=1000000;decide)) λt5 H5 s5 e5=> ?_];have s25:=s3.trans (s4.trans s5);have e5:H5 t5=some (.tup [.int r.tag,.int r.start,.int r.goal,.int tl.1]):=e5;have a5:=a2.same s25;ext;erw[⟨kp,_,rfl,a5.gR,?_⟩];rwa[gI (j:=i) a5.er (by unfold xH;rw [if_pos ↑5,if_pos ↑5];simp) ?_];have hden:cI K H5 (.ref t5) (be.d {r with lift:=tl.1}):=ez (aK.of e5) (.cons (.int _) (.cons (.int _) (.cons (.int _) (.cons (.int _) .nil))));have a6:=a5.setR (i:=i) hden;have st:bc H5 (upd H5 lr1 (.lst (xs.set i (.ref t5)))):= .updL a5.er;have e16:=aK.noL (o:= .lst (xs.set i (.ref t5))) (s25.seqT e1') a5.er;have hR6:=aK.noL (o:= .lst (xs.set i (.ref t5))) (s25.seqT hR') a5.er
   have el6:upd H5 lr1 (.lst (xs.set i (.ref t5))) lc=some (.lst us):=by rw [am ncr];exact s25 _ _ el'
   have pu6:Paired (cx K (upd H5 lr1 (.lst (xs.set i (.ref t5))))) us N.cs:=Paired.imp' (λx c z=>cx.keep (cx.keep z s25.st) st) pu';generalize upd H5 lr1 (.lst (xs.set i (.ref t5)))=H6 at a6 e16 hR6 el6 pu6 ⊢;ext;erw[ai e16 rfl ?_];rwa[hV (λzt=> ?_) (λzt=> ?_)]
   ·have zt:tl.1> -1:=zt;rw [if_pos zt];ext;erw[⟨kp,_,rfl,a6.gG,?_⟩];erw[⟨.inl ⟨rfl,_,aN.of a6.eg⟩,?_⟩];erw[ai hR6 rfl ?_];erw[ai e16 rfl ?_];erw[bK (bB (by show 3<=1000000;decide)) λt7 H7 s7 n7 e7=> ?_];have a7:=a6.same s7;rwa[dM a7.eg (nL ↑5) ?_];have a8:=a7.log (v:= .ref t7) (d:=C8 r.tag tl.1) (ez (aK.of e7) (.cons (.str _) (.cons (.int _) (.cons (.int _) .nil)))) rfl;have st8:bc H7 (upd H7 lg1 (.lst (zs++[.ref t7]))):= .updL a7.eg;rwa[⟨⟨_,_,a8⟩,by rw [am ncg];exact s7 _ _ el6,?_,_,_,_,rfl⟩];rw [<-hcs];exact Paired.imp' (λx c z=>cx.keep (cx.keep z s7.st) st8) pu6
   ·have zt: ¬tl.1> -1:=zt;rw [if_neg zt];rwa[⟨⟨_,_,a6⟩,el6,?_,_,_,_,rfl⟩];rw [<-hcs];exact pu6
  ·have z: ¬r.lift= -1:=z;rw [if_neg z];exact ⟨⟨_,_,a⟩,elz,puz,_,_,_,rfl⟩
 obtain ⟨⟨xs,zs,a⟩,elz,puz,o6',o7,o8,rfl⟩:=pv;rw [hnw] at a;ext;exact q kp HZ ⟨_,_,_,_,_,a⟩
abbrev Ks:=Bool×Int×Int×Int
def rA (s:Ks):D:=AK (if s.1=true then Str.ofString "in" else Str.ofString "out") s.2.1 s.2.2.1 s.2.2.2
def eJ (ss:List Ks):List Int:=(ss.filter (·.1)).map (·.2.1)
structure EX (M M':MS)(ss:List Ks):Prop where
 log:M'.log=M.log++ss.map rA
 ws:M'.ws=M.ws.filter λr=> !decide (r.tag∈eJ ss)
 last:M'.last=M.last
 fire:M'.fire=M.fire
 mr:M'.cs.map (·.mr)=M.cs.map (·.mr)
theorem si {ws:List be}:(ws.filter λr=> !decide (r.tag∈([]:List Int)))=ws:=List.filter_eq_self.mpr λr _=>by simp
theorem EX.refl (M:MS):EX M M []:=⟨by simp,si.symm,rfl,rfl,rfl⟩
theorem oM {a b:List Ks}:eJ (a++b)=eJ a++eJ b:=by unfold eJ;rw [List.filter_append,List.map_append]
theorem EX.trans {M1 M2 M3:MS}{a b:List Ks}(h:EX M1 M2 a)(g:EX M2 M3 b):EX M1 M3 (a++b):=by
 rwa[⟨by rw [g.log,h.log,List.map_append,List.append_assoc],?_,g.last.trans h.last,g.fire.trans h.fire,g.mr.trans h.mr⟩];rw [g.ws,h.ws,List.filter_filter,oM];congr 1
 funext r
 rw [Bool.eq_iff_iff];simp;constructor
 ·rintro ⟨x,y⟩;exact ⟨y,x⟩
 ·rintro ⟨x,y⟩;exact ⟨y,x⟩
theorem zn {cs:List Cb}{i:Nat}{c c':Cb}(h:cs[i]? =some c)(e:c'.mr=c.mr):(cs.set i c').map (·.mr)=cs.map (·.mr):=by
 rw [List.map_set,e];rwa[List.ext_getElem? λj=> ?_];rw [List.getElem?_set];split
 ·rename_i z;subst z;rw [if_pos (by rw [List.length_map];exact (List.getElem?_eq_some_iff.mp h).1),List.getElem?_map,h];rfl
 ·rfl
def jT (ts:List Int)(i fl:Int)(b:Bool):List Ks:=ts.map λt=>(b,t,i,fl)
theorem ut {ts:List Int}{i fl:Int}:(jT ts i fl false).map rA=ts.map λt=>AK (Str.ofString "out") t i fl:=by
 unfold jT;rw [List.map_map];rfl
theorem Eb {ts:List Int}{i fl:Int}:(jT ts i fl true).map rA=ts.map λt=>AK (Str.ofString "in") t i fl:=by
 unfold jT;rw [List.map_map];rfl
theorem xz {ts:List Int}{i fl:Int}:eJ (jT ts i fl false)=[]:=by
 unfold eJ jT
 induction ts with
 |nil=>rfl
 |cons t ts ih=>rw [List.map_cons,List.filter_cons,if_neg (show ¬(false:Bool)=true by decide)];exact ih
theorem GI {ts:List Int}{i fl:Int}:eJ (jT ts i fl true)=ts:=by
 unfold eJ jT
 induction ts with
 |nil=>rfl
 |cons t ts ih=>rw [List.map_cons,List.filter_cons,if_pos rfl,List.map_cons,ih]
theorem qu {M:MS}{i:Int}{c c':Cb}(h:atC M i c)(e:c'.mr=c.mr):EX M (fz M i c') []:=⟨by simp [fz],si.symm,rfl,rfl,zn h.2 e⟩
theorem Kq {hs:Hs}{wf:Wf}{M M':MS}{i:Int}{c:Cb}{l:Lf}(hc:atC M i c)(h:Nf hs wf M i c l M'):∃ss,EX M M' ss:=by
 rcases h with ⟨_,rfl⟩|⟨_,_,rfl⟩|⟨_,_,h⟩
 ·exact ⟨_,.refl _⟩
 ·unfold lq;split
  ·rwa[⟨jT ((bL c).map (·.1)) i (c.pl / 2) false,?_,?_,rfl,rfl,zn hc.2 rfl⟩]
   ·rw [ut];rfl
   ·rw [xz];exact si.symm
  split
  ·exact ⟨_,qu hc rfl⟩
  ·exact ⟨_,qu hc rfl⟩
 ·unfold E3 at h;split at h
  ·subst h;rwa[⟨jT (fo c.pl c.ps) i (c.pl / 2) false++jT (lu hs c l (ii i M)).ins i (c.pl / 2) true,?_,?_,rfl,rfl,zn hc.2 rfl⟩]
   ·rw [List.map_append,ut,Eb,<-List.append_assoc];rfl
   ·rw [oM,xz,GI,List.nil_append];rfl
  split at h
  ·subst h;exact ⟨_,qu hc rfl⟩
  ·obtain ⟨f0,u,d,_,_,_,rfl⟩:=h;exact ⟨_,qu hc rfl⟩
theorem As {hs:Hs}{wf:Wf}:∀ {n:Nat} {M M':MS},KC hs wf n M M'->∃ss,EX M M' ss
 |0,M,M',h=>by
  have h:M'=M:=h;subst h;exact ⟨_,.refl _⟩
 |n+1,M,M'',h=>by
  obtain ⟨M',c,l,h1,hc,_,h2⟩:=h;obtain ⟨a,ha⟩:=As h1;obtain ⟨b,hb⟩:=Kq hc h2;exact ⟨_,ha.trans hb⟩
theorem LB (t:Int):g9 (FK t):=⟨_,t,[],rfl,by decide⟩
theorem Ho (t:Int):g9 (tS t):=⟨_,t,[],rfl,by decide⟩
theorem LA (t i:Int):g9 (C8 t i):=⟨_,t,[i],rfl,by show 1<=10;decide⟩
theorem Lz (s:Ks):g9 (rA s):=⟨_,s.2.1,[s.2.2.1,s.2.2.2],rfl,by show 2<=10;decide⟩
def fu (M:MS):Prop:=∀d∈M.log,g9 d
theorem fu.app {ds es:List D}(h:∀d∈ds,g9 d)(g:∀d∈es,g9 d):∀d∈ds++es,g9 d:=λd hd=>(List.mem_append.mp hd).elim (h d) (g d)
theorem fu.one {d:D}(h:g9 d):∀e∈[d],g9 e:=λe he=>by rw [List.mem_singleton.mp he];exact h
theorem fu.deed {M:MS}(o:fu M){lo:Nat}{d:Dd}(hd:d.ok):fu (eK lo M d):=by
 cases d with
 |come t s g k=>
  show fu (kh lo M t s g k);unfold kh;split
  ·exact fu.app o (fu.one (LB t))
  split
  ·exact fu.app o (fu.one (Ho t))
  ·exact o
 |lf x i=>
  rcases hd with rfl|rfl|rfl|rfl|rfl
  ·rw [gZ];exact o
  ·rw [gX];exact o
  ·rw [iO];exact o
  ·rw [gY];exact o
  ·rw [iR];exact o
 |sg x=>
  rcases hd with rfl|rfl
  ·rw [iP];rwa[fu.app o λd hd=> ?_];obtain ⟨r,_,rfl⟩:=List.mem_map.mp hd;exact Ho _
  ·rw [iQ];unfold pX;split
   ·exact o
   ·exact o
theorem fu.deeds {lo:Nat}:∀ {ds:List Dd} {M:MS},fu M->(∀d∈ds,d.ok)->fu (bJ lo M ds)
 |[],M,o,_=>o
 |d::ds,M,o,h=>fu.deeds (ds:=ds) (o.deed (lo:=lo) (h d (.head _))) λe he=>h e (.tail _ he)
theorem fu.deals {dl:yc}{W:List be}{M:MS}(o:fu M):∀i,fu (bu dl W i M)
 |0=>o
 |i+1=>by
  have z:=fu.deals (dl:=dl) (W:=W) o i;unfold bu;split
  ·split
   ·unfold g8;split
    ·exact z
    ·exact fu.app z (fu.one (LA _ _))
   ·exact z
  ·exact z
theorem fu.mid {dl:yc}{M:MS}(o:fu M):fu (jd dl M):=by
 unfold jd;split
 ·exact o
 ·exact o.deals _
theorem pA:∀is:List Int,deps (is.map D.int)=0
 |[]=>rfl
 |i::is=>by rw [List.map_cons];simp only [deps,pA is,jF];rfl
theorem FJ {d:D}(h:g9 d):jF d<=1:=by
 obtain ⟨wd,i,is,rfl,_⟩:=h;simp only [jF,deps,pA is];decide
theorem um:∀ {ds:List D},(∀d∈ds,g9 d)->deps ds<=1
 |[],_=>by simp [deps]
 |d::ds,h=>by
  have a:=FJ (h d (.head _));have b:=um λe he=>h e (.tail _ he);simp only [deps];omega
theorem uo:∀rs:List be,deps (rs.map be.d)<=1
 |[]=>by simp [deps]
 |r::rs=>by
  have b:=uo rs;rw [List.map_cons];simp only [deps]
  have:jF (be.d r)<=1:=by simp [be.d,jF,deps]
  omega
theorem uJ {xs:List V}{k:Nat}:ff xs none (some (k:Int))=xs.take k:=by
 unfold ff;rw [HT.sIx_none,HT.sIx_nat,List.drop_zero,Nat.sub_zero];rwa[List.ext_getElem? λj=> ?_];rw [List.getElem?_take,List.getElem?_take];by_cases h:j<xs.length
 ·by_cases g:j<k
  ·rw [if_pos ↑5,if_pos g]
  ·rw [if_neg ↑5,if_neg g]
 ·rw [List.getElem?_eq_none ↑5];split<;>split<;>rfl
theorem uK {xs:List V}{k:Nat}(h:k<=xs.length):ff xs (some (k:Int)) none=xs.drop k:=by
 unfold ff;rw [HT.sIx_none,HT.sIx_nat,Nat.min_eq_left h];exact List.take_of_length_le (by rw [List.length_drop];exact Nat.le_refl _)
theorem rW {H:Hp}:∀is:List Int,aO K H (is.map V.int) (is.map D.int)
 |[]=> .nil
 |i::is=> .cons (.int i) (rW is)
inductive Fv (K:Fg)(vs:List V)(H:Hp)(Q:VK)(_e:XK):Prop
 |mk (r kp H0 M M' st ll zs ss:_) (_:vs=[.ref r,.ref kp]) (_:H r=some (.tup [.ref st,.ref ll])) (_:gk K H st (MS.cs M') (MS.ws M') (MS.last M') (MS.fire M')) (_:H ll=some (.lst zs)) (_:aO K H zs (MS.log M')) (_:Kp K H0 H kp M) (_:EX M M' ss) (_:fu M) (_:M'.log.length<=4000) (_:M.ws.length<=1000) (_:M.cs.length<=10) (_:∀H',ar H H'->Q (.bl true) H')
theorem L5 (F:bY K "_law_behind_right" "_law_behind_right" ig f fd)(aM:mg "isinstance"=none)(bH:mg "tuple"=none)(uw:mg "bool"=none)(bh:mg "len"=none)(oX:bO P w K mg base 2 "_law_rows" ["_law_log"] (yu K))(dD:bO P w K mg base 1 "_law_whole" ["_law_thing"] fN):aQ P w K mg base b8 3 f fd ["_law_told","_law_kept_here"] (Fv K):=by
 rwa[F.ok dN ↑8 ↑2]
 ·obtain ⟨r,kp,H0,M,M',st,ll,zs,ss,rfl,_⟩:=h;rfl
 obtain ⟨r,kp,H0,M,M',st,ll,zs,ss,rfl,er,⟨tc,tw,xc,yw,g1,g2,g3,g4,g5⟩,el,dl,⟨lr,lg,lm,xs,ks,A0⟩,aft,lgr,l4,wl,cl,q⟩:=h
 have rowsM:∀d∈M'.log,g9 d:=by
  rw [aft.log];rwa[fu.app lgr λd hd=> ?_];obtain ⟨s,_,rfl⟩:=List.mem_map.mp hd;exact Lz s
 have zl:zs.length=M'.log.length:=dl.len;have kl:ks.length=M.log.length:=A0.dg.len
 have ml:M.log.length<=zs.length:=by rw [zl,aft.log,List.length_append];omega
 have xl:xs.length=M.ws.length:=aT (f:=be.d) A0.dr;have xcl:xc.length=M'.cs.length:=g4.len
 have c'l:M'.cs.length=M.cs.length:=by have:=congrArg List.length aft.mr;rw [List.length_map,List.length_map] at this;exact this
 erw[⟨_,(af (aJ (PW.pt (cG (de (bt (K:=K) rfl (ax (kE (K:=K) rfl) rfl aM boot_isinstance (ac (wv 0) (ac (gz (v:= .ty "tuple") rfl bH boot_tuple rfl) ae))))) (cG (az (gv (K:=K) rfl hr) (ax ↑32 rfl bh PySem.boot_len (ac (wv 0) ae)) aa (au _)) (cu (de (bt (K:=K) rfl (ao oX hr ↑1 rfl (ac ↑11 ae)))))))) (ag (aD gy)) aF) (af (aA (i:=2) dN.nd rfl ↑6 ↑11) (af (aA (i:=3) dN.nd rfl ↑6 (ax ↑32 rfl bh PySem.boot_len (ac ↑30 ae))) (af (aJ (PW.pt (cG (az (gv (K:=K) rfl hr) (dh (jw (K:=K) rfl) ↑11 fm (dA (wv 3))) ↑30 (au _)) (cG (de (bt (K:=K) rfl (ax (kE (K:=K) rfl) rfl aM boot_isinstance (ac (wv 2) (ac (gz (v:= .ty "tuple") rfl bH boot_tuple rfl) ae))))) (cu (az (gv (K:=K) rfl hr) (ax ↑32 rfl bh PySem.boot_len (ac (wv 2) ae)) aa (au _)))))) (ag (aD gy)) aF) (af (aA (i:=4) dN.nd rfl (Or.inr rfl) (cZ ae)) (af (du PassesOwn.never rfl (bg (K:=K) rfl (dh (jw (K:=K) rfl) ↑11 (dA (wv 3)) fm)) (aC (i:=5) dN.nd rfl ↑6) (af (aJ (PW.pt (cG (az (gv (K:=K) rfl hr) (ax ↑32 rfl bh PySem.boot_len (ac (wv 5) ae)) aa (au _)) (cu (PW.pt (eR (az (gv (K:=K) rfl hr) (ak ↑4 (wv 5) aa ↑3) aq (au _)) (dS (az (gv (K:=K) rfl hr) (ak ↑4 (wv 5) aa ↑3) aq (au _)))))))) (ag (aD gy)) aF) (ag (aJ (az ↑10 (ak ↑4 (wv 5) aa ↑3) aq (au _)) (ag (aH (cz (K:=K) rfl PySem.F.plainAttrs_list PySem.F.slot_list_append PySem.F.type_list_append bw (wv 4) (ac (ak ↑4 (wv 5) aa ↑3) ae)))) aF)))) (af (aJ (az (gv (K:=K) rfl hr) ↑13 (br (fh (K:=K) rfl) rfl bH boot_tuple (ac (bD rfl (aI (N':=["_law_one","_law_ins"]) (pk:=[none,some 4]) ↑33) (bg (K:=K) rfl ↑30) (λC s H ex=>(aC (i:=0) (show List.Nodup (["_law_one","_law_ins"]:List Str) by decide+kernel) rfl ↑6)) (λC s H ex=>(fO (az (qh (K:=K) rfl) ↑11 (wv 1) (by with_unfolding_all rfl)))) (λC s H ex=>(wv 0))) ae)) (au _)) (ag (aD gy)) aF) (af (aJ (PW.pt (cG (az (gv (K:=K) rfl hr) (bD rfl (aI (N':=["_law_cabin_here"]) (pk:=[none]) ↑33) (bg (K:=K) rfl ↑13) ↑31 ↑37 (λC s H ex=>↑11)) ↑30 (au _)) (cu (de (bt (K:=K) rfl (ax (kE (K:=K) rfl) rfl aM boot_isinstance (ac ↑13 (ac (gz (v:= .ty "bool") rfl uw boot_bool rfl) ae)))))))) (ag (aD gy)) aF) (ag (aD (ib (ao dD hr ↑1 rfl (ac ↑13 ae)) (ib (ce ↑10 ↑13 ↑30 (au _)) (jQ (ce ↑10 ↑13 ↑30 (au _))))))))))))))),?_⟩];erw[D9 rfl (.tup er) rfl ?_];erw[aB rfl ?_];erw[cY (aK.of er) ?_];erw[aB rfl ?_];erw[ai (aK.of er) rfl ?_];erw[yu.mk _ _ _ rfl el dl rowsM l4 λH1 s1=> ?_];erw[aB rfl ?_];rwa[ai (aK.of (s1 _ _ er)) rfl ?_];have A1:=A0.same s1;ext;erw[⟨kp,_,rfl,A1.gG,?_⟩];rwa[cr (aN.of A1.eg) ?_];rw [kl];ext;erw[ai (aK.of (s1 _ _ er)) rfl ?_];rwa[mU (aN.of (s1 _ _ el)) λl2 H2 s2 n2 e2=> ?_];rw [uJ] at e2;have s12:=s1.trans s2;have A2:=A1.same s2
 have dlh:aO K H2 (zs.take M.log.length) M.log:=by
  have z:=(aO.same dl s12).take M.log.length;rw [aft.log,List.take_left] at z;exact z
 ext;erw[⟨kp,_,rfl,A2.gG,?_⟩];erw[oQ (xR (aN.of e2) dlh) (xR (aN.of A2.eg) A2.dg) (by have:=um lgr;simp only [jF];omega) ?_];erw[aB rfl ?_];erw[D8 (s12.seqT g1) rfl rfl ?_];erw[aB rfl ?_];erw[cY (s12.seqT g1) ?_];erw[aB rfl ?_];rwa[iI ↑35 λli H3 s3 n3 e3=> ?_];have s03:=s12.trans s3;ext;erw[ai (aK.of (s03 _ _ er)) rfl ?_];rwa[mU (aN.of (s03 _ _ el)) λl4' H4 s4 n4 e4=> ?_];rw [uK ml] at e4;have s34:=s3.trans s4;have s04:=s12.trans s34
 have dld:aO K H4 (zs.drop M.log.length) (ss.map rA):=by
  have z:=(aO.same dl s04).drop M.log.length;rw [aft.log,List.drop_left] at z;exact z
 have sl:(zs.drop M.log.length).length=ss.length:=by rw [dld.len,List.length_map]
 have ssl:ss.length<=4000:=by rw [<-sl,List.length_drop];omega
 have n2i:H2 li=none:=n3
 have nli4:li≠l4':=λz=>by rw [<-z,e3] at n4;cases n4
 ext;rwa[cW (aN.of e4) ?_];rwa[fH (xs:=zs.drop M.log.length) (λi σ HX=>ar H2 HX/\HX l4'=some (.lst (zs.drop M.log.length))/\HX li=some (.lst ((eJ (ss.take i)).map V.int))/\∃o6,σ=[some (.ref r),some (.ref kp),some (.ref st),some (.int (M.log.length:Int)),some (.ref li),o6]) ⟨s34,e4,by rw [List.take_zero];exact s4 _ _ e3,_,rfl⟩ (λi σ HX _ pv=>aN.of pv.2.1) (λi x σ HX hx pv=> ?_) (λσ HX pv=> ?_)]
 ·obtain ⟨sX,e4X,eiX,o6,rfl⟩:=pv
  have hxz:zs[M.log.length+i]? =some x:=by rw [List.getElem?_drop] at hx;exact hx
  obtain ⟨d',hd',dx⟩:=dl.get1 hxz
  have hd2:(ss.map rA)[i]? =some d':=by
   rw [aft.log,List.getElem?_append_right ↑5] at hd';rw [show M.log.length+i - M.log.length=i by omega] at hd';exact hd'
  rw [List.getElem?_map] at hd2;obtain ⟨sp,hsp,rfl⟩:=Option.map_eq_some_iff.mp hd2;have hil:i<ss.length:=(List.getElem?_eq_some_iff.mp hsp).1;have dx':cI K HX x (rA sp):=cI.same dx (s12.trans sX)
  have ilen:(eJ (ss.take i)).length<=i:=by
   unfold eJ;rw [List.length_map];exact Nat.le_trans (List.length_filter_le _ _) (by rw [List.length_take];omega)
  obtain ⟨b,t,lf,fl⟩:=sp
  have isn:eJ (ss.take (i+1))=eJ (ss.take i)++if b=true then [t] else []:=by
   rw [List.take_add_one,hsp,oM];congr 1;cases b<;>rfl
  obtain ⟨ra,ys,rfl,hT,dy⟩:=dx'.outT;obtain ⟨y0,zs0,rfl,q0,t0⟩:=gW dy;obtain ⟨y1,zs1,rfl,q1,t1⟩:=gW t0;obtain ⟨y2,zs2,rfl,q2,t2⟩:=gW t1;obtain ⟨y3,zs3,rfl,q3,t3⟩:=gW t2;cases t3;rw [q0.isStr,q1.isInt,q2.isInt,q3.isInt] at hT;ext;erw[cY hT ?_];rwa[aB rfl ?_]
  cases b with
  |true=>
   have hT:aK K HX ra [.str (Str.ofString "in"),.int t,.int lf,.int fl]:=hT;ext;erw[ai hT rfl ?_];erw[aB rfl ?_];erw[aB rfl ?_];erw[ai hT rfl ?_];erw[bj rfl ?_];erw[⟨.inl ⟨rfl,_,aN.of eiX⟩,?_⟩];erw[ai hT rfl ?_];rwa[dM eiX (nL (by rw [List.length_map];omega)) ?_];exact ⟨ar.updF sX n2i,by rw [am nli4.symm];exact e4X,by rw [aj,isn,if_pos rfl,List.map_append];rfl,_,rfl⟩
  |false=>
   have hT:aK K HX ra [.str (Str.ofString "out"),.int t,.int lf,.int fl]:=hT;ext;erw[ai hT rfl ?_];erw[bj rfl ?_];erw[ai hT rfl ?_];erw[aB rfl ?_];erw[ai hT rfl ?_];rwa[aB rfl ?_];exact ⟨sX,e4X,by rw [isn,if_neg ↑1,List.append_nil];exact eiX,_,rfl⟩
 obtain ⟨sX,e4X,eiX,o6,rfl⟩:=pv;rw [sl,List.take_of_length_le ↑15] at eiX;have s0X:=s12.trans sX;have AX:=A2.same sX;ext;erw[ai (s0X.seqT g1) rfl ?_];erw[⟨kp,_,rfl,AX.gR,?_⟩];rwa[cW (aN.of AX.er) ?_];rwa[bZ (xs:=xs) (λj us HY=>HY=HX/\aO K HX us (((M.ws.take j).filter λr=> !decide (r.tag∈eJ ss)).map be.d)) (bB ↑5) (λj us HY h=>by rw [aT (f:=be.d) h.2];exact Nat.le_trans (List.length_filter_le _ _) (by rw [List.length_take];omega)) ⟨rfl,.nil⟩ (λj us HY _ h=>by rw [h.1];exact aN.of AX.er) (λj y us HY hy hP=> ?_) (λus HY hP l5 n5=> ?_)]
 ·obtain ⟨rfl,dus⟩:=hP;obtain ⟨r1,hr1,dy⟩:=b6 (f:=be.d) AX.dr hy;obtain ⟨ra,rfl,hR⟩:=cB dy;ext;erw[⟨bC,?_⟩];erw[ai hR rfl ?_];rwa[uh (aN.of eiX) rfl (oP _) ?_];rw [we]
  have e:((M.ws.take (j+1)).filter λr=> !decide (r.tag∈eJ ss))=((M.ws.take j).filter λr=> !decide (r.tag∈eJ ss))++if r1.tag∈eJ ss then [] else [r1]:=by
   rw [List.take_add_one,hr1,List.filter_append];congr 1;by_cases z:r1.tag∈eJ ss
   ·rw [if_pos z];simp [z]
   ·rw [if_neg z];simp [z]
  show if (!decide (r1.tag∈eJ ss))=true then _ else _;by_cases z:r1.tag∈eJ ss
  ·rw [if_neg (by rw [decide_eq_true z];decide)];exact ⟨rfl,by rw [e,if_pos z,List.append_nil];exact dus⟩
  ·rw [if_pos (by rw [decide_eq_false z];rfl)];exact ⟨rfl,by rw [e,if_neg z,List.map_append];exact Paired.app dus (.cons dy .nil)⟩
 obtain ⟨rfl,dus⟩:=hP;rw [xl,List.take_of_length_le ↑15,<-aft.ws] at dus;have s5:ar HY (upd HY l5 (.lst us)):= .upd n5;have e5:upd HY l5 (.lst us) l5=some (.lst us):=aj;generalize upd HY l5 (.lst us)=H5 at s5 e5 ⊢;ext;rwa[gH (aN.of e5) λt6 H6 s6 n6 e6=> ?_];have sX6:=s5.trans s6;have s06:=s0X.trans sX6;ext;erw[oQ (ez (s06.seqT g3) (aO.same g5 s06)) (ez (aK.of e6) (aO.same dus sX6)) (by have:=uo M'.ws;simp only [jF];omega) ?_];erw[aB rfl ?_];erw[ai (s06.seqT g1) rfl ?_];rwa[dj (s06.seqT g2) ?_];rwa[ck (xs:=xc) (λj us HZ=>HZ=H6/\us=((M'.cs.take j).map (·.mr)).map V.int) (bB ↑5) (λj us HZ h=>by rw [h.2,List.length_map,List.length_map,List.length_take];exact Nat.min_le_left _ _) ⟨rfl,rfl⟩ (λj us HZ _ h=>by rw [h.1];exact s06.seqT g2) (λj y us HZ hy hP=> ?_) (λus HZ hP l7 n7=> ?_)]
 ·obtain ⟨rfl,rfl⟩:=hP;obtain ⟨c,hc,t,rfl,b,bs,et,eb,db⟩:=g4.get1 hy;ext;erw[⟨bC,?_⟩];rwa[ai (s06.seqT (aK.of et)) rfl ?_];exact ⟨rfl,by rw [List.take_add_one,hc,List.map_append,List.map_append];rfl⟩
 obtain ⟨rfl,rfl⟩:=hP;rw [xcl,List.take_of_length_le ↑15,aft.mr];have s7:ar HZ (upd HZ l7 (.lst ((M.cs.map (·.mr)).map V.int))):= .upd n7;have e7:upd HZ l7 (.lst ((M.cs.map (·.mr)).map V.int)) l7=some (.lst ((M.cs.map (·.mr)).map V.int)):=aj;generalize upd HZ l7 (.lst ((M.cs.map (·.mr)).map V.int))=H7 at s7 e7 ⊢;have A7:=(AX.same sX6).same s7
 have em7:H7 lm=some (.lst ((M.cs.map (·.mr)).map V.int)):=by rw [A7.em,List.map_map];rfl
 have s07:=s06.trans s7;ext;erw[⟨kp,_,rfl,A7.gM,?_⟩];erw[oQ (xR (aN.of e7) (rW _)) (xR (aN.of em7) (rW _)) (by simp only [jF,pA];decide) ?_];erw[aB rfl ?_];erw[ai (s07.seqT g1) rfl ?_];erw[⟨rfl,?_⟩];erw[aB rfl ?_];erw[ai (s07.seqT g1) rfl ?_];erw[fN.mk _ rfl ?_];erw[bj rfl ?_];erw[ai (s07.seqT g1) rfl ?_];erw[⟨kp,_,rfl,A7.gL,?_⟩];erw[j6 aft.last ?_];erw[ai (s07.seqT g1) rfl ?_];erw[⟨kp,_,rfl,A7.gF,?_⟩];rw [decide_eq_true aft.fire];exact q H7 s07
theorem Gy {t:Str}(h:z5 t):M4 t:=λc hc=>by
 have:=h.2 c hc;unfold oH at this;simp at this;omega
def Dd.dat:Dd->D
 | .come t s g k=> .tup [.str fS,.int t,.int s,.int g,.bl k]
 | .lf x n=> .tup [.str x,.int n]
 | .sg x=> .tup [.str x]
theorem Kj {H:Hp}{a:Addr}{d:Dd}(h:H a=some (.tup d.v)):cI K H (.ref a) d.dat:=by
 cases d with
 |come t s g k=>exact ez (aK.of h) (.cons (.str _) (.cons (.int _) (.cons (.int _) (.cons (.int _) (.cons (.bl _) .nil)))))
 |lf x n=>exact ez (aK.of h) (.cons (.str _) (.cons (.int _) .nil))
 |sg x=>exact ez (aK.of h) (.cons (.str _) .nil)
theorem qr {H:Hp}{xs:List V}{ds:List Dd}(h:Paired (λx d=>∃a,x=V.ref a/\jv H a d) xs ds):aO K H xs (ds.map Dd.dat):=by
 rwa[PySem.Paired.of (by rw [List.length_map];exact h.len) λi x d e1 e2=> ?_];rw [List.getElem?_map] at e2;obtain ⟨q,hq,rfl⟩:=Option.map_eq_some_iff.mp e2;obtain ⟨q',hq',a,rfl,z⟩:=h.get1 e1;rw [hq] at hq';cases hq';exact Kj z.1
theorem xT:∀ds:List Dd,deps (ds.map Dd.dat)<=1
 |[]=>by simp [deps]
 |d::ds=>by
  have b:=xT ds;rw [List.map_cons];simp only [deps]
  have:jF d.dat<=1:=by cases d<;>simp [Dd.dat,jF,deps]
  omega
theorem uC {hs:Hs}{wf:Wf}:∀ {n:Nat} {M M':MS},KC hs wf n M M'->(∀c∈M.cs,c.ps.length<=64)->M.ws.length<=64->lz hs M n M'
 |0,M,M',h,_,_=>by
  have h:M'=M:=h;subst h;exact ⟨rfl,λ_ _=>rfl,λ_ h=>h,Nat.le_refl _,by omega⟩
 |n+1,M,M'',h,h64,w64=>by
  obtain ⟨M',c,l,h1,hc,_,h2⟩:=h;have a:=uC h1 h64 w64
  have e:M.cs[n]? =some c:=by
   have z:=hc.2;rw [show ((n:Nat):Int).toNat=n by omega] at z;rw [<-a.cs n ↑15];exact z
  exact a.go (h64 c (List.mem_of_getElem? e)) (by have:=a.wl;omega) h2
theorem By {kd:Addr}(g:mg "_law_deal"=some (.ref kd))(c:bO P w K mg base 1 "_law_deal" ["_law_cabins","_law_waiting","_law_rider_here","_law_last"] (kI K)):qf P w K mg base 5 kd (qN K pZ iN):=by
 obtain ⟨f',e,F⟩:=c.fnv;rw [g] at e;cases e;rwa[F.cal.imp ↑1 λvs H Q E h=> ?_];obtain ⟨tc,tw,x,cs,ws,r,last,xs,ys,rfl,h1,h2,h3,h4,h5,h6,q⟩:=h;exact kI.mk _ _ _ _ _ _ _ _ _ rfl (.inr (aK.of h1)) h2 (.inr (aK.of h3)) h4 h5 h6 q
theorem Kp.same {H0 H H':Hp}{kp:Addr}{M:MS}(h:Kp K H0 H kp M)(s:ar H H'):Kp K H0 H' kp M:=by
 obtain ⟨_,_,_,_,_,a⟩:=h;exact ⟨_,_,_,_,_,a.same s⟩
inductive xb (K:Fg)(vs:List V)(H:Hp)(Q:VK)(_e:XK):Prop
 |mk (a:Addr) (ns:List Int) (_:vs=[.ref a]) (_:zM K H a ns) (_:∀H',Q (.bl true) H')
structure OP (K:Fg)(H:Hp)(hs:Hs)(st:Addr)(cs:List Cb)(ws:List be)(last:Int)(fi:Bool):Prop where
 at':gk K H st cs ws last fi
 ok:mI hs ws.length ⟨cs,ws,last,fi,0,[]⟩
 w10:ws.length<=10
 m3:∀c∈cs,c.mr<=3
 fw:fi=true->ws=[]
def O3 (H:Hp)(v:V)(n:Nat)(u:Dw):Prop:=(v= .non/\u= .good)\/(u≠ .good/\∃(k:Nat) (t r:Addr),k<n/\v= .ref r/\H r=some (.tup [.int (k:Int),.ref t])/\H t=some (.tup u.v))
theorem Ms {H:Hp}{h st dl:Addr}{hs:Hs}{cs:List Cb}{ws:List be}{last:Int}{fire:Bool}{ds:List Dd}{Q:VK}{E:XK}(h1:jE K H h hs)(h2:gk K H st cs ws last fire)(h3:kA K H dl ds)(h4:ws.length<=64)(h5:∀c∈cs,c.ps.length<=64)(h6:cs.length<=10)(h7:ds.length<=100)(g:∀v H',ar H H'->O3 H' v ds.length (bv hs.fl hs.ls.length (bM cs ws) ds)->Q v H'):CH K [.ref h,.ref st,.ref dl] H Q E:=
 Pm h1 h2 h3 h4 h5 h6 h7 (λhb H' s=>g _ H' s (.inl ⟨rfl,hb⟩)) (λhb k t r H' hk s er et=>g _ H' s (.inr ⟨hb,k,t,r,hk,rfl,er,et⟩))
theorem GZ {xs:List V}:(ff xs (some 42) (some 62)).length<=20:=by
 unfold ff;rw [show (some (42:Int))=some ((42:Nat):Int) from rfl,show (some (62:Int))=some ((62:Nat):Int) from rfl,HT.sIx_nat,HT.sIx_nat,List.length_take,List.length_drop];omega
def BX (d m:Int):Cb:=⟨0,0,d,m,[]⟩
theorem Km {fl d m:Int}(f2:2<=fl)(h:0<=m):tM fl (BX d m):=⟨Int.le_refl _,by show (0:Int)<=2*(fl - 1);omega,by show (-1:Int)<=0;decide,by show (0:Int)<=1;decide,h,λ_=>rfl,by show 0<=64;decide,λp hp=>nomatch hp⟩
theorem EG {H:Hp}{t e:Addr}{d m:Int}(h1:H t=some (.tup [.int 0,.int 0,.int d,.int m,.ref e]))(h2:H e=some (.tup [])):cx K H (.ref t) (BX d m):=⟨t,rfl,e,[],h1,h2,.nil⟩
theorem z8 {M:MS}:(jd iN M).ws.length=M.ws.length/\(jd iN M).cs=M.cs/\(jd iN M).log.length<=M.log.length+M.ws.length:=by
 unfold jd;split
 ·exact ⟨rfl,rfl,by omega⟩
 ·exact fI _
theorem Jz {lj cU jZ kd kFl kLi kRi kTw:Addr}(F:bY K "law" "law" IQ f fd)(bh:mg "len"=none)(bA:mg "range"=none)(eF:mg "list"=none)(bH:mg "tuple"=none)(JL:mg "max"=none)(JK:mg "min"=none)
(mx:bO P w K mg base 4 "_law_house" ["_law_script","_law_most"] (qJ K))(aE:bO P w K mg base 2 "_law_draw" ["_law_script","_law_k","_law_prime","_law_many"] (cq K))(mv:bO P w K mg base 5 "_law_state" ["_law_script","_law_house_here","_law_fire"] (qH K))(jt:bO P w K mg base 3 "_law_letters" ["_law_script","_law_at"] (yz K))
(zu:nJ P w K mg base (nK P w) 1 "Table" lj (mK K cU))(cT:MZ K lj)(kx:pD P w K mg base b8 2 "word" lj (IH K))(zw:nJ P w K mg base b8 1 "Court" jZ (Fu K))(cC:HR K jZ)(ky:pD P w K mg base (nK P w) 9 "turn" jZ (qF P w K mg base kFl kLi kRi kTw pZ iN))(jh:mg "_law_deal"=some (.ref kd))(gC:bO P w K mg base 1 "_law_deal" ["_law_cabins","_law_waiting","_law_rider_here","_law_last"] (kI K))
(pf:bO P w K mg base 4 "_law_deed" ["_law_script","_law_at","_law_house_here","_law_state_here"] (va K))(ft:bO P w K mg base 2 "_law_first_bad" ["_law_house_here","_law_state_here","_law_deeds"] (CH K))(jr:bO P w K mg base 10 "_law_refused" ["_law_court","_law_state_here","_law_deeds","_law_due_here"] (CB P w K mg base kFl kLi kRi kTw))(o0:bO P w K mg base 3 "_law_kept" ["_law_house_here","_law_state_here","_law_deeds"] (yB K))(dL:bO P w K mg base 3 "_law_behind_right" ["_law_told","_law_kept_here"] (Fv K)):aQ P w K mg base b8 11 f fd ["_law_script"] (xb K):=by
 rwa[F.ok gx ↑8 ↑2]
 ·obtain ⟨a,ns,rfl,_⟩:=h;rfl
 obtain ⟨a,ns,rfl,hS,q⟩:=h;erw[⟨_,(af (aA (i:=1) gx.nd rfl (Or.inr rfl) (ao mx hr ↑1 rfl (ac (wv 0) (ac aa ae)))) (af (aA (i:=2) gx.nd rfl ↑6 (ce ↑10 ↑25 aa (au _))) (af (aA (i:=3) gx.nd rfl (Or.inr rfl) (ao mv hr ↑1 rfl (ac (wv 0) (ac (wv 1) (ac (wv 2) ae))))) (fP (aJ (PW.pt (eR (bt (K:=K) rfl (wv 2)) (dS (az ↑10 ↑25 aa (au _))))) (af (fM (i:=4) rfl gx.nd rfl ↑6 (aI (N':=["_law_cabin_here"]) (pk:=[none]) ↑33) (bg (K:=K) rfl ↑28) ↑31 ↑37 (λC s H ex=>(aP (ac aa (ac aa (ac aa (ac ↑11 (ac (aP ae) ae)))))))) (af (fA (aP (ac aa (ac aa (ac (ax (KQ rfl) rfl JK boot_min (ac aa (ac ↑25 ae))) (ac (ak ↑4 (ak ↑4 ↑28 aa ↑3) aa ↑3) (ac (aP ae) ae)))))) (fB (wv 4) aa iq)) (ag (aA (i:=3) gx.nd rfl (Or.inr rfl) (aG ↑23 (aP (ac (br (fh (K:=K) rfl) rfl bH boot_tuple (ac (wv 4) ae)) ae)) (dh (jw (K:=K) rfl) (wv 3) (dA aa) fm)))))) aF) (af (aA (i:=5) gx.nd rfl ↑6 (kB zw pN hr ↑1 rfl (ac (wv 1) (ac (kB zu (vU (X:=_)) hr ↑1 rfl (ac (ao jt hr ↑1 rfl (ac (wv 0) (ac aa ae))) ae)) (ac (dU rfl jh) ae))))) (af (aA (i:=6) gx.nd rfl ↑6 (ax (KR rfl) rfl JL boot_max (ac (ax ↑32 rfl bh PySem.boot_len (ac (dh (jw (K:=K) rfl) (wv 0) (dA aa) (dA aa)) ae)) (ac ↑25 ae)))) (af (fM (i:=7) rfl gx.nd rfl ↑6 (aI (N':=["_law_k","_law_script","_law_house_here","_law_state_here"]) (pk:=[none,some 0,some 1,some 3]) ↑33) (cy rfl bA (ac (wv 6) ae)) (λC s H ex=>(aC (i:=0) (show List.Nodup (["_law_k","_law_script","_law_house_here","_law_state_here"]:List Str) by decide+kernel) rfl ↑6)) ↑37 (λC s H ex=>(ao pf hr ↑1 rfl (ac (wv 1) (ac (aG ↑23 aa (wv 0)) (ac (wv 2) (ac (wv 3) ae))))))) (af (aA (i:=8) gx.nd rfl ↑6 (ao ft hr ↑1 rfl (ac (wv 1) (ac (wv 3) (ac (wv 7) ae))))) (af (B8 PassesOwn.never (az Cf (wv 8) jR (au _)) (af (aA (i:=9) gx.nd rfl ↑6 (br (lE (K:=K) rfl) rfl eF boot_list (ac (wv 7) ae))) (af (aJ (PW.pt (cG (de (bt (K:=K) rfl (ao jr hr ↑1 rfl (ac (wv 5) (ac (wv 3) (ac (wv 9) (ac (ak ↑4 (wv 8) aa ↑3) ae))))))) (cu (az (gv (K:=K) rfl hr) (wv 9) (wv 7) (au _))))) (ag (aD gy)) aF) (af (aA (i:=7) gx.nd rfl ↑6 (aG ↑23 (dh (jw (K:=K) rfl) (wv 7) fm (dA (ak ↑4 (wv 8) aa ↑3))) (dh (jw (K:=K) rfl) (wv 7) (dA (aG ↑23 (ak ↑4 (wv 8) aa ↑3) aa)) fm))) (ag (aA (i:=8) gx.nd rfl ↑6 (ao ft hr ↑1 rfl (ac (wv 1) (ac (wv 3) (ac (wv 7) ae)))))))))) (af (aA (i:=10) gx.nd rfl ↑6 (ao o0 hr ↑1 rfl (ac (wv 1) (ac (wv 3) (ac (wv 7) ae))))) (af (aA (i:=9) gx.nd rfl ↑6 (br (lE (K:=K) rfl) rfl eF boot_list (ac (wv 7) ae))) (af (aA (i:=11) gx.nd rfl ↑6 (qg (n:=9) (vU (X:=_)) hr ↑1 (wv 5) (ac (wv 3) (ac (wv 9) ae)))) (af (aJ (PW.pt (cG (az (gv (K:=K) rfl hr) (wv 9) (wv 7) (au _)) (cu (de (bt (K:=K) rfl (ao dL hr ↑1 rfl (ac (wv 11) (ac (wv 10) ae)))))))) (ag (aD gy)) aF) (af (aH (cz (K:=K) rfl PySem.F.plainAttrs_list PySem.F.slot_list_append PySem.F.type_list_append bw (ak ↑4 (wv 11) aa ↑3) (ac (aP (ac aq (ac aa (ac aa ae)))) ae))) (ag (aD (ao dL hr ↑1 rfl (ac (qg (n:=9) (vU (X:=_)) hr ↑1 (wv 5) (ac (wv 3) (ac (br (lE (K:=K) rfl) rfl eF boot_list (ac (wv 7) ae)) ae))) (ac (wv 10) ae))))))))))))))))))),?_⟩];rwa[qJ.mk _ _ rfl hS λhA hs H1 s1 hH=> ?_];have hS1:=hS.same s1;have ho:=hH.1;have f2:=ho.f2;have l1:=ho.l1;have l3:=ho.l3;ext;erw[cq.mk _ _ _ _ _ rfl hS1 ↑1 ↑1 ↑1 ↑1 λi4 _ _=> ?_];generalize decide (i4=0)=fi;rwa[qH.mk _ _ _ _ _ rfl hS1 hH λst cs ws last H2 s2 hst mok w10 la0 m3 fw=> ?_];have hS2:=hS1.same s2;have hH2:=hH.same s2;ext;rwa[qc (λσ H'=>ar H2 H'/\∃(st:Addr) (cs:List Cb) (ws:List be) (last:Int) (o4:Option V),OP K H' hs st cs ws last fi/\σ=[some (.ref a),some (.ref hA),some (.bl fi),some (.ref st),o4,none,none,none,none,none,none,none]) ?_ ?_]
 ·ext
  cases fi with
  |false=>
   erw[aB rfl ?_];rwa[aB rfl ?_];exact ⟨.refl _,st,cs,ws,last,_,⟨hst,mok,w10,m3,fw⟩,rfl⟩
  |true=>
  erw[bj rfl ?_];erw[cq.mk _ _ _ _ _ rfl hS2 ↑1 ↑1 ↑1 ↑1 λi2 _ _=> ?_];rwa[hV (λ_=> ?_) (λ_=> ?_)]
  ·have csl:cs.length=hs.ls.length:=mok.len;have m0:∀c∈cs,0<=c.mr:=λc hc=>(mok.cs c hc).m0;obtain ⟨tc,tw,xc,yw,g1,g2,g3,g4,g5⟩:=hst;have xcl:xc.length=cs.length:=g4.len;ext;erw[ai g1 rfl ?_];rwa[dj g2 ?_];rwa[ck (xs:=xc) (λj us HX=>ar H2 HX/\Paired (cx K HX) us ((cs.take j).map λc=>BX 1 c.mr)/\us.length=j) (bB ↑5) (λj us HX h=>Nat.le_of_eq h.2.2) ⟨.refl _,.nil,rfl⟩ (λj us HX _ h=>h.1.seqT g2) ↑29 (λus HX hP l nl=> ?_)]
   ·obtain ⟨sX,pu,ul⟩:=hP;obtain ⟨c,hc,z⟩:=g4.get1 hy;obtain ⟨ca,cb,rfl,hcT⟩:=wz z;ext;erw[⟨bC,?_⟩];erw[ai (sX.seqT hcT) rfl ?_];erw[bK ↑35 λte Ha sa na ea=> ?_];rwa[bK (bB (by show 5<=1000000;decide)) λtt Hb sb nb eb=> ?_];rwa[⟨sX.trans (sa.trans sb),?_,by rw [List.length_append,ul];rfl⟩];rw [List.take_add_one,hc,List.map_append];exact Paired.app (Paired.imp' (λx c z=>cx.keep z (sa.trans sb).st) pu) (.cons (EG eb (sb _ _ ea)) .nil)
   obtain ⟨sX,pu,ul⟩:=hP;rw [xcl,List.take_of_length_le ↑15] at pu;rw [xcl] at ul;have sl:ar HX (upd HX l (.lst us)):= .upd nl;have el:upd HX l (.lst us) l=some (.lst us):=aj;have pu2:=Paired.imp' (λx c z=>cx.keep z sl.st) pu;generalize upd HX l (.lst us)=H5 at sl el pu2 ⊢;have s25:=sX.trans sl;ext;erw[cq.mk _ _ _ _ _ rfl (hS2.same s25) ↑1 ↑1 ↑1 ↑1 λdv d0 _=> ?_];rwa[ai (s25.seqT g1) rfl ?_]
   have hx0:0<xc.length:=by omega
   obtain ⟨c0,hc0,z⟩:=g4.get1 (List.getElem?_eq_getElem hx0);obtain ⟨ca,cb,ea0,hcT⟩:=wz z;ext;erw[ai (s25.seqT g2) (v:= .ref ca) (by rw [show (0:Int)=((0:Nat):Int) from rfl,dE (List.getElem?_eq_getElem hx0),ea0]) ?_];erw[ai (s25.seqT hcT) rfl ?_];erw[bK ↑35 λte Ha sa na ea=> ?_];rwa[bK (bB (by show 5<=1000000;decide)) λtt Hb sb nb eb=> ?_];have s5b:=sa.trans sb;have elb:=s5b _ _ el;ext;rwa[gI (j:=0) elb (by unfold xH;rw [if_pos ↑1,if_pos ↑5];rfl) ?_];obtain ⟨dr,hdr⟩:∃dr:Int,Hb tt=some (.tup [.int 0,.int 0,.int dr,.int c0.mr,.ref te]):=⟨_,eb⟩;have st':bc Hb (upd Hb l (.lst (us.set 0 (.ref tt)))):= .updL elb;have s2b:ar H2 (upd Hb l (.lst (us.set 0 (.ref tt)))):=ar.updF (s25.trans s5b) (none_of sX nl);have pc:Paired (cx K (upd Hb l (.lst (us.set 0 (.ref tt))))) (us.set 0 (.ref tt)) ((cs.map λc=>BX 1 c.mr).set 0 (BX dr c0.mr)):=jc (Paired.imp' (λx c z=>cx.keep (cx.keep z s5b.st) st') pu2) ((EG hdr (sb _ _ ea)).keep st');have elc:upd Hb l (.lst (us.set 0 (.ref tt))) l=some (.lst (us.set 0 (.ref tt))):=aj;generalize upd Hb l (.lst (us.set 0 (.ref tt)))=H6 at s2b pc elc ⊢;ext;erw[gH (aN.of elc) λtcs H7 s7 n7 e7=> ?_];rwa[bK (bB (by show 1<=1000000;decide)) λt8 H8 s8 n8 e8=> ?_];have s28:=s2b.trans (s7.trans s8);ext;rwa[hI (s28.seqT g1) (by show ¬(HT.sIx 4 0 (some 1)=0/\HT.sIx 4 4 none=4);decide) λt9 H9 s9 n9 e9=> ?_];have e9:H9 t9=some (.tup [.ref tw,.int last,.bl true]):=e9;ext;rwa[uM (aK.of (s9 _ _ e8)) e9 ↑27 (bB (by show 1+3<=1000000;decide)) λtA HA sA eA=> ?_];have eA:HA tA=some (.tup [.ref tcs,.ref tw,.int last,.bl true]):=eA;have s6A:=s7.trans (s8.trans (s9.trans sA));have s2A:=s2b.trans s6A
   have memc:∀c∈((cs.map λc=>BX 1 c.mr).set 0 (BX dr c0.mr)),∃d m,c=BX d m/\0<=m/\m<=3:=λc hc=>by
    have hm0:c0∈cs:=List.mem_of_getElem? hc0
    rcases mZ hc with z|z
    ·obtain ⟨c',hc',rfl⟩:=List.mem_map.mp z;exact ⟨_,_,rfl,m0 c' hc',m3 c' hc'⟩
    ·exact ⟨_,_,z,m0 c0 hm0,m3 c0 hm0⟩
   rwa[⟨s2A,tA,(cs.map λc=>BX 1 c.mr).set 0 (BX dr c0.mr),ws,last,_,⟨⟨tcs,tw,_,yw,aK.of eA,aK.of (sA _ _ (s9 _ _ (s8 _ _ e7))),s2A.seqT g3,Paired.imp' (λx c z=>cx.keep z s6A.st) pc,aO.same g5 s2A⟩,⟨?_,?_,mok.ws,mok.sum⟩,w10,?_,fw⟩,rfl⟩]
   ·show ((cs.map λc=>BX 1 c.mr).set 0 (BX dr c0.mr)).length=_;rw [List.length_set,List.length_map];exact csl
   ·intro c hc;obtain ⟨d,m,rfl,h0,_⟩:=memc c hc;exact Km f2 h0
   ·intro c hc;obtain ⟨d,m,rfl,_,h3⟩:=memc c hc;exact h3
  ·exact ⟨.refl _,st,cs,ws,last,_,⟨hst,mok,w10,m3,fw⟩,rfl⟩
 rintro σ' H3 ⟨s3,st,cs,ws,last,o4,hSta,rfl⟩;clear mok m3 fw w10 hst;have hS3:=hS2.same s3;have hH3:=hH2.same s3;have csl:cs.length=hs.ls.length:=hSta.ok.len;have c64:∀c∈cs,c.ps.length<=64:=λc hc=>(hSta.ok.cs c hc).len;have w10:=hSta.w10;ext;erw[yz.mk _ _ _ rfl hS3 ↑1 ↑1 λt H4 s4 okt=> ?_];erw[L8 cT (by rw [okt.1];decide) (Gy okt) (λ_ ru rdx H5 s5 n5 e5=> ?_) (λno=>absurd okt no)];rwa[Oj cC λca cdx H6 s6 n6 e6=> ?_];have s36:=s4.trans (s5.trans s6);have crt:EW P w K mg base kFl kLi kRi kTw H6 ca st hs _ cs ws last fi:=⟨jZ,cdx,hA,ru,kd,e6,cC,ky,hH3.same s36,yo cT kx okt (s6 _ _ e5),By jh gC,hSta.at'.keep s36.st,hSta.ok⟩;have hS6:=hS3.same s36;have hH6:=hH3.same s36;have st6:gk K H6 st cs ws last fi:=hSta.at'.keep s36.st;ext;erw[mU hS6.1.1 λl7 H7 s7 n7 e7=> ?_];rwa[cr (aN.of e7) ?_];have c20:=GZ (xs:=ns.map V.int);generalize (ff (ns.map V.int) (some 42) (some 62)).length=n20 at c20;ext;erw[cq.mk _ _ _ _ _ rfl (hS6.same s7) ↑1 ↑1 ↑1 ↑1 λd13 d0 d1=> ?_];obtain ⟨cnt,hcnt,cn0,cn20⟩:∃cnt:Int,cnt=(if d13>(n20:Int) then d13 else (n20:Int))/\0<=cnt/\cnt<=20:=⟨_,rfl,by split<;>omega,by split<;>omega⟩;rw [<-hcnt];rwa[⟨⟨by omega,by omega⟩,?_⟩];have crt7:=crt.same s7;have hS7:=hS6.same s7;have hH7:=hH6.same s7;have st7:gk K H7 st cs ws last fi:=st6.keep s7.st
 have c10:cs.length<=10:=by omega
 rwa[eV (λi ys HX=>ar H7 HX/\ys.length=i/\∃ds:List Dd,Paired (λx d=>∃a,x=V.ref a/\jv HX a d) ys ds) (bB ↑5) (λi ys HX p=>Nat.le_of_eq p.2.1) ⟨.refl _,rfl,[],.nil⟩ (λi ys HX hi p=> ?_) (λys HX p ld nld=> ?_)]
 ·obtain ⟨sX,rfl,ds,pd⟩:=p;ext;erw[⟨bC,?_⟩];rwa[va.mk _ _ _ _ _ _ _ _ _ _ rfl (hS7.same sX) ↑5 ↑5 (hH7.same sX) (st7.keep sX.st) ↑5 c64 c10 λt d H8 s8 hd=>⟨sX.trans s8,by simp,ds++[d],?_⟩];exact Paired.app (Paired.imp' (λx d ⟨a,e,z⟩=>⟨a,e,s8 _ _ z.1,z.2⟩) pd) (.cons ⟨t,rfl,hd⟩ .nil)
 obtain ⟨sX,ysl,ds,pd⟩:=p
 have dsl:ds.length<=20:=by have:=pd.len;omega
 have s8:ar HX (upd HX ld (.lst ys)):= .upd nld;have e8:upd HX ld (.lst ys) ld=some (.lst ys):=aj;generalize upd HX ld (.lst ys)=H8 at s8 e8 ⊢;have pd8:Paired (λx d=>∃a,x=V.ref a/\jv H8 a d) ys ds:=Paired.imp' (λx d ⟨a,e,z⟩=>⟨a,e,s8 _ _ z.1,z.2⟩) pd;have s78:=sX.trans s8;ext;erw[Ms (hH7.same s78) (st7.keep s78.st) ⟨ys,aN.of e8,pd8⟩ ↑5 c64 c10 ↑5 λbad H9 s9 hbad=> ?_];rwa[Ij (λm σ HY=>ar H7 HY/\∃(dp:Addr) (xs:List V) (ds:List Dd) (v:V) (o9:Option V),HY dp=some (.lst xs)/\Paired (λx d=>∃a,x=V.ref a/\jv HY a d) xs ds/\ds.length=m/\ds.length<=20/\O3 HY v ds.length (bv hs.fl hs.ls.length (bM cs ws) ds)/\σ=[some (.ref a),some (.ref hA),some (.bl fi),some (.ref st),o4,some (.ref ca),some (.int cnt),some (.ref dp),some v,o9,none,none]) ⟨_,s78.trans s9,ld,ys,ds,bad,_,s9 _ _ e8,Paired.imp' (λx d ⟨a,e,z⟩=>⟨a,e,s9 _ _ z.1,z.2⟩) pd8,rfl,dsl,hbad,rfl⟩ λm σ HY hW=> ?_];clear hbad pd8 e8 pd dsl bad;obtain ⟨sY,dp,xs,ds,v,o9,edp,pd,rfl,dsl,hbad,rfl⟩:=hW;have crtY:=crt7.same sY;have hHY:=hH7.same sY;have stY:gk K HY st cs ws last fi:=st7.keep sY.st;have pdsame:∀ {H':Hp},ar HY H'->Paired (λx d=>∃a,x=V.ref a/\jv H' a d) xs ds:=λs=>Paired.imp' (λx d ⟨a,e,z⟩=>⟨a,e,s _ _ z.1,z.2⟩) pd;have xl:xs.length=ds.length:=pd.len
 have ddep:jF (.lst (ds.map Dd.dat))<=60:=by have:=xT ds;simp only [jF];omega
 rcases hbad with ⟨rfl,hgood⟩|⟨hne,k,t,r,hk,rfl,er,et⟩
 ·ext;erw[aB rfl ?_];have liC:LI cs ⟨cs,ws,last,fi,0,[]⟩:=⟨rfl,λc hc=>(hSta.ok.cs c hc).m0,hSta.m3,hSta.fw⟩;have okd:∀d∈ds,d.ok:=kA.ok (K:=K) ⟨xs,aN.of edp,pd⟩;rwa[yB.mk _ _ _ _ _ _ _ _ _ rfl hHY stY ⟨xs,aN.of edp,pd⟩ hSta.ok liC ↑5 hgood λkp HA hk=> ?_]
  have sA:ar HY HA:=by obtain ⟨_,_,_,_,_,a⟩:=id hk;exact a.s
  have mD:=hSta.ok.deeds (λd hd=>⟨okd d hd,nv hgood d hd⟩) ds.length;rw [List.take_length] at mD;have lgD:fu (bJ hs.lo ⟨cs,ws,last,fi,0,[]⟩ ds):=fu.deeds (λd hd=>nomatch hd) okd
  have turnOk:∀ {HB:Hp} {hp:Addr} {Q:VK} {E:XK},ar HY HB->HB hp=some (.lst xs)->∀ {C dx h ru df:Addr} {wf:Wf},HB ca=some (.ins C dx (oR h ru df))->HR K C->jE K HB h hs->EN P w K mg base HB ru wf->qf P w K mg base 5 df (qN K pZ iN)->gk K HB st cs ws last fi->
   (∀r st' ll zs M' ss HC,ar HB HC->HC r=some (.tup [.ref st',.ref ll])->gk K HC st' M'.cs M'.ws M'.last M'.fire->HB ll=none->HC ll=some (.lst zs)->aO K HC zs M'.log->EX (jd iN (bJ hs.lo ⟨cs,ws,last,fi,0,[]⟩ ds)) M' ss->M'.log.length<=4000->Q (.ref r) HC)->qF P w K mg base kFl kLi kRi kTw pZ iN [.ref ca,.ref st,.ref hp] HB Q E:=by
   intro HB hp Q E sB eB C dx h ru df wf c1 c2 c4 c5 c6 c7 g;rwa[Hk c1 c2 c4 c5 c6 c7 hSta.ok ⟨xs,aN.of eB,pdsame sB⟩ ↑5 (λ_ r st' ll zs M' HC sC eC hst' nll ell dzs hno hgo=> ?_) (λz=>absurd hgood z)];obtain ⟨ss,aft⟩:=As hgo;have ml:=z8 (M:=bJ hs.lo ⟨cs,ws,last,fi,0,[]⟩ ds);have mds:=mD.sum;have ah:=uC hgo (λc hc=>by rw [ml.2.1] at hc;exact (mD.cs c hc).len) (by rw [ml.1];omega);have ahl:=ah.log;exact g r st' ll zs M' ss HC sC eC hst' nll ell dzs aft ↑5
  generalize hM1:bJ hs.lo ⟨cs,ws,last,fi,0,[]⟩ ds=M1 at *;have ml:=z8 (M:=M1);have mds:=mD.sum;have mdl:=mD.len;have lgM:fu (jd iN M1):=lgD.mid;ext;rwa[jf (.inl (aN.of (sA _ _ edp))) λhp HB sB nB eB=> ?_];have sYB:=sA.trans sB;obtain ⟨C,dx,h',ru',df',c1,c2,c3,c4,c5,c6,c7,c8⟩:=crtY.same sYB;ext;erw[mY c1 rfl c3 ?_];rwa[turnOk sYB eB c1 c2 c4 c5 c6 c7 λr st' ll zs M' ss HC sC eC hst' nll ell dzs aft l4=> ?_];have sYC:=sYB.trans sC;ext;erw[oQ (xR (aN.of (sC _ _ eB)) (qr (pdsame sYC))) (xR (aN.of (sYC _ _ edp)) (qr (pdsame sYC))) ddep ?_];erw[aB rfl ?_];erw[Fv.mk _ _ _ _ _ _ _ _ _ rfl eC hst' ell dzs (hk.same (sB.trans sC)) aft lgM l4 ↑5 (by rw [ml.2.1];omega) λHD sD=> ?_];erw[aB rfl ?_];erw[ai (aK.of (sD _ _ eC)) rfl ?_];erw[⟨.inl ⟨rfl,_,aN.of (sD _ _ ell)⟩,?_⟩];erw[bK (bB (by show 3<=1000000;decide)) λtE HE sE nE eE=> ?_];have zl:zs.length=M'.log.length:=dzs.len;rwa[dM (sE _ _ (sD _ _ ell)) (nL ↑5) ?_];have sBF:ar HB (upd HE ll (.lst (zs++[.ref tE]))):=ar.updF (sC.trans (sD.trans sE)) nll;generalize upd HE ll (.lst (zs++[.ref tE]))=HF at sBF ⊢;have sYF:=sYB.trans sBF;ext;erw[mY (sBF _ _ c1) rfl c3 ?_];rwa[jf (.inl (aN.of (sYF _ _ edp))) λhp2 HG sG nG eG=> ?_];have sBG:=sBF.trans sG;ext;erw[turnOk (sYF.trans sG) eG (sBG _ _ c1) c2 (c4.same sBG) (c5.same sBG) c6 (c7.keep sBG.st) λr2 st2 ll2 zs2 M2 ss2 HI sI eI hst2 nll2 ell2 dzs2 aft2 l42=> ?_];exact Fv.mk _ _ _ _ _ _ _ _ _ rfl eI hst2 ell2 dzs2 (hk.same (sB.trans (sBG.trans sI))) aft2 lgM l42 ↑5 (by rw [ml.2.1];omega) λHJ _=>q HJ
 ·ext;rwa[bj rfl ?_];erw[⟨_,λσ' H' h=>h,?_⟩];erw[jf (.inl (aN.of edp)) λhp HA sA nA eA=> ?_];erw[ai (aK.of (sA _ _ er)) rfl ?_];erw[CB.mk _ _ _ _ _ _ _ _ _ _ _ rfl (crtY.same sA) ⟨xs,aN.of eA,pdsame sA⟩ ↑5 hne (sA _ _ et) λHB sB=> ?_];rwa[aB rfl ?_];have sYB:=sA.trans sB;ext;erw[oQ (xR (aN.of (sB _ _ eA)) (qr (pdsame sYB))) (xR (aN.of (sYB _ _ edp)) (qr (pdsame sYB))) ddep ?_];erw[aB rfl ?_];erw[ai (aK.of (sYB _ _ er)) rfl ?_];rwa[mU (aN.of (sYB _ _ edp)) λl1' HC sC nC eC=> ?_];rw [uJ] at eC;have sYC:=sYB.trans sC;ext;erw[ai (aK.of (sYC _ _ er)) rfl ?_];rwa[mU (aN.of (sYC _ _ edp)) λl2' HD sD nD eD=> ?_];have eD:HD l2'=some (.lst (ff xs (some ((k+1:Nat):Int)) none)):=eD;rw [uK ↑5] at eD;have sYD:=sYC.trans sD;ext;rwa[An (sD _ _ eC) eD (bB (by rw [List.length_take,List.length_drop];omega)) λl3' HE sE nE eE=> ?_];have sYE:=sYD.trans sE;have pdE:Paired (λx d=>∃a,x=V.ref a/\jv HE a d) (xs.take k++xs.drop (k+1)) (ds.take k++ds.drop (k+1)):=Paired.app ((pdsame sYE).take k) ((pdsame sYE).drop (k+1))
  have dl2:(ds.take k++ds.drop (k+1)).length=ds.length - 1:=by rw [List.length_append,List.length_take,List.length_drop];omega
  ext;rwa[Ms (hHY.same sYE) (stY.keep sYE.st) ⟨_,aN.of eE,pdE⟩ ↑5 c64 c10 ↑5 λbad HF sF hbad=> ?_];exact ⟨ds.length - 1,by omega,sY.trans (sYE.trans sF),l3',_,_,bad,_,sF _ _ eE,Paired.imp' (λx d ⟨a,e,z⟩=>⟨a,e,sF _ _ z.1,z.2⟩) pdE,dl2,by omega,hbad,rfl⟩
end
end My
namespace My
open PySem L2 PyProof.Rows
seal PE PT PS tK PA PI PG EQ E2 PW PO d8 KA b3 BY Au HM EO
seal rY lJ qR vg G1 ui mm qQ pK Ab G2 G5 xF Cr rT setL Cn zD wy uX wN BV zR pI Ek Fp uG
seal BI j5 zx L2.pU L2.putAt L2.v0 jV GO ji DZ Nb zG G3
seal Gz Fx rX qy qz
theorem Er {P:Program}{w:World}{K:Fg}{mg:Str->Option Value}{base:Heap}{kD kH kS:Addr}(iD:tY K kD)(nD:bV K kD "turns")(iH:tY K kH)(nH:bV K kH "turns")(iS:tY K kS)(nS:bV K kS "turns")(mD:pD P w K mg base b8 1 "left" kD (jK K Hr))(mH:pD P w K mg base b8 1 "left" kH (jK K hst))(mS:pD P w K mg base b8 1 "left" kS (jK K EY)):HQ P w K mg base kD kH kS:=by
 rwa[⟨λk hk=> ?_,λk hk=> ?_⟩]
 ·rcases hk with rfl|rfl|rfl
  ·rw [JW];exact ⟨iD,nD⟩
  ·rw [JX];exact ⟨iH,nH⟩
  ·rw [JV];exact ⟨iS,nS⟩
 ·rcases hk with rfl|rfl|rfl
  ·rw [JW];exact mD
  ·rw [JX];exact mH
  ·rw [JV];exact mS
theorem D6 {K:Fg}{H:Hp}{a:Addr}{ns:List Int}{E:XK}(hS:aN K H a (ns.map V.int))(hl:ns.length<=63)(hb:∀i∈ns,Builtin.Int.intBits i<=2^20):xb K [.ref a] H (λv _=>v= .bl true) E:=⟨a,ns,rfl,⟨⟨hS,hl⟩,hb⟩,λ_=>rfl⟩
theorem Ko {l:PySem.W.OpenLaw}{w:World}{K:Fg}{h:Heap}{mg:Str->Option Value}{fa:Addr}(X:K.In h)(G:h.Ns mainGlobals mg)(hfa:mg "law"=some (.ref fa))
{tV m5 v8 bf aU ba bI bW v9 cU fD fE dZ iJ fC iK dY lj jZ k_law_deal f1 f2 f3 f4 f5 f6 f7 f8 f9 f10 f11 f12 f13 f14 f15 f16 f17 f18 f19 f20 f21 f22 f23 f24 f25 f26 f27 f28 f29 f30 f31 f32 f33 f34 f35 f36 f37 f38 f39 f40 f41 f42 f43 f44 f45 f46 f47 f48 f49 f50 f51 f52 f53 f54 f55 f56 f57 f58 f59 f60 f61 f62 f63 f64 f65 f66 f67 f68 f69 f70 f71 f72 f73 f74 f75 f76 f77 f78 f79 f80 f81 f82 f83 f84 f85 f86 f87 f88 f89:Addr}{Ct:Tok}{Iz:Tok}{Iy:Tok}{w5:Tok}{Ix:Tok}
(KL:W.nsIn K mainGlobals "Door"=some (some (.ref tV)))
(Ig:W.nsIn K mainGlobals "Hasty"=some (some (.ref m5)))
(KK:W.nsIn K mainGlobals "Slow"=some (some (.ref v8)))
(wT:W.nsIn K mainGlobals "CourtError"=some (some (.ref bf)))
(B3:W.nsIn K mainGlobals "NoFloor"=some (some (.ref aU)))
(E7:W.nsIn K mainGlobals "NoLift"=some (some (.ref ba)))
(E5:W.nsIn K mainGlobals "NoRide"=some (some (.ref bI)))
(Ia:W.nsIn K mainGlobals "Twice"=some (some (.ref bW)))
(Fa:W.nsIn K mainGlobals "Moment"=some (some (.ref v9)))
(E4:W.nsIn K mainGlobals "NoRule"=some (some (.ref cU)))
(E8:W.nsIn K mainGlobals "NoDeed"=some (some (.ref fD)))
(E9:W.nsIn K mainGlobals "NoDeal"=some (some (.ref fE)))
(B2:W.nsIn K mainGlobals "NoHouse"=some (some (.ref dZ)))
(Ie:W.nsIn K mainGlobals "NoIll"=some (some (.ref iJ)))
(E6:W.nsIn K mainGlobals "NoLine"=some (some (.ref fC)))
(Ih:W.nsIn K mainGlobals "Empty"=some (some (.ref iK)))
(B1:W.nsIn K mainGlobals "TooMany"=some (some (.ref dY)))
(Ib:W.nsIn K mainGlobals "Table"=some (some (.ref lj)))
(Ii:W.nsIn K mainGlobals "Court"=some (some (.ref jZ)))
(yi:W.nsIn K mainGlobals "_law_deal"=some (some (.ref k_law_deal)))
(c3Door:HS K tV)
(c3Hasty:HS K m5)
(c3Slow:HS K v8)
(cM:uS K v9)
(tF:HL K aU "NoFloor" aU ba bW bI fD fE dZ cU iJ fC iK dY)
(tL:HL K ba "NoLift" aU ba bW bI fD fE dZ cU iJ fC iK dY)
(tR:HL K bI "NoRide" aU ba bW bI fD fE dZ cU iJ fC iK dY)
(tT:HL K bW "Twice" aU ba bW bI fD fE dZ cU iJ fC iK dY)
(cT:MZ K lj)
(cC:HR K jZ)
(h1:L2.NF K "_law_cell" yZ f1)
(h2:L2.NF K "_law_draw" yU f2)
(h3:L2.NF K "_law_great" vC f3)
(h4:L2.NF K "_law_whole" vy f4)
(h5:L2.NF K "_law_tag" C2 f5)
(h6:L2.NF K "bit" IT f6)
(h7:L2.NF K "has" IS f7)
(h8:L2.NF K "with_bit" q8 f8)
(h9:L2.NF K "below" y4 f9)
(h10:L2.NF K "above" y6 f10)
(h11:L2.NF K "mask_of" vv f11)
(h12:L2.NF K "listed" vx f12)
(h13:L2.NF K "lowest" vw f13)
(h14:L2.NF K "highest" rh f14)
(h15:L2.NF K "floor_of" rn f15)
(h16:L2.NF K "goals_aboard" ja f16)
(h17:L2.NF K "way_of" yP f17)
(h18:L2.NF K "tasks_of" rb f18)
(h19:L2.NF K "goes_along" lX f19)
(h20:L2.NF K "here_of" vH f20)
(h21:L2.NF K "view" C1 f21)
(h22:L2.NF K "turned" vp f22)
(h23:L2.NF K "bounded" rz f23)
(h24:L2.NF K "with_changes" iY f24)
(h25:L2.NF K "steered" rc f25)
(h26:L2.NF K "may_step_in" lU f26)
(h27:L2.NF K "exchanged" lY f27)
(h28:L2.MF K tV "__init__" "Door.__init__" oy f28)
(h29:L2.MF K tV "left" "Door.left" ow f29)
(h30:L2.MF K m5 "left" "Hasty.left" lW f30)
(h31:L2.MF K v8 "left" "Slow.left" nY f31)
(h32:L2.NF K "door_of" vI f32)
(h33:L2.NF K "room_of" vt f33)
(h34:L2.NF K "turns_of" q9 f34)
(h35:L2.NF K "kind_of" vF f35)
(h36:L2.NF K "do_come" vL f36)
(h37:L2.NF K "dealt_to" rp f37)
(h38:L2.NF K "with_marks" lN f38)
(h39:L2.NF K "without" qZ f39)
(h40:L2.NF K "put_mark" rf f40)
(h41:L2.NF K "lose_mark" oh f41)
(h42:L2.NF K "do_fire" vJ f42)
(h43:L2.NF K "is_left" vG f43)
(h44:L2.NF K "do_calm" vM f44)
(h45:L2.NF K "do_deed" vK f45)
(h46:L2.NF K "deal" C4 f46)
(h47:L2.NF K "deal_all" rq f47)
(h48:L2.NF K "log_steps" oj f48)
(h49:L2.NF K "open_below" lR f49)
(h50:L2.NF K "go_in_fire" oo f50)
(h51:L2.NF K "exchange" ou f51)
(h52:L2.NF K "go_by_rule" oq f52)
(h53:L2.NF K "go_without_fire" gK f53)
(h54:L2.NF K "go" N8 f54)
(h55:L2.MF K v9 "__init__" "Moment.__init__" jO f55)
(h56:L2.NF K "state_of" re f56)
(h57:L2.MF K aU "__init__" "NoFloor.__init__" iZ f57)
(h58:L2.MF K ba "__init__" "NoLift.__init__" jN f58)
(h59:L2.NF K "need_floor" lS f59)
(h60:L2.NF K "need_lift" oa f60)
(h61:L2.NF K "need_ride" nZ f61)
(h62:L2.NF K "need_deed" og f62)
(h63:L2.NF K "tags_in" vq f63)
(h64:L2.MF K bW "__init__" "Twice.__init__" lO f64)
(h65:L2.NF K "need_deeds" lT f65)
(h66:L2.MF K jZ "turn" "Court.turn" lZ f66)
(h67:L2.MF K lj "__init__" "Table.__init__" lQ f67)
(h68:L2.NF K "place_in_table" ie f68)
(h69:L2.MF K lj "word" "Table.word" lP f69)
(h70:L2.MF K jZ "__init__" "Court.__init__" l6 f70)
(h71:L2.NF K "_law_lift" yS f71)
(h72:L2.NF K "_law_house" vB f72)
(h73:L2.NF K "_law_goals" vD f73)
(h74:L2.NF K "_law_cabin" vE f74)
(h75:L2.NF K "_law_rider" vA f75)
(h76:L2.NF K "_law_state" vz f76)
(h77:L2.NF K "_law_letters" on f77)
(h78:L2.NF K "_law_rows" yQ f78)
(h79:L2.NF K "_law_deal" yX f79)
(h80:L2.NF K "_law_name" yR f80)
(h81:L2.NF K "_law_refused" om f81)
(h82:L2.NF K "_law_deed" yW f82)
(h83:L2.NF K "_law_due" C3 f83)
(h84:L2.NF K "_law_first_bad" lV f84)
(h85:L2.NF K "_law_come" yY f85)
(h86:L2.NF K "_law_done" yV f86)
(h87:L2.NF K "_law_kept" yT f87)
(h88:L2.NF K "_law_behind_right" ig f88)
(h89:L2.NF K "law" IQ f89)
(HP:L2.tY K tV)
(yg:W.findIn K (.ref tV) "turns"=some none)
(EV:L2.tY K m5)
(wO:W.findIn K (.ref m5) "turns"=some none)
(HN:L2.tY K v8)
(yf:W.findIn K (.ref v8) "turns"=some none)
(Nl:W.nsIn K mainGlobals "len"=some none)
(wQ:W.nsIn K mainGlobals "isinstance"=some none)
(Nm:W.nsIn K mainGlobals "int"=some none)
(KJ:W.nsIn K mainGlobals "bool"=some none)
(HV:W.nsIn K mainGlobals "range"=some none)
(HU:W.nsIn K mainGlobals "tuple"=some none)
(JI:L2.Mk K tV f28)
(Gv:L2.Mk K m5 f28)
(JH:L2.Mk K v8 f28)
(B4:W.nsIn K mainGlobals "NO_LIFT"=some (some (.int (-1) Ct)))
(No:W.nsIn K mainGlobals "all"=some none)
(Id:W.nsIn K mainGlobals "STUCK"=some (some (.int 0 Iz)))
(Ic:W.nsIn K mainGlobals "TAKEN"=some (some (.int 1 Iy)))
(KG:W.nsIn K mainGlobals "list"=some none)
(yh:W.nsIn K mainGlobals "enumerate"=some none)
(cQ:L2.ye K bf)
(j4:L2.jA K aU L2.x6 "ValueError.__new__"=true)
(nX:W.findIn K (.ref aU) "__setattr__"=some ↑39)
(dq:W.findIn K (.ref aU) "floor"=some none)
(oG:W.mroIn K aU (.type "object")=some true)
(m6:L2.jA K ba L2.x6 "ValueError.__new__"=true)
(qY:W.findIn K (.ref ba) "__setattr__"=some ↑39)
(ef:W.findIn K (.ref ba) "lift"=some none)
(rO:W.mroIn K ba (.type "object")=some true)
(Aw:L2.XI K aU f57)
(B6:L2.XI K ba f58)
(qm:W.excIn K bI [.type "ValueError",.type "Exception",.type "BaseException",.type "object"] "ValueError.__new__"=true)
(rS:L2.jA K bW L2.x6 "ValueError.__new__"=true)
(vo:W.findIn K (.ref bW) "__setattr__"=some ↑39)
(fL:W.findIn K (.ref bW) "tag"=some none)
(v4:W.mroIn K bW (.type "object")=some true)
(KH:W.nsIn K mainGlobals "dict"=some none)
(Fb:L2.XI K bW f64)
(DY:L2.Mk K v9 f55)
(Nn:W.nsIn K mainGlobals "any"=some none)
(wS:W.nsIn K mainGlobals "TABLE_SIZE"=some (some (.int 36 w5)))
(HW:W.nsIn K mainGlobals "WORDS"=some (some (.str (Str.ofString "oxuds") Ix)))
(wj:W.excIn K cU [.type "ValueError",.type "Exception",.type "BaseException",.type "object"] "ValueError.__new__"=true)
(Ni:W.nsIn K mainGlobals "str"=some none)
(Nh:W.nsIn K mainGlobals "sum"=some none)
(wR:W.nsIn K mainGlobals "ValueError"=some none)
(oN:W.hasDictIn K aU=true)
(rZ:W.hasDictIn K ba=true)
(wm:W.hasDictIn K bW=true)
(xJ:W.excIn K bf [.type "ValueError",.type "Exception",.type "BaseException",.type "object"] "ValueError.__new__"=true)
(jW:W.mroIn K aU (.ref bf)=some true)
(kW:W.mroIn K ba (.ref bf)=some true)
(kU:W.mroIn K bI (.ref bf)=some true)
(l8:W.mroIn K bW (.ref bf)=some true)
(Nk:W.nsIn K mainGlobals "max"=some none)
(Nj:W.nsIn K mainGlobals "min"=some none)
(Gu:L2.Mk K lj f67)
(Kv:L2.ua K lj)
(Gw:L2.Mk K jZ f70)
(Kx:L2.ua K jZ):
 ∃fd:FuncData,(∀(s:Shared) (v:Value),BindsTo s fd ⟨[v],[]⟩ [("_law_script",v)])/\∀base:Heap,K.In base->base.Ns mainGlobals mg->aQ l.prog w K mg base b8 11 fa fd ["_law_script"] (xb K):=by
 obtain ⟨a89,_,F89⟩:=h89;cases hfa.symm.trans (W.mg_of X G a89);rwa[⟨_,F89.law,λbase _ _=> ?_⟩];have T:L2.qe l.prog w K mg base h:=⟨X,G⟩;have Mp:=T.gl KL;have Kb:=T.gl Ig;have Mo:=T.gl KK;have bU:=T.gl wT;have m8:=T.gl B3;have qp:=T.gl E7;have kK:=T.gl E5;have wn:=T.gl Ia;have GM:=T.gl Fa;have kJ:=T.gl E4;have wr:=T.gl E8;have wt:=T.gl E9;have se:=T.gl B2;have zB:=T.gl Ie;have wq:=T.gl E6;have zC:=T.gl Ih;have sd:=T.gl B1;have Ka:=T.gl Ib;have Kc:=T.gl Ii;have jh:=T.gl yi;have MX:=HP.cl;have Kw:=EV.cl;have MW:=HN.cl;have bh:=T.no Nl;have aM:=T.no wQ;have JM:=T.no Nm;have uw:=T.no KJ;have bA:=T.no HV;have bH:=T.no HU;have dF:=T.gl B4;have Bl:=T.no No;have mq:=T.gl Id;have wo:=T.gl Ic;have eF:=T.no KG;have md:=T.no yh;have D3:=T.no KH;have JN:=T.no Nn;have j9:=T.gl wS;have zA:=T.gl HW;have JJ:=T.no Ni;have Gx:=T.no Nh;have jY:=T.no wR;have ke:L2.zQ K bf:=⟨_,_,xJ,by decide+kernel⟩;have ki:L2.dm K (.ref aU) bf:= .inr ⟨aU,rfl,j4,jW⟩;have kZ:L2.dm K (.ref ba) bf:= .inr ⟨ba,rfl,m6,kW⟩;have GV:L2.zQ K bI:=⟨_,_,qm,by decide+kernel⟩;have kY:L2.dm K (.ref bI) bf:= .inl ⟨bI,rfl,GV,kU⟩;have mt:L2.dm K (.ref bW) bf:= .inr ⟨bW,rfl,rS,l8⟩;have JL:=T.no Nk;have JK:=T.no Nj;have gD:=T.cal' h1 λF=>Go F bh;have aE:=T.cal' h2 λF=>LY F gD;have my:=T.cal' h3 λF=>LV F gD;have dD:=T.cal' h4 λF=>Dx F aM JM uw;have eL:=T.cal' h5 λF=>Ju F aE my;have qd:=T.cal' h6 λF=>JF F;have im:=T.cal' h7 λF=>JA F qd;have d6:=T.cal' h8 λF=>Dv F qd;have py:=T.cal' h9 λF=>DT F qd;have zI:=T.cal' h10 λF=>DV F py;have nu:=T.cal' h11 λF=>AY F d6;have wG:=T.cal' h12 λF=>Bb F bA im;have wF:=T.cal' h13 λF=>Ba F wG;have sU:=T.cal' h14 λF=>zh F;have bG:=T.cal' h15 λF=>DP F;have b7:=T.cal' h16 λF=>DO F;have gA:=T.cal' h17 λF=>Jt F;have oV:=T.cal' h18 λF=>Dy F bh b7 nu;have km:=T.cal' h19 λF=>DU F gA;have sV:=T.cal' h20 λF=>Gi F bG im b7 km;have EB:=T.cal' h21 λF=>F4 F bG oV zI wF py sU sV;have wE:=T.cal' h22 λF=>zg F bh bG b7;have tD:=T.cal' h23 λF=>zj F bG;have aZ:=T.cal' h24 λF=>F3 F;have sO:=T.cal' h25 λF=>zf F bh wE tD aZ;have jp:=T.cal' h26 λF=>Jy F gA;have mF:=T.cal' h27 λF=>Gk F bh bH bG gA jp;obtain ⟨a28,_,F28⟩:=h28;have q28:=T.ok (Gh F28);have D5:=T.mkc F28 JI Mp q28;have zv:=T.mkc F28 Gv Kb q28;have D4:=T.mkc F28 JH Mo q28;have zP:=T.mcal' h29 MX h29.1 λF=>DI F;have x8:=T.mcal' h30 Kw h30.1 λF=>DH F;have zO:=T.mcal' h31 MW h31.1 λF=>DG F;have sW:=T.cal' h32 λF=>Bg F c3Door c3Hasty c3Slow D5 zv D4;have iT:=T.cal' h33 λF=>F8 F;have d7:=T.cal' h34 λF=>ze F;have sR:=T.cal' h35 λF=>Bf F;have tq:=T.cal' h36 λF=>Gn F cM dF im;have gE:=T.cal' h37 λF=>DQ F;have fe:=T.cal' h38 λF=>Js F;have sM:=T.cal' h39 λF=>zd F qd im;have kP:=T.cal' h40 λF=>F9 F cM dF d6 fe gE;have jq:=T.cal' h41 λF=>DE F cM sM fe;have tf:=T.cal' h42 λF=>Gj F cM;have sS:=T.cal' h43 λF=>DJ F bh;have tx:=T.cal' h44 λF=>Gp F cM Bl sS;have tm:=T.cal' h45 λF=>LZ F cM mq wo tq d6 kP jq tf tx;have EC:=T.cal' h46 λF=>Gm (pre:=pZ) (dl:=iN) F cM bH dF gE;have pq:=T.cal' h47 λF=>DR (pre:=pZ) (dl:=iN) F cM eF md dF EC;have eW:=T.cal' h48 λF=>Gd F cM bG;have kj:=T.cal' h49 λF=>Ga F cM bh eW d7;have ko:=T.cal' h50 λF=>JC F cM kj im aZ;have pj:=T.cal' h51 λF=>JD F cM (Er HP yg EV wO HN yf zP x8 zO) bh iT d7 sR mF eW sW im aZ;have kq:=T.cal' h52 λF=>JE F cM iT d7 EB sO;have fK:=T.cal' h53 λF=>JB F cM pj aZ kq;have c_go:=T.cal' h54 λF=>LW F cM mq im ko fK;have v3:=T.mkc' h55 DY GM λF=>DD F eF;have oW:=T.cal' h56 λF=>Jv F cM bH;have qx:=T.xmk' h57 Aw m8 λF=>AU F cQ bU j4 nX dq oG;have uT:=T.xmk' h58 B6 qp λF=>Dt F cQ bU m6 qY ef rO;have hG:=T.calX' h59 λF=>AW F qx;have lC:=T.calX' h60 λF=>DC F bh uT;have lB:=T.calX' h61 λF=>DB (ba:=ba) F hG kK qm;have lD:=T.calX' h62 λF=>Gb F lB lC;have sN:=T.cal' h63 λF=>F6 F;have yj:=T.xmk' h64 Fb wn λF=>AT F cQ bU rS vo fL v4;have jG:=T.calX' h65 λF=>Jx F D3 sN lD yj;have ky:=T.mcal' h66 Kx h66.1 λF=>F5 F cM bh bA jG v3 tm pq c_go oW;have zu:=T.mkc' h67 Gu Ka λF=>Dz F bh JN j9 zA kJ wj;have gj:=T.cal' h68 λF=>DA F;have kx:=T.mcal' h69 Kv h69.1 λF=>AV F gj;have zw:=T.mkc' h70 Gw Kc λF=>DS F;have oZ:=T.cal' h71 λF=>DF F aE;have mx:=T.cal' h72 λF=>Bc F bH bA aE oZ;have mz:=T.cal' h73 λF=>Bd F eF bA;have mE:=T.cal' h74 λF=>Be F bh bA bH aE eL mz;have mw:=T.cal' h75 λF=>A4 F bh aE;have mv:=T.cal' h76 λF=>AZ F bA bh bH aE eL mE mw;have jt:=T.cal' h77 λF=>Ge F bA aE;have oX:=T.cal' h78 λF=>F7 F aM eF bH JJ bh dD;have gC:=T.cal' h79 λF=>DM F bA bh Gx;have oY:=T.cal' h80 λF=>Gc F aM jY bh m8 qp wn kK wr wt se kJ zB wq zC sd tF tL tR tT oN rZ wm fL dq ef dD;have jr:=T.cal' h81 λF=>Jw F bU ke ki kZ kY mt oY;have pf:=T.cal' h82 λF=>DL F bh aE eL;have sQ:=T.cal' h83 λF=>Gf F bh;have ft:=T.cal' h84 λF=>LX F bh bA sQ;have pi:=T.cal' h85 λF=>DN F;have pe:=T.cal' h86 λF=>DK F Bl pi;have o0:=T.cal' h87 λF=>Gg F eF bA bh pe gC;have dL:=T.cal' h88 λF=>L5 F aM bH uw bh oX dD;exact Jz F89 bh bA eF bH JL JK mx aE mv jt zu cT kx zw cC ky jh gC pf ft jr o0 dL
theorem Nr {l:PySem.W.OpenLaw}{q:Program}{loose:List Str}{XP:(Str->Option Value)->Heap->Prop}{YP:World->Heap->Prop}{d:DefRec}{K:Params->Fg}(hn:l.most=some 63)(hdf:d.params.defaults=[])
(hY:∀(w:World) (h:Heap),YP w h->(K w.params).In h)
(F:∀(w:World) (mg:Str->Option Value) (fa:Addr) (h:Heap),(K w.params).In h->h.Ns mainGlobals mg->mg d.name=some (.ref fa)->
   ∃fd:FuncData,(∀(s:Shared) (u:Value),BindsTo s fd ⟨[u],[]⟩ [("_law_script",u)])/\∀base:Heap,(K w.params).In base->base.Ns mainGlobals mg->aQ l.prog w (K w.params) mg base b8 11 fa fd ["_law_script"] (xb (K w.params))):
 PySem.W.WalkO q loose XP YP l.row.toRowW d [] (λf vs=>PySem.call f vs):=
 L2.Cd (n:=63) (k:=11) (x:="_law_script") (CX:=λ_=>b8) (sp:=λw=>xb (K w.params)) hn ↑1 hdf ⟨rfl,by decide,by decide⟩ hY F (λ_ _ a ns hl hb hS=>D6 hS hl hb) λ_ _ _ _ _ z=>z
end My
open PySem PySem.W PyProof.Rows
local macro_rules | `(tactic| walk_at "l3t") => `(tactic| first | (refine' L2.L7 ?_ ?_ ?_ ?_; all_goals try k_is) | (refine' L2.Ma ?_ ?_ ?_ ?_ ?_; all_goals try k_is) | k_is | kernel_rfl | (refine L2.Ph ?_; constructor <;> walk_at "l3t"))
set_option maxRecDepth 100000 in
set_option maxHeartbeats 0 in
theorem PySem.Challenge.cw_liftcourt_k34_deeds_done_holds : PySem.Challenge.rw_liftcourt_k34_deeds_done.Holds := by
 w_on;o_law;k_head;(case hw=>w_witness2)
 k_fill
 rwa[My.Nr (l:=PySem.Challenge.rw_liftcourt_k34_deeds_done) rfl rfl (λw h Y=>PySem.W.kIn_of Y) ?F]
 case F=>
  intro w mg fa h KX G hmg;refine' My.Ko KX G hmg ?_ ?_ ?_ ?_ ?_ ?_ ?_ ?_ ?_ ?_ ?_ ?_ ?_ ?_ ?_ ?_ ?_ ?_ ?_ ?_ ?_ ?_ ?_ ?_ ?_ ?_ ?_ ?_ ?_ ?_ ?_ ?_ ?_ ?_ ?_ ?_ ?_ ?_ ?_ ?_ ?_ ?_ ?_ ?_ ?_ ?_ ?_ ?_ ?_ ?_ ?_ ?_ ?_ ?_ ?_ ?_ ?_ ?_ ?_ ?_ ?_ ?_ ?_ ?_ ?_ ?_ ?_ ?_ ?_ ?_ ?_ ?_ ?_ ?_ ?_ ?_ ?_ ?_ ?_ ?_ ?_ ?_ ?_ ?_ ?_ ?_ ?_ ?_ ?_ ?_ ?_ ?_ ?_ ?_ ?_ ?_ ?_ ?_ ?_ ?_ ?_ ?_ ?_ ?_ ?_ ?_ ?_ ?_ ?_ ?_ ?_ ?_ ?_ ?_ ?_ ?_ ?_ ?_ ?_ ?_ ?_ ?_ ?_ ?_ ?_ ?_ ?_ ?_ ?_ ?_ ?_ ?_ ?_ ?_ ?_ ?_ ?_ ?_ ?_ ?_ ?_ ?_ ?_ ?_ ?_ ?_ ?_ ?_ ?_ ?_ ?_ ?_ ?_ ?_ ?_ ?_ ?_ ?_ ?_ ?_ ?_ ?_ ?_ ?_ ?_ ?_ ?_ ?_ ?_ ?_ ?_ ?_ ?_ ?_ ?_ ?_ ?_ ?_ ?_ ?_
  all_goals try walk_at "l3t"
