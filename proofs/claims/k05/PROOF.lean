import PyProof.Rows.All
import Wide.All
import OpenK.AllK
import Wide.FinOn
import PyProof.EqAt
import PyProof.EqKinds
import PyProof.TupleCall
import KE.BitLaws
import PyProof.FactsAll.range_2
import KE.KLam
import KE.KMinKey
import KE.KSortKey
import KE.KDictMeth
import KE.KDictLaws
import KE.KTops
import KE.KDictList
import KE.KEqDict
import KE.KTryMore
import KE.KNest
import PyProof.InstNe
import PyProof.ExcBaseAll.ValueError
import KE.KRevSl
import PyProof.ReprBulk
import PyProof.ReprRoads
import PyProof.Rows.SetFrom
import KE.KTupSum
import KE.KSortKeyAny
import PyProof.NeKinds
import KE.KSortTupG
import PyProof.ExcArgsOwn
import PyProof.ExcInit
import PyProof.InstStoreFacts
import KE.KSuper
import PySem.Challenge.RW_knockwell_k05_rows_refused
set_option Elab.async false
set_option linter.all false
set_option maxRecDepth 100000
namespace PySem.W.Fast
def tw11582894255488162816:=()
def tw1483038254686516256:=()
def tw4861235314729111712:=()
def tw826828577616848096:=()
def tw10781568364847475360:=()
def tw6906887505597176576:=()
def tw1491532808233881408:=()
def tw4069751069081482080:=()
def tw2762401312661369696:=()
def tw14444421158996178880:=()
def tw808681918049912929:=()
def tw2544796159433490625:=()
def tw12171712915905336577:=()
def tw17956534905885027649:=()
def tw12723831250606615009:=()
def tw4371684457502938625:=()
def tw6693759524475757089:=()
def tw17081589199547386433:=()
def tw18215588483162909441:=()
def tw2294108681049316161:=()
def tw910479388096789345:=()
def tw10445937598475582369:=()
def tw17405473481801715649:=()
def tw12678090293890010081:=()
def tw14184995069286269090:=()
def tw4330743612341526818:=()
def tw16634889040447144258:=()
def tw2135403632418587138:=()
def tw17662261070605186562:=()
def tw9318901413571714403:=()
def tw6572689111320020355:=()
def tw15617955085405477251:=()
def tw13767117661457443395:=()
def tw1117477999248199331:=()
def tw9475344965835390627:=()
def tw14314263709843989219:=()
def tw5351024051947982627:=()
def tw6156363469918549827:=()
def tw14842265247028467555:=()
def tw11163522348457798563:=()
def tw12768629574732549059:=()
def tw5860517107494952100:=()
def tw990240840917820772:=()
def tw12664811105933973028:=()
def tw11554462224992711973:=()
def tw16965874882211594629:=()
def tw16936636154283369925:=()
def tw2029638658666066405:=()
def tw5644805219062750725:=()
def tw16774481672760682277:=()
def tw11615355722436525957:=()
def tw134823479182450565:=()
def tw12015245947501494181:=()
def tw15763457140562749446:=()
def tw5199651711964902502:=()
def tw5573760284582921382:=()
def tw16199512598396221670:=()
def tw2082305927727139078:=()
def tw17288742512832513318:=()
def tw6086731081208163686:=()
def tw7377943985708678502:=()
def tw7681186592406234662:=()
def tw9726567204819500678:=()
def tw15963297349597432486:=()
def tw2713117501842215654:=()
def tw3824789864460383014:=()
def tw448599014916933478:=()
def tw13990857840229506950:=()
def tw15569766403405376422:=()
def tw4769404066653520870:=()
def tw2067402655546965159:=()
def tw9836957142693315783:=()
def tw3246951300395551111:=()
def tw1051194756843220455:=()
def tw2212152572809347591:=()
def tw2521976940331095847:=()
def tw158479908314711911:=()
def tw16214818482170792903:=()
def tw6430029096812806152:=()
def tw10627032609162013864:=()
def tw9634655458235285064:=()
def tw2751135352902653704:=()
def tw6635449402869081896:=()
def tw14234485567320752040:=()
def tw15475099300878059561:=()
def tw7162600310600858665:=()
def tw420038468569785481:=()
def tw4045387102505305257:=()
def tw13989587620410410249:=()
def tw3677134454910052617:=()
def tw729223790320895369:=()
def tw3069499439825488361:=()
def tw2296843321012672265:=()
def tw18329574107093344009:=()
def tw6314486658424029033:=()
def tw13966194494061671305:=()
def tw2469584409122290762:=()
def tw6073471987722305610:=()
def tw13242558363525611658:=()
def tw3048246186477788426:=()
def tw6035781024182653290:=()
def tw4411155964844368234:=()
def tw4585257466550435306:=()
def tw11612847681613870634:=()
def tw14233363873712495210:=()
def tw13424675967723572874:=()
def tw10883984753873532650:=()
def tw4222247000510118666:=()
def tw9571201236417276842:=()
def tw6985194153581795371:=()
def tw13817101682056108107:=()
def tw1506633350169301131:=()
def tw17523956118162260171:=()
def tw847180848092286219:=()
def tw149694944758302187:=()
def tw5369608098590468683:=()
def tw2957277273362414187:=()
def tw572885184454425259:=()
def tw16494169493270249163:=()
def tw3630248733580949195:=()
def tw9016104850181155595:=()
def tw4472278972140735275:=()
def tw10187519407322251083:=()
def tw2434216969757930475:=()
def tw15197071356434466956:=()
def tw16943982720943635596:=()
def tw733943597008479372:=()
def tw14480342279020948652:=()
def tw16053275573187692748:=()
def tw2732255663202405708:=()
def tw312058702777304396:=()
def tw16547688009356607884:=()
def tw446063769748513196:=()
def tw9241560600409390572:=()
def tw10312536389379917452:=()
def tw506862354159920908:=()
def tw11107560087920179980:=()
def tw16197164689255426988:=()
def tw11413504024120315884:=()
def tw13751196110417961997:=()
def tw10815340004856137805:=()
def tw13290656274386879661:=()
def tw15631811590650763565:=()
def tw7170363186698132813:=()
def tw12812085117969073549:=()
def tw448079976729349613:=()
def tw3296940224150625805:=()
def tw12113379449335412269:=()
def tw1553052729033720589:=()
def tw2680383063716540237:=()
def tw10462713842660543437:=()
def tw4131855727144182830:=()
def tw6926678836986520782:=()
def tw6011758249810104558:=()
def tw17670583206556613006:=()
def tw2126746473484092942:=()
def tw4994401891469730446:=()
def tw13051103603075852046:=()
def tw7810944350073015214:=()
def tw11108364418163918927:=()
def tw11419673865914704239:=()
def tw4265549115174411759:=()
def tw12853289531528551919:=()
def tw14532794772326043215:=()
def tw9713303887993382639:=()
def tw7876561486542771216:=()
def tw11107239467863745552:=()
def tw8136193084691031248:=()
def tw3636200129863850192:=()
def tw12409241470243073264:=()
def tw15458947509614673200:=()
def tw1428293973116773776:=()
def tw3221721998133657008:=()
def tw15206349910091819696:=()
def tw10987830889253228432:=()
def tw15945312238990405649:=()
def tw13774711250388350033:=()
def tw8731904290794516753:=()
def tw18285830333123454225:=()
def tw12172241698113082673:=()
def tw5823741615209994673:=()
def tw16229646777853480401:=()
def tw10445056840978636305:=()
def tw11817510631053128401:=()
def tw13157963292021149553:=()
def tw10918168271882310577:=()
def tw17699951117221797906:=()
def tw6454281455422738578:=()
def tw6238120807427047570:=()
def tw11304573010492331250:=()
def tw17651988019195547954:=()
def tw14078817285519950322:=()
def tw3324718451871300146:=()
def tw18211084253055006354:=()
def tw12016418316891968210:=()
def tw5485660214392685490:=()
def tw9244392296787833171:=()
def tw16857892986677548531:=()
def tw2726021696748157587:=()
def tw16085452891934745267:=()
def tw15919118079173741331:=()
def tw6204511025353301204:=()
def tw13908348550519082484:=()
def tw1394159510853104148:=()
def tw145079544762108436:=()
def tw6383343339543700052:=()
def tw12734067667889680980:=()
def tw5664948396982844052:=()
def tw12277218596975064085:=()
def tw13227414675043687509:=()
def tw16993194330262114485:=()
def tw137471108156098837:=()
def tw476804396235574869:=()
def tw10527689454915660725:=()
def tw18320502099551074326:=()
def tw9428725477802530966:=()
def tw7609989112206352630:=()
def tw2580205932449560854:=()
def tw16750315787376885014:=()
def tw4200002932031247702:=()
def tw15369924947597039094:=()
def tw457405962170733142:=()
def tw8474919265141852086:=()
def tw8912017070319560823:=()
def tw13123450412580506839:=()
def tw5751716843872847095:=()
def tw381819757756820983:=()
def tw14907217456108107639:=()
def tw11563848597432060887:=()
def tw15589675087056311384:=()
def tw5189505789779864696:=()
def tw132931453246298232:=()
def tw804534982522193112:=()
def tw1962625330328299768:=()
def tw10821731354137615640:=()
def tw7139735992218789336:=()
def tw1086587146209143352:=()
def tw6081564030743360152:=()
def tw4345971905100796568:=()
def tw10351214040300076792:=()
def tw664465124372133624:=()
def tw4111327366525344536:=()
def tw13133669697843998616:=()
def tw14442169310068020184:=()
def tw87371000125242328:=()
def tw11987600754083102680:=()
def tw17712989070839162872:=()
def tw15522004071629200376:=()
def tw12960298613466150969:=()
def tw904880135688223897:=()
def tw10418889956500782329:=()
def tw5520794681727680953:=()
def tw7336976170755477977:=()
def tw14738291832087919097:=()
def tw8281440274813523545:=()
def tw15592852243093141177:=()
def tw3357409000692734713:=()
def tw16001188046214353721:=()
def tw10989410253491658553:=()
def tw12696983603706748761:=()
def tw12144036137545456537:=()
def tw15612751836478900217:=()
def tw13817134144208213114:=()
def tw7666073982835592410:=()
def tw1651003998961787098:=()
def tw15124800604168150362:=()
def tw10811368148362509690:=()
def tw8365210368140876154:=()
def tw801386208174848538:=()
def tw16417045455895931738:=()
def tw8151287844441086970:=()
def tw15377102911551544347:=()
def tw11235086453456899195:=()
def tw17113396937414177051:=()
def tw3862440805592508731:=()
def tw5652095735147873659:=()
def tw17963907379264190075:=()
def tw5766471212116817883:=()
def tw11420201027385273339:=()
def tw13304167850566994172:=()
def tw16765966803896873212:=()
def tw5001880611715827196:=()
def tw9666896911828913980:=()
def tw18377290298940726172:=()
def tw8639135028896825469:=()
def tw3022921546435257533:=()
def tw9662573939142491453:=()
def tw3994488448469710173:=()
def tw2963760348041711997:=()
def tw17893287929553238429:=()
def tw11587563806510719389:=()
def tw3988597593135872445:=()
def tw11601017633820163549:=()
def tw2983963477362367261:=()
def tw4932902294884550493:=()
def tw794007096415999837:=()
def tw9558802494652570461:=()
def tw5046851162231663774:=()
def tw2119572633172502718:=()
def tw14524649179864756510:=()
def tw16167631509914592638:=()
def tw14890842700456637822:=()
def tw6738324299124336126:=()
def tw8357363124365476734:=()
def tw14461941722660739998:=()
def tw3702822800176710654:=()
def tw1455667632876391519:=()
def tw1119507594963476703:=()
def tw9111228480461104415:=()
def tw3049352841288466719:=()
def tw15400640519653795167:=()
def tw1976001057801559615:=()
def tw5859895192155419231:=()
def tw7083613768246457951:=()
def tw14108419418146613023:=()
def tw8979686403487731711:=()
end PySem.W.Fast
section
set_option Elab.async false
set_option linter.all false
set_option maxRecDepth 100000
namespace L2
open PySem PySem.Spec PyProof.Rows

abbrev Key:=Sum Int Str
def keyIs:Key→Value→Bool
  | .inl k,v=>Value.isInt k v
  | .inr x,v=>Value.isStrOf x v
def keyH (w:World):Key→Int
  | .inl k=>hashInt k
  | .inr x=>hashStr w x
theorem keyIs_shape:∀ {k:Key} {v:Value},keyIs k v=true→(∃ i t,k=Sum.inl i∧v=Value.int i t)∨(∃ x t,k=Sum.inr x∧v=Value.str x t)
  | .inl i,v,h=>by
    obtain⟨t,e⟩:=Value.isInt_shape (k:=i) (v:=v) h
    exact .inl ⟨i,t,rfl,e⟩
  | .inr x,v,h=>by
    obtain⟨t,e⟩:=Value.isStrOf_shape (x:=x) (v:=v) h
    exact .inr ⟨x,t,rfl,e⟩
theorem keyIs_int (i:Int) (t:Tok):keyIs (.inl i) (.int i t)=true:=by simp[keyIs,Value.isInt]
theorem keyIs_str (x:Str) (t:Tok):keyIs (.inr x) (.str x t)=true:=by simp[keyIs,Value.isStrOf]
theorem key_ll (a b:Int):decide ((Sum.inl a:Key)=Sum.inl b)=(a == b):=by
  by_cases e:a=b
  · subst e;simp
  · have h:¬ (Sum.inl a:Key)=Sum.inl b:=fun q=>e (Sum.inl.inj q)
    rw[decide_eq_false h]
    exact (beq_eq_false_iff_ne.mpr e).symm
theorem key_rr (a b:Str):decide ((Sum.inr a:Key)=Sum.inr b)=decide (a=b):=by
  by_cases e:a=b
  · subst e;simp
  · have h:¬ (Sum.inr a:Key)=Sum.inr b:=fun q=>e (Sum.inr.inj q)
    rw[decide_eq_false h,decide_eq_false e]
theorem key_lr (a:Int) (b:Str):decide ((Sum.inl a:Key)=Sum.inr b)=false:=decide_eq_false (fun q=>nomatch q)
theorem key_rl (a:Str) (b:Int):decide ((Sum.inr a:Key)=Sum.inl b)=false:=decide_eq_false (fun q=>nomatch q)

def mixKind (prog:Program) (w:World):PySem.KeyKind prog w Key where
  is:=keyIs
  hash:=keyH w
  inj:=fun v a b ha hb=>by
    rcases keyIs_shape ha with ⟨i,t,rfl,rfl⟩ | ⟨x,t,rfl,rfl⟩
    · rcases keyIs_shape hb with ⟨j,u,rfl,e⟩ | ⟨y,u,rfl,e⟩
      · injection e with e1 _;rw[e1]
      · exact nomatch e
    · rcases keyIs_shape hb with ⟨j,u,rfl,e⟩ | ⟨y,u,rfl,e⟩
      · exact nomatch e
      · injection e with e1 _;rw[e1]
  byValue:=fun k v h=>by
    rcases keyIs_shape h with ⟨i,t,rfl,rfl⟩ | ⟨x,t,rfl,rfl⟩ <;> rfl
  pyHash:=fun hv h=>by
    rcases keyIs_shape hv with ⟨i,t,rfl,rfl⟩ | ⟨x,t,rfl,rfl⟩
    · exact wpAny_pyHash_int h
    · exact wpAny_pyHash_str h
  eqBool:=fun hu hv h=>by
    rcases keyIs_shape hu with ⟨i,t,rfl,rfl⟩ | ⟨x,t,rfl,rfl⟩
    · rcases keyIs_shape hv with ⟨j,u,rfl,rfl⟩ | ⟨y,u,rfl,rfl⟩
      · rw[key_ll] at h;exact wpAny_eqBool_int h
      · rw[key_lr] at h;exact SeqAt.EqAt.int_str i t y u _ _ _ _ h
    · rcases keyIs_shape hv with ⟨j,u,rfl,rfl⟩ | ⟨y,u,rfl,rfl⟩
      · rw[key_rl] at h;exact SeqAt.EqAt.str_int x t j u _ _ _ _ h
      · rw[key_rr] at h;exact wpAny_eqBool_str h
  «strs»:=fun k x t v h=>by
    rcases keyIs_shape h with ⟨i,u,rfl,e⟩ | ⟨y,u,rfl,e⟩
    · exact nomatch e
    · injection e with e1 _
      subst e1
      cases v <;> rfl

theorem mixKind_int (prog:Program) (w:World) (i:Int) (t:Tok):(mixKind prog w).is (.inl i) (.int i t)=true:=keyIs_int i t
theorem mixKind_str (prog:Program) (w:World) (x:Str) (t:Tok):(mixKind prog w).is (.inr x) (.str x t)=true:=keyIs_str x t
end L2

namespace L2
open PySem PySem.Spec PyProof.Rows

inductive V where
  | non | bl (b:Bool) | int (i:Int) | str (x:Str) | byt (b:Array UInt8) | flt (b:UInt64) | ref (a:Addr) | ty (n:String)
  deriving DecidableEq

def RelV:V→Value→Prop
  | .non,u=>u=Value.none
  | .bl b,u=>u=Value.bool b
  | .int i,u=>∃ t,u=Value.int i t
  | .str x,u=>∃ t,u=Value.str x t
  | .byt b,u=>∃ t,u=Value.bytes b t
  | .flt b,u=>∃ t,u=Value.float b t
  | .ref a,u=>u=Value.ref a
  | .ty n,u=>u=Value.type n

abbrev Vals:List V→List Value→Prop:=Paired RelV
theorem Vals.length {xs:List V} {us:List Value} (r:Vals xs us):xs.length=us.length:=Paired.length r
theorem Vals.get:∀ {xs:List V} {us:List Value} {i:Nat} {x:V},Vals xs us→xs[i]?=some x→∃ u,us[i]?=some u∧RelV x u
  | _,_,_,_,.nil,e=>by simp at e
  | _,_,0,_,.cons r _,e=>by simp at e;subst e;exact⟨_,rfl,r⟩
  | _,_,i+1,x,.cons _ t,e=>by
    obtain⟨u,h1,h2⟩:=Vals.get (i:=i) (x:=x) t (by simpa using e)
    exact⟨u,by simpa using h1,h2⟩
theorem Vals.set {x:V} {u:Value} (r:RelV x u):∀ {xs:List V} {us:List Value} (i:Nat),Vals xs us→Vals (xs.set i x) (us.set i u)
  | _,_,_,.nil=>.nil
  | _,_,0,.cons _ t=>.cons r t
  | _,_,i+1,.cons q t=>.cons q (Vals.set r i t)
theorem Vals.append:∀ {xs ys:List V} {us ws:List Value},Vals xs us→Vals ys ws→Vals (xs++ys) (us++ws)
  | _,_,_,_,.nil,s=>s
  | _,_,_,_,.cons r t,s=>.cons r (Vals.append t s)
theorem Vals.take:∀ {xs:List V} {us:List Value} (n:Nat),Vals xs us→Vals (xs.take n) (us.take n)
  | _,_,0,_=>.nil
  | _,_,_+1,.nil=>.nil
  | _,_,n+1,.cons r t=>.cons r (Vals.take n t)
theorem Vals.drop:∀ {xs:List V} {us:List Value} (n:Nat),Vals xs us→Vals (xs.drop n) (us.drop n)
  | _,_,0,r=>r
  | _,_,_+1,.nil=>.nil
  | _,_,n+1,.cons _ t=>Vals.drop n t

def RelO:Option V→Option Value→Prop
  | some v,some u=>RelV v u
  | none,none=>True
  | _,_=>False
def KV {κ:Type}:List (κ×V)→List (κ×Value)→Prop:=Paired fun (p:κ×V) (q:κ×Value)=>p.1=q.1∧RelV p.2 q.2

def kV:Key→V
  | .inl i=>.int i
  | .inr x=>.str x

inductive HO where
  | lst (xs:List V)
  | tup (xs:List V)
  | dK (kvs:List (Key×V)) | dT (kvs:List (List Key×V))
  | set (S:Int→Bool) (n:Nat)
  | ins (C dx:Addr) (fs:List (Str×V))
  | own (x:Addr)
  | xd (fs:List (Str×V))
  | met (f x:Addr)
  | rng (lo hi:Int)
  | frz (o:Obj) (u:HO)
  | tbl (ps:Array Value)
  | ext (φ:Heap→Prop)

abbrev Hp:=Addr→Option HO
def upd (H:Hp) (a:Addr) (o:HO):Hp:=fun b=>if b=a then some o else H b
theorem upd_same {H:Hp} {a:Addr} {o:HO}:upd H a o a=some o:=by unfold upd;rw[if_pos rfl]
theorem upd_ne {H:Hp} {a b:Addr} {o:HO} (h:b≠a):upd H a o b=H b:=by unfold upd;rw[if_neg h]
theorem ne_of_none {H:Hp} {a b:Addr} {o:HO} (h:H a=some o) (h':H b=none):a≠b:=by
  intro e;subst e;rw[h] at h';cases h'

section
variable (P:Program) (w:World)
def ObjOk (H:Hp) (h:Heap) (a:Addr):HO→Prop
  | .lst xs=>xs.length≤sizeLine∧∃ (its:List Value) (n:Nat),Vals xs its∧h.get? a=some { cls:=.type "list",data:=.seq its.toArray n }
  | .tup xs=>xs.length≤sizeLine∧∃ its:List Value,Vals xs its∧IsTup h a its.toArray
  | .dK kvs=>kvs.length≤sizeLine∧(a == sysModules)=false∧∃ vs,KV kvs vs∧h.DictOf (mixKind P w) a vs
  | .dT kvs=>kvs.length≤sizeLine∧(a == sysModules)=false∧∃ xs:List (List Key×Addr×Value),
      Paired (fun (p:List Key×V) (q:List Key×Addr×Value)=>p.1=q.1∧H q.2.1=some (.tup (p.1.map kV))∧RelV p.2 q.2.2) kvs xs ∧
      ∃ o es ep,h.get? a=some o∧o.ExactDict∧o.data=.dict es ep∧es.toList=xs.map (entryOfKey (tupleKind (mixKind P w)))∧(xs.map (·.1)).Nodup
  | .set S n=>h.SetOf (intKind P w) a S n
  | .ins C dx fs=>H dx=some (.own a)∧fs.length≤1000∧dx≠a∧h.get? a=some (PySem.W.instObj C dx) ∧
      ∃ mA,h.Ns1 dx mA∧(∀ f,RelO (fs.lookup f) (mA f))∧PySem.Within mA (fs.map (·.1))
  | .own _=>∃ o,h.get? a=some o
  | .xd fs=>∃ mA,h.Ns1 a mA∧∀ f,RelO (fs.lookup f) (mA f)
  | .rng lo hi=>∃ t u v,h.get? a=some { cls:=.type "range",data:=.fields #[.int lo t,.int hi u,.int 1 v] }
  | .frz o u=>h.get? a=some o∧ObjOk H h a u
  | .tbl ps=>h.get? a=some { cls:=.none,data:=.fields ps }
  | .met f x=>h.get? a=some (PySem.W.methodObj (.ref f) (.ref x))
  | .ext φ=>φ h∧(∃ o,h.get? a=some o)∧∀ h1 h2:Heap,φ h1→(∀ o,h1.get? a=some o→h2.get? a=some o)→φ h2
def HOk (H:Hp) (h:Heap):Prop:=∀ a o,H a=some o→ObjOk P w H h a o
end

section
variable {P:Program} {w:World} {H H':Hp} {h h':Heap} {a:Addr} {o:HO}
theorem ObjOk.lt (x:ObjOk P w H h a o):a < h.objs.size:=by
  cases o with
  | lst xs=>obtain⟨_,_,_,_,e⟩:=x;exact Heap.lt_size e
  | tup xs=>obtain⟨_,_,_,p⟩:=x;exact p.lt
  | dK kvs=>obtain⟨_,_,_,_,o,_,_,e,_⟩:=x;exact Heap.lt_size e
  | dT kvs=>obtain⟨_,_,_,_,o,_,_,e,_⟩:=x;exact Heap.lt_size e
  | set S n=>obtain⟨o,_,_,_,e,_⟩:=x;exact Heap.lt_size e
  | ins C dx fs=>obtain⟨_,_,_,e,_⟩:=x;exact Heap.lt_size e
  | own y=>obtain⟨_,e⟩:=x;exact Heap.lt_size e
  | xd fs=>obtain⟨_,⟨_,_,_,e,_⟩,_⟩:=x;exact Heap.lt_size e
  | rng lo hi=>obtain⟨_,_,_,e⟩:=x;exact Heap.lt_size e
  | frz ob u=>obtain⟨e,_⟩:=x;exact Heap.lt_size e
  | tbl ps=>exact Heap.lt_size (show h.get? a=some _ from x)
  | met f y=>exact Heap.lt_size (show h.get? a=some _ from x)
  | ext φ=>obtain⟨_,⟨_,e⟩,_⟩:=x;exact Heap.lt_size e
theorem Paired.mapP {α β:Type} {F G:α→β→Prop}:∀ {l₁:List α} {l₂:List β},Paired F l₁ l₂→(∀ a b,F a b→G a b)→Paired G l₁ l₂
  | _,_,.nil,_=>.nil
  | _,_,.cons r t,f=>.cons (f _ _ r) (Paired.mapP t f)
theorem ObjOk.stay (x:ObjOk P w H h a o) (k:∀ b u,(b=a∨H b=some (.own a))→h.get? b=some u→h'.get? b=some u)
    (ho:∀ b,H b=some (.own a)→H' b=some (.own a)) (ht:∀ b xs,H b=some (.tup xs)→H' b=some (.tup xs)):ObjOk P w H' h' a o:=by
  induction o with
  | lst xs=>obtain⟨z,its,n,r,e⟩:=x;exact⟨z,its,n,r,k _ _ (.inl rfl) e⟩
  | tup xs=>obtain⟨z,its,r,ob,e,c⟩:=x;exact⟨z,its,r,ob,k _ _ (.inl rfl) e,c⟩
  | dK kvs=>obtain⟨z,y,vs,r,ob,es,ep,e,c⟩:=x;exact⟨z,y,vs,r,ob,es,ep,k _ _ (.inl rfl) e,c⟩
  | dT kvs =>
    obtain⟨z,y,xs,r,ob,es,ep,e,c⟩:=x
    exact⟨z,y,xs,Paired.mapP r fun p q z=>⟨z.1,ht _ _ z.2.1,z.2.2⟩,ob,es,ep,k _ _ (.inl rfl) e,c⟩
  | set S n=>obtain⟨ob,es,ep,t,e,c⟩:=x;exact⟨ob,es,ep,t,k _ _ (.inl rfl) e,c⟩
  | ins C dx fs =>
    obtain⟨d,z,ne,e,mA,⟨od,es,ep,e2,c⟩,r⟩:=x
    exact⟨ho _ d,z,ne,k _ _ (.inl rfl) e,mA,⟨od,es,ep,k _ _ (.inr d) e2,c⟩,r⟩
  | own y=>obtain⟨ob,e⟩:=x;exact⟨ob,k _ _ (.inl rfl) e⟩
  | xd fs=>obtain⟨mA,⟨od,es,ep,e,c⟩,r⟩:=x;exact⟨mA,⟨od,es,ep,k _ _ (.inl rfl) e,c⟩,r⟩
  | rng lo hi=>obtain⟨t,u,v,e⟩:=x;exact⟨t,u,v,k _ _ (.inl rfl) e⟩
  | frz ob u ih=>obtain⟨e,q⟩:=x;exact⟨k _ _ (.inl rfl) e,ih q⟩
  | tbl ps =>
    have e:h.get? a=some { cls:=.none,data:=.fields ps }:=x
    show h'.get? a=some { cls:=.none,data:=.fields ps }
    exact k a _ (.inl rfl) e
  | met f y =>
    have e:h.get? a=some (PySem.W.methodObj (.ref f) (.ref y)):=x
    show h'.get? a=some (PySem.W.methodObj (.ref f) (.ref y))
    exact k a _ (.inl rfl) e
  | ext φ=>obtain⟨p,⟨o,e⟩,st⟩:=x;exact⟨st _ _ p fun o q=>k _ _ (.inl rfl) q,⟨o,k _ _ (.inl rfl) e⟩,st⟩
theorem HOk.lt (x:HOk P w H h) (e:H a=some o):a < h.objs.size:=(x a o e).lt
theorem HOk.fresh (x:HOk P w H h) (e:h.objs.size≤a):H a=none:=by
  cases q:H a with
  | none=>rfl
  | some u=>exact absurd (Nat.lt_of_lt_of_le (x.lt q) e) (Nat.lt_irrefl _)
theorem HOk.kept (x:HOk P w H h) (k:∀ b u,h.get? b=some u→h'.get? b=some u):HOk P w H h':=fun a o e =>
  (x a o e).stay (fun b u _ q=>k b u q) (fun _ q=>q) fun _ _ q=>q
theorem HOk.laid (x:HOk P w H h) (k:∀ b u,h.get? b=some u→h'.get? b=some u) (hp:h.objs.size≤a) (new:ObjOk P w (upd H a o) h' a o):HOk P w (upd H a o) h':=fun b u e=>by
  have hn:=x.fresh hp
  by_cases hb:b=a
  · subst hb;rw[upd_same] at e;cases e;exact new
  · rw[upd_ne hb] at e
    exact (x b u e).stay (fun c v _ q=>k c v q) (fun c q=>by rw[upd_ne (ne_of_none q hn)];exact q) fun c xs q=>by rw[upd_ne (ne_of_none q hn)];exact q
end

def Rd (H:Hp) (a:Addr) (u:HO):Prop:=H a=some u∨∃ o,H a=some (.frz o u)
theorem Rd.ok {P:Program} {w:World} {H:Hp} {h:Heap} {a:Addr} {u:HO} (r:Rd H a u) (x:HOk P w H h):ObjOk P w H h a u:=by
  rcases r with r | ⟨o,r⟩
  · exact x a u r
  · obtain⟨_,q⟩:=x a _ r
    exact q
def Mut:Option HO→Prop
  | some (.lst _)=>True
  | some (.dK _)=>True
  | some (.dT _)=>True
  | some (.set _ _)=>True
  | some (.ins _ _ _)=>True
  | some (.ext _)=>True
  | _=>False
section
variable {P:Program} {w:World} {H:Hp} {h h':Heap} {x e:Addr} {o':HO}
theorem HOk.write (ok:HOk P w H h) (mu:Mut (H x)) (he:e=x∨H e=some (.own x)) (k:∀ b u,b≠e→h.get? b=some u→h'.get? b=some u) (heo:∃ u,h'.get? e=some u)
    (new:ObjOk P w (upd H x o') h' x o'):HOk P w (upd H x o') h':=fun b u q=>by
  have nown:∀ c y,H c=some (.own y)→c≠x:=fun c y r z=>by subst z;rw[r] at mu;exact mu
  have ntup:∀ c xs,H c=some (.tup xs)→c≠x:=fun c xs r z=>by subst z;rw[r] at mu;exact mu
  by_cases hb:b=x
  · subst hb;rw[upd_same] at q;cases q;exact new
  · rw[upd_ne hb] at q
    by_cases hbe:b=e
    · have q':H b=some (.own x):=by
        rcases he with z | z
        · exact absurd (hbe.trans z) hb
        · rw[hbe];exact z
      rw[q] at q';cases q'
      obtain⟨v,hv⟩:=heo
      exact⟨v,by rw[hbe];exact hv⟩
    · refine (ok b u q).stay (fun c v hc r=>k c v ?_ r) (fun c r=>by rw[upd_ne (nown c b r)];exact r) fun c xs r=>by rw[upd_ne (ntup c xs r)];exact r
      rcases hc with rfl | hc
      · exact hbe
      · rintro rfl
        rcases he with z | z
        · exact nown c b hc z
        · rw[hc] at z;cases z;exact hb rfl
end

structure Un (fs ex:List Addr) (H H':Hp) (h h':Heap):Prop where
  keep:∀ b o,h.get? b=some o→H b=none→b∉fs→b∉ex→h'.get? b=some o
  slot:∀ b o,h.get? b=some o→H b=none→b∈fs→b∉ex→∃ sl,h'.get? b=some { o with slots:=sl }
  free:∀ b o,h.get? b=some o→H b=none→b∉ex→H' b=none
  there:∀ b o,h.get? b=some o→b∉ex→∃ o',h'.get? b=some o'
  tups:∀ b xs,H b=some (.tup xs)→H' b=some (.tup xs)
  frzs:∀ b o u,H b=some (.frz o u)→H' b=some (.frz o u)
  tbls:∀ b ps,H b=some (.tbl ps)→∃ more,H' b=some (.tbl (ps++more))
section
variable {fs fs' ex ex':List Addr} {H H1 H2:Hp} {h h1 h2 h':Heap} {a x e:Addr} {o:HO}
theorem Un.any (u:Un fs ex H H1 h h1) {b:Addr} {ob:Obj} (q:h.get? b=some ob) (n:H b=none) (hx:b∉ex):∃ sl,h1.get? b=some { ob with slots:=sl }:=by
  by_cases hb:b∈fs
  · exact u.slot b ob q n hb hx
  · exact⟨ob.slots,u.keep b ob q n hb hx⟩
theorem Un.kept (k:∀ b u,h.get? b=some u→h'.get? b=some u):Un fs ex H H h h' :=
  ⟨fun b ob q _ _ _=>k b ob q,fun b ob q _ _ _=>⟨ob.slots,k b ob q⟩,fun _ _ _ n _=>n,fun b ob q _=>⟨ob,k b ob q⟩,fun _ _ q=>q,fun _ _ _ q=>q,fun _ ps q=>⟨#[],by rw[q];simp⟩⟩
theorem Un.refl:Un fs ex H H h h:=Un.kept fun _ _ q=>q
theorem Un.laid (k:∀ b u,h.get? b=some u→h'.get? b=some u) (hp:h.objs.size≤a) (hn:H a=none):Un fs ex H (upd H a o) h h' where
  keep:=fun b u q _ _ _=>k b u q
  slot:=fun b u q _ _ _=>⟨u.slots,k b u q⟩
  free:=fun b u q n _=>by rw[upd_ne (Nat.ne_of_lt (Nat.lt_of_lt_of_le (Heap.lt_size q) hp))];exact n
  there:=fun b u q _=>⟨u,k b u q⟩
  tups:=fun b xs q=>by rw[upd_ne (ne_of_none q hn)];exact q
  frzs:=fun b u xs q=>by rw[upd_ne (ne_of_none q hn)];exact q
  tbls:=fun b ps q=>⟨#[],by rw[upd_ne (ne_of_none q hn),q];simp⟩
theorem Un.write (mu:Mut (H x)) (he:e=x∨H e=some (.own x)) (k:∀ b u,b≠e→h.get? b=some u→h'.get? b=some u) (heo:∃ u,h'.get? e=some u):Un fs ex H (upd H x o) h h':=by
  have hx:∀ b,H b=none→b≠x:=fun b n z=>by subst z;rw[n] at mu;exact mu
  have hb:∀ b,H b=none→b≠e:=fun b n z=>by
    subst z
    rcases he with r | r
    · exact hx b n r
    · rw[n] at r;cases r
  have hm:∀ b u,H b=some u→¬ Mut (some u)→b≠x:=fun b u q nm z=>by subst z;rw[q] at mu;exact nm mu
  refine⟨fun b u q n _ _=>k b u (hb b n) q,fun b u q n _ _=>⟨u.slots,k b u (hb b n) q⟩,fun b u q n _=>by rw[upd_ne (hx b n)];exact n,fun b u q _=>?_,
    fun b xs q=>by rw[upd_ne (hm b _ q fun z=>z)];exact q,fun b u xs q=>by rw[upd_ne (hm b _ q fun z=>z)];exact q,fun b ps q=>⟨#[],by rw[upd_ne (hm b _ q fun z=>z),q];simp⟩⟩
  by_cases hbe:b=e
  · subst hbe;exact heo
  · exact⟨u,k b u hbe q⟩
end

def trk (h:Heap) (H:Hp):List Addr:=(List.range h.objs.size).filter fun a=>(H a).isSome
def hidT (h:Heap) (H:Hp):Heap:=PySem.W.hideAll h (trk h H)
theorem hidT_size (h:Heap) (H:Hp):(hidT h H).objs.size=h.objs.size:=PySem.W.hideAll_size _ _
theorem hidT_get {h:Heap} {H:Hp} {b:Addr} {o:Obj} (e:h.get? b=some o) (n:H b=none):(hidT h H).get? b=some o :=
  PySem.W.hideAll_get _ e fun hm=>by
    have q:(H b).isSome=true:=(List.mem_filter.mp hm).2
    rw[n] at q;simp at q
theorem of_hidT {h:Heap} {H:Hp} {b:Addr} {o:Obj} (e:(hidT h H).get? b=some o):h.get? b=some o∧H b=none:=by
  have e':h.get? b=some o:=PySem.W.of_hideAll (trk h H) e
  refine⟨e',?_⟩
  cases q:H b with
  | none=>rfl
  | some x =>
    have hm:b∈trk h H:=List.mem_filter.mpr ⟨List.mem_range.mpr (Heap.lt_size e'),by simp[q]⟩
    have z:(hidT h H).get? b=none:=PySem.W.hideAll_none (trk h H) hm
    rw[z] at e;cases e

end L2

namespace L2
open PySem PySem.Spec PyProof.Rows

structure Mod (K:PySem.W.Frag) (mg:Str→Option Value) (base:Heap):Prop where
  kin:K.In base
  glob:base.Ns mainGlobals mg
  blt:∃ mb,base.Ns builtinsNs mb∧∀ x:Str,x≠"__name__"→mb x=bootBuiltins x
  nolimit:base.NoLimit

structure Cx where
  prog:Program
  w:World
  K:PySem.W.Frag
  mg:Str→Option Value
  base:Heap
  A:Around
  N:List Str
  s_0:Shared
  H_0:Hp
  env:Env
  outer:List Env
  stack:List Env
  ex:List Addr
  fn:Str→Bool
  calm:Bool
  pn:List (Addr×Obj)
  xe:Value→Shared→Prop
def frs (l:List Env):List Addr:=l.filterMap (·.frame)
abbrev Cx.fs (X:Cx):List Addr:=frs X.outer

def Vis (sc:Scope) (x:Str):Prop:=sc.names.lookup x=some .local∨sc.names.lookup x=some .cell∨sc.names.lookup x=some .free
def Loc (sc:Scope) (x:Str):Prop:=sc.names.lookup x=some .local∨sc.names.lookup x=some .cell
def Look (env:Env) (h:Heap) (m:Str→Option Value) (x:Str) (u:Value):Prop :=
  (env.kindOf x=some .local∧m x=some u)∨((env.kindOf x=some .cell∨env.kindOf x=some .free)∧∃ c,env.cells.lookup x=some c∧h.IsCell c (some u))

structure Cx.Ok (X:Cx):Prop where
  mod:Mod X.K X.mg X.base
  kind:X.env.scope.kind=.function
  glob:X.env.globals=mainGlobals
  blt:X.env.builtins=builtinsNs
  above:X.s_0.heap.objs.size≤X.env.locals
  inj:∀ x y c,X.env.cells.lookup x=some c→X.env.cells.lookup y=some c→x=y
  has:∀ x,(X.env.kindOf x=some .cell∨X.env.kindOf x=some .free)→∃ c,X.env.cells.lookup x=some c
  cab:∀ x c,X.fn x=true→X.env.cells.lookup x=some c→X.s_0.heap.objs.size≤c
  hd:X.calm=true→X.A.handled=none
  frames:X.A.frames=some X.stack
  stk:X.stack=X.outer∨(X.stack=X.env :: X.outer∧X.env.frame=some X.env.locals)
  exf:∀ b∈X.ex,b≠X.env.locals∧∀ x c,X.env.cells.lookup x=some c→c≠b
  bs:∀ b o,X.base.get? b=some o→X.s_0.heap.get? b=some o∧X.H_0 b=none
  bsz:X.base.objs.size≤X.s_0.heap.objs.size
  noex:∀ b o,X.base.get? b=some o→b∉X.ex
  exfs:∀ b∈X.ex,b∉X.fs
  funs:X.s_0.heap.FunFrames X.base X.outer
  frf:∀ b∈X.fs,X.H_0 b=none

structure Inv (X:Cx) (pins:List (Addr×Obj)) (σ:List (Option V)) (H:Hp) (s:Shared):Prop where
  ok:X.Ok
  os:s.os=X.s_0.os
  bare:AllBare s.gens
  base:Un X.fs X.ex X.H_0 H X.s_0.heap s.heap
  loc:∃ m,s.heap.Ns X.env.locals m∧∀ (i:Nat) (x:Str) (v:V),X.N[i]?=some x→σ[i]?=some (some v)→Vis X.env.scope x→∃ u,RelV v u∧Look X.env s.heap m x u
  cell:∀ x c,X.env.cells.lookup x=some c→∃ v,s.heap.IsCell c v
  free:H X.env.locals=none
  freeC:∀ x c,X.env.cells.lookup x=some c→H c=none
  pin:∀ p∈X.pn++pins,s.heap.get? p.1=some p.2∧H p.1=none∧p.1≠X.env.locals∧p.1∉X.fs∧∀ v,p.2.data≠.cell v
  hok:HOk X.prog X.w H s.heap
  len:σ.length=X.N.length

section
variable {X:Cx} {pins:List (Addr×Obj)} {σ:List (Option V)} {H H':Hp} {s:Shared} {h':Heap}

theorem Cx.Ok.nofr (ok:X.Ok) {b:Addr} {o:Obj} (e:X.base.get? b=some o):b∉X.fs:=fun hb=>by
  have:=(ok.funs.mem hb).1
  rw[e] at this;cases this
theorem Inv.bs (I:Inv X pins σ H s):∀ b o,X.base.get? b=some o→s.heap.get? b=some o∧H b=none:=fun b o e =>
  ⟨I.base.keep b o (I.ok.bs b o e).1 (I.ok.bs b o e).2 (I.ok.nofr e) (I.ok.noex b o e),I.base.free b o (I.ok.bs b o e).1 (I.ok.bs b o e).2 (I.ok.noex b o e)⟩
theorem Inv.bk (I:Inv X pins σ H s):∀ b o,X.base.get? b=some o→s.heap.get? b=some o:=fun b o e=>(I.bs b o e).1
theorem Inv.mod (I:Inv X pins σ H s):Mod X.K X.mg X.base:=I.ok.mod
theorem Inv.kIn (I:Inv X pins σ H s):X.K.In s.heap:=I.ok.mod.kin.keeps I.bk
theorem Inv.nolimit (I:Inv X pins σ H s):s.heap.NoLimit:=I.ok.mod.nolimit.keeps I.bk
theorem Inv.lt (I:Inv X pins σ H s):X.env.locals < s.heap.objs.size:=let ⟨_,hn,_⟩:=I.loc;hn.lt
theorem Inv.sz (I:Inv X pins σ H s):X.s_0.heap.objs.size≤s.heap.objs.size:=Nat.le_trans I.ok.above (Nat.le_of_lt I.lt)
theorem Inv.nofs (I:Inv X pins σ H s) {a:Addr} (h:s.heap.objs.size≤a):a∉X.fs:=fun hb=>by
  obtain⟨_,o,ho,_⟩:=I.ok.funs.mem hb
  exact absurd (Nat.lt_of_lt_of_le (Heap.lt_size ho) (Nat.le_trans I.sz h)) (Nat.lt_irrefl _)
theorem Inv.cne (I:Inv X pins σ H s):∀ x c,X.env.cells.lookup x=some c→c≠X.env.locals:=fun x c e z=>by
  obtain⟨v,o,ho,hd⟩:=I.cell x c e
  obtain⟨m,⟨o',es,ep,ho',hd',_⟩,_⟩:=I.loc
  rw[z,ho'] at ho;cases ho;rw[hd'] at hd;cases hd
theorem Inv.funs (I:Inv X pins σ H s):s.heap.FunFrames X.base X.outer:=by
  have all:∀ (l:List Env),(∀ b∈frs l,b∈X.fs)→X.s_0.heap.FunFrames X.base l→s.heap.FunFrames X.base l:=by
    intro l
    induction l with
    | nil=>intro _ _;trivial
    | cons env r ih =>
      intro hs hl
      obtain⟨hk,⟨L,o,hf,hn,ho,hd⟩,hr⟩:=hl
      have hL:L∈X.fs:=hs L (by unfold frs;rw[List.filterMap_cons,hf];exact List.mem_cons_self)
      obtain⟨sl,e⟩:=I.base.slot L o ho (I.ok.frf L hL) hL fun z=>I.ok.exfs L z hL
      exact⟨hk,⟨L,_,hf,hn,e,hd⟩,ih (fun b hb=>hs b (by unfold frs;rw[List.filterMap_cons,hf];exact List.mem_cons_of_mem _ hb)) hr⟩
  exact all X.outer (fun _ hb=>hb) I.ok.funs

theorem Inv.stack (I:Inv X pins σ H s):s.heap.FunFrames X.base X.stack:=by
  rcases I.ok.stk with e | ⟨e,hf⟩
  · rw[e];exact I.funs
  · rw[e]
    obtain⟨m,hn,_⟩:=I.loc
    refine .cons (by rw[I.ok.kind];decide) hf hn ?_ I.funs
    exact Heap.get?_none_of_le (Nat.le_trans I.ok.bsz I.ok.above)
theorem Inv.stkSub (I:Inv X pins σ H s):∀ b∈frs X.stack,b∈X.env.locals :: X.fs:=fun b hb=>by
  rcases I.ok.stk with e | ⟨e,hf⟩
  · rw[e] at hb;exact List.mem_cons_of_mem _ hb
  · rw[e] at hb
    unfold frs at hb
    rw[List.filterMap_cons,hf] at hb
    exact hb
theorem Inv.stkFree (I:Inv X pins σ H s):∀ b∈frs X.stack,H b=none:=fun b hb=>by
  rcases List.mem_cons.mp (I.stkSub b hb) with e | hb
  · rw[e];exact I.free
  · obtain⟨_,o,ho,_⟩:=I.ok.funs.mem hb
    exact I.base.free b o ho (I.ok.frf b hb) fun z=>I.ok.exfs b z hb

theorem Inv.step {g':Array GenState} {t':Nat} {d':Drawn} {ch:List Addr} (I:Inv X pins σ H s)
    (hch:∀ b∈ch,(b∈X.ex∨X.s_0.heap.objs.size≤b)∧b≠X.env.locals∧(∀ x c,X.env.cells.lookup x=some c→c≠b)∧∀ p∈X.pn++pins,p.1≠b)
    (keep:∀ b o,b≠X.env.locals→b∉X.fs→b∉ch→s.heap.get? b=some o→H b=none→h'.get? b=some o)
    (slot:∀ b o,b≠X.env.locals→b∈X.fs→b∉ch→s.heap.get? b=some o→H b=none→∃ sl,h'.get? b=some { o with slots:=sl }) (free:∀ b o,b∉ch→s.heap.get? b=some o→H b=none→H' b=none)
    (there:∀ b o,b∉ch→s.heap.get? b=some o→∃ o',h'.get? b=some o')
    (tups:∀ b xs,H b=some (.tup xs)→H' b=some (.tup xs)) (frzs:∀ b o u,H b=some (.frz o u)→H' b=some (.frz o u)) (tbls:∀ b ps,H b=some (.tbl ps)→∃ more,H' b=some (.tbl (ps++more)))
    (ns:∀ m,s.heap.Ns X.env.locals m→h'.Ns X.env.locals m) (hok:HOk X.prog X.w H' h') (hg:AllBare g') :
    Inv X pins σ H' { s with heap:=h',gens:=g',drawn:=d',toks:=t' }:=by
  have neL:∀ b o,X.s_0.heap.get? b=some o→b≠X.env.locals:=fun b o e=>Nat.ne_of_lt (Nat.lt_of_lt_of_le (Heap.lt_size e) I.ok.above)
  have neC:∀ b o,X.s_0.heap.get? b=some o→b∉X.ex→b∉ch:=fun b o e hx hb=>by
    rcases (hch b hb).1 with z | z
    · exact hx z
    · exact absurd (Nat.lt_of_lt_of_le (Heap.lt_size e) z) (Nat.lt_irrefl _)
  have cellK:∀ x c,X.env.cells.lookup x=some c→∀ v,s.heap.IsCell c v→h'.IsCell c v:=fun x c e v ⟨o,ho,hd⟩=>by
    have nch:c∉ch:=fun z=>(hch c z).2.2.1 x c e rfl
    by_cases hc:c∈X.fs
    · obtain⟨sl,q⟩:=slot c o (I.cne x c e) hc nch ho (I.freeC x c e)
      exact⟨_,q,hd⟩
    · exact⟨o,keep c o (I.cne x c e) hc nch ho (I.freeC x c e),hd⟩
  refine⟨I.ok,I.os,hg,⟨fun b o e n hb hx=>?_,fun b o e n hb hx=>?_,fun b o e n hx=>?_,fun b o e hx=>?_,fun b xs e=>tups b xs (I.base.tups b xs e),fun b o xs e=>frzs b o xs (I.base.frzs b o xs e),fun b ps e=>?_⟩,?_,fun x c e=>?_,?_,fun x c e=>?_,fun p hp=>?_,hok,I.len⟩
  · exact keep b o (neL b o e) hb (neC b o e hx) (I.base.keep b o e n hb hx) (I.base.free b o e n hx)
  · obtain⟨sl,e1⟩:=I.base.slot b o e n hb hx
    obtain⟨sl',e2⟩:=slot b _ (neL b o e) hb (neC b o e hx) e1 (I.base.free b o e n hx)
    exact⟨sl',e2⟩
  · obtain⟨o',e1⟩:=I.base.there b o e hx
    exact free b o' (neC b o e hx) e1 (I.base.free b o e n hx)
  · obtain⟨o',e1⟩:=I.base.there b o e hx
    exact there b o' (neC b o e hx) e1
  · obtain⟨m1,e1⟩:=I.base.tbls b ps e
    obtain⟨m2,e2⟩:=tbls b _ e1
    exact⟨m1++m2,by rw[e2,Array.append_assoc]⟩
  · obtain⟨m,hn,hl⟩:=I.loc
    refine⟨m,ns m hn,fun i x v e1 e2 e3=>?_⟩
    obtain⟨u,r,l⟩:=hl i x v e1 e2 e3
    refine⟨u,r,?_⟩
    rcases l with l | ⟨k,c,e,z⟩
    · exact .inl l
    · exact .inr ⟨k,c,e,cellK x c e _ z⟩
  · obtain⟨v,z⟩:=I.cell x c e
    exact⟨v,cellK x c e v z⟩
  · obtain⟨m,⟨o,_,_,ho,_⟩,_⟩:=I.loc
    exact free _ o (fun z=>(hch _ z).2.1 rfl) ho I.free
  · obtain⟨v,o,ho,hd⟩:=I.cell x c e
    exact free c o (fun z=>(hch c z).2.2.1 x c e rfl) ho (I.freeC x c e)
  · obtain⟨e,n,ne,nf,d⟩:=I.pin p hp
    have nch:p.1∉ch:=fun z=>(hch p.1 z).2.2.2 p hp rfl
    exact⟨keep p.1 p.2 ne nf nch e n,free p.1 p.2 nch e n,ne,nf,d⟩
theorem Inv.un {t':Nat} (I:Inv X pins σ H s) (u:Un X.fs [] H H' s.heap h') (hok:HOk X.prog X.w H' h'):Inv X pins σ H' { s with heap:=h',toks:=t' }:=by
  obtain⟨m,⟨o,es,ep,ho,r⟩,_⟩:=id I.loc
  obtain⟨sl,hL⟩:=u.any ho I.free (by simp)
  exact I.step (g':=s.gens) (d':=s.drawn) (ch:=[]) (fun _ z=>nomatch z) (fun b o _ hb _ e n=>u.keep b o e n hb (by simp)) (fun b o _ hb _ e n=>u.slot b o e n hb (by simp)) (fun b o _ e n=>u.free b o e n (by simp)) (fun b o _ e=>u.there b o e (by simp)) u.tups u.frzs u.tbls (fun m' hm=>by
    obtain⟨o',es',ep',ho',r'⟩:=hm
    rw[ho] at ho';cases ho'
    exact⟨_,es',ep',hL,r'⟩) hok I.bare
theorem Inv.call {g':Array GenState} {t':Nat} {d':Drawn} {ch:List Addr} (I:Inv X pins σ H s) (u:Un (frs X.stack) ch H H' s.heap h') (hok:HOk X.prog X.w H' h') (hg:AllBare g')
    (hch:∀ b∈ch,(b∈X.ex∨X.s_0.heap.objs.size≤b)∧b≠X.env.locals∧(∀ x c,X.env.cells.lookup x=some c→c≠b)∧∀ p∈X.pn++pins,p.1≠b) :
    Inv X pins σ H' { s with heap:=h',gens:=g',drawn:=d',toks:=t' }:=by
  obtain⟨m,⟨o,es,ep,ho,r⟩,_⟩:=id I.loc
  obtain⟨sl,hL⟩:=u.any ho I.free fun z=>(hch _ z).2.1 rfl
  exact I.step (ch:=ch) hch (fun b o hL hb hc e n=>u.keep b o e n (fun z=>(List.mem_cons.mp (I.stkSub b z)).elim hL hb) hc) (fun b o _ _ hc e n=>u.any e n hc) (fun b o hc e n=>u.free b o e n hc) (fun b o hc e=>u.there b o e hc) u.tups u.frzs u.tbls (fun m' hm=>by
    obtain⟨o',es',ep',ho',r'⟩:=hm
    rw[ho] at ho';cases ho'
    exact⟨_,es',ep',hL,r'⟩) hok hg
theorem Inv.turned {t':Nat} {it:Addr} (I:Inv X pins σ H s) (k:∀ b o,b≠it→s.heap.get? b=some o→h'.get? b=some o) (hn:H it=none) (hL:it≠X.env.locals)
    (h1:it∈X.ex∨X.s_0.heap.objs.size≤it) (h2:∀ x c,X.env.cells.lookup x=some c→c≠it) (h3:∀ p∈X.pn++pins,p.1≠it):Inv X pins σ H { s with heap:=h',toks:=t' }:=by
  have nit:∀ b u,H b=some u→b≠it:=fun b u e z=>by rw[z,hn] at e;cases e
  refine I.step (g':=s.gens) (d':=s.drawn) (ch:=[it]) (fun b hb=>?_) (fun b o _ _ hc e _=>k b o (fun z=>hc (by simp[z])) e) (fun b o _ _ hc e _=>⟨o.slots,k b o (fun z=>hc (by simp[z])) e⟩) (fun _ _ _ _ n=>n)
    (fun b o hc e=>⟨o,k b o (fun z=>hc (by simp[z])) e⟩) (fun _ _ e=>e) (fun _ _ _ e=>e) (fun b ps e=>⟨#[],by rw[e];simp⟩) (fun m hm=>?_) (fun b u e=>?_) I.bare
  · have e:b=it:=by simpa using hb
    subst e
    exact⟨h1,hL,h2,h3⟩
  · obtain⟨o,es,ep,ho,r⟩:=hm
    exact⟨o,es,ep,k _ o (Ne.symm hL) ho,r⟩
  · refine (I.hok b u e).stay (fun c v hc q=>k c v ?_ q) (fun _ q=>q) fun _ _ q=>q
    rcases hc with z | z
    · rw[z];exact nit b u e
    · exact nit c _ z
theorem Inv.tok (I:Inv X pins σ H s) (t:Nat):Inv X pins σ H { s with toks:=t }:=I.un (h':=s.heap) (t':=t) Un.refl I.hok
theorem Inv.kept {t':Nat} (I:Inv X pins σ H s) (k:∀ b u,s.heap.get? b=some u→h'.get? b=some u):Inv X pins σ H { s with heap:=h',toks:=t' }:=I.un (Un.kept k) (I.hok.kept k)
theorem Inv.laid {a:Addr} {o:HO} {t':Nat} (I:Inv X pins σ H s) (k:∀ b u,s.heap.get? b=some u→h'.get? b=some u) (hp:s.heap.objs.size≤a) (new:ObjOk X.prog X.w (upd H a o) h' a o) :
    Inv X pins σ (upd H a o) { s with heap:=h',toks:=t' }:=I.un (Un.laid k hp (I.hok.fresh hp)) (I.hok.laid k hp new)
theorem Inv.write {x e:Addr} {o:HO} {t':Nat} (I:Inv X pins σ H s) (mu:Mut (H x)) (he:e=x∨H e=some (.own x)) (k:∀ b u,b≠e→s.heap.get? b=some u→h'.get? b=some u) (heo:∃ u,h'.get? e=some u)
    (new:ObjOk X.prog X.w (upd H x o) h' x o):Inv X pins σ (upd H x o) { s with heap:=h',toks:=t' }:=I.un (Un.write mu he k heo) (I.hok.write mu he k heo new)
theorem Inv.weak {σ':List (Option V)} (I:Inv X pins σ H s) (hl:σ'.length=σ.length) (w:∀ (i:Nat) v,σ'[i]?=some (some v)→σ[i]?=some (some v)):Inv X pins σ' H s :=
  ⟨I.ok,I.os,I.bare,I.base,let ⟨m,hn,hl'⟩:=I.loc;⟨m,hn,fun i x v e1 e2 e3=>hl' i x v e1 (w i v e2) e3⟩,I.cell,I.free,I.freeC,I.pin,I.hok,hl.trans I.len⟩
theorem Inv.pins_of {pins':List (Addr×Obj)} (I:Inv X pins σ H s) (h:∀ p∈pins',s.heap.get? p.1=some p.2∧H p.1=none∧p.1≠X.env.locals∧p.1∉X.fs∧∀ v,p.2.data≠.cell v):Inv X pins' σ H s :=
  ⟨I.ok,I.os,I.bare,I.base,I.loc,I.cell,I.free,I.freeC,fun p hp=>(List.mem_append.mp hp).elim (fun z=>I.pin p (List.mem_append_left _ z)) (h p),I.hok,I.len⟩

theorem nodup_ix {N:List Str} (hN:N.Nodup) {i j:Nat} {x:Str} (a:N[i]?=some x) (b:N[j]?=some x):i=j:=by
  obtain⟨h1,e1⟩:=List.getElem?_eq_some_iff.mp a
  obtain⟨h2,e2⟩:=List.getElem?_eq_some_iff.mp b
  exact (List.getElem_inj hN).mp (e1.trans e2.symm)

theorem store_ok2 {M:Model} {A:Around} {E:Value→Shared→Prop} {i:Nat} {x:Str} {v:V} {u:Value} {Q:Unit→Shared→Prop} (I:Inv X pins σ H s) (hN:X.N.Nodup) (hi:X.N[i]?=some x) (hx:Loc X.env.scope x) (r:RelV v u)
    (h:∀ s',Inv X pins (σ.set i (some v)) H s'→(∃ a,Heap.SameBut a s.heap s'.heap∧(a=X.env.locals∨X.env.cells.lookup x=some a))→Q () s') (hf:X.fn x=true∨X.env.scope.names.lookup x=some .local:=by first | exact .inl rfl | exact .inr rfl | assumption):wpAny M A (storeName X.env x u) Q E s:=by
  obtain⟨m,hn,hl⟩:=id I.loc
  have hcls:(X.env.scope.kind == .class || (X.env.scope.kind == .module && X.env.locals != X.env.globals))=false:=by rw[I.ok.kind];rfl
  have hiσ:i < σ.length:=by rw[I.len];exact (List.getElem?_eq_some_iff.mp hi).1
  have cne:=I.cne
  have tracked:∀ {a:Addr} {h':Heap},(∃ o,s.heap.get? a=some o∧H a=none)→Heap.SameBut a s.heap h'→HOk X.prog X.w H h':=fun {a h'} ha hs b ob e=>by
    obtain⟨_,_,hfree⟩:=ha
    refine (I.hok b ob e).stay (fun c w' hc q=>(hs.2 c ?_).trans q) (fun _ q=>q) fun _ _ q=>q
    rintro rfl
    rcases hc with rfl | hc
    · rw[hfree] at e;cases e
    · rw[hfree] at hc;cases hc
  rcases hx with hk | hk
  · refine wpAny_storeName_local hk hn (fun h' hn' hs=>?_) hcls
    obtain⟨oL,_,_,hoL,_⟩:=id hn
    refine h _ ⟨I.ok,I.os,I.bare,⟨fun b o e n hb hx=>?_,fun b o e n hb hx=>?_,I.base.free,fun b o e hx=>?_,I.base.tups,I.base.frzs,I.base.tbls⟩,⟨_,hn',fun j y v' e1 e2 e3=>?_⟩,fun y c e=>?_,I.free,I.freeC,fun p hp=>?_,tracked ⟨oL,hoL,I.free⟩ hs,by simpa using I.len⟩ ⟨_,hs,.inl rfl⟩
    · exact (hs.2 b (Nat.ne_of_lt (Nat.lt_of_lt_of_le (Heap.lt_size e) I.ok.above))).trans (I.base.keep b o e n hb hx)
    · obtain⟨sl,e1⟩:=I.base.slot b o e n hb hx
      exact⟨sl,(hs.2 b (Nat.ne_of_lt (Nat.lt_of_lt_of_le (Heap.lt_size e) I.ok.above))).trans e1⟩
    · obtain⟨o',e1⟩:=I.base.there b o e hx
      exact⟨o',(hs.2 b (Nat.ne_of_lt (Nat.lt_of_lt_of_le (Heap.lt_size e) I.ok.above))).trans e1⟩
    · by_cases hj:j=i
      · subst hj
        rw[hi] at e1;cases e1
        rw[List.getElem?_set_self hiσ] at e2
        cases e2
        exact⟨u,r,.inl ⟨hk,by simp⟩⟩
      · rw[List.getElem?_set_ne (Ne.symm hj)] at e2
        obtain⟨u',r',q⟩:=hl j y v' e1 e2 e3
        refine⟨u',r',?_⟩
        rcases q with ⟨k,e⟩ | ⟨k,c,e,z⟩
        · refine .inl ⟨k,?_⟩
          have : y≠x:=fun e=>hj (nodup_ix hN e1 (e ▸ hi))
          simp[this,e]
        · exact .inr ⟨k,c,e,z.sameBut hs (cne y c e)⟩
    · obtain⟨w',z⟩:=I.cell y c e
      exact⟨w',z.sameBut hs (cne y c e)⟩
    · obtain⟨e,n,ne,nf,d⟩:=I.pin p hp
      exact⟨(hs.2 p.1 ne).trans e,n,ne,nf,d⟩
  · have hfn:X.fn x=true:=by
      rcases hf with z | z
      · exact z
      · rw[z] at hk;cases hk
    obtain⟨c,hc⟩:=I.ok.has x (.inl hk)
    obtain⟨w',z⟩:=I.cell x c hc
    refine wpAny_storeName_cell I.ok.kind hk hc z (fun h' hc' hs=>?_)
    obtain⟨oc,hoc,hocd⟩:=id z
    refine h { s with heap:=h' } ⟨I.ok,I.os,I.bare,⟨fun b o e n hb hx=>?_,fun b o e n hb hx=>?_,I.base.free,fun b o e hx=>?_,I.base.tups,I.base.frzs,I.base.tbls⟩,⟨m,hn.sameBut hs (Ne.symm (cne x c hc)),fun j y v' e1 e2 e3=>?_⟩,fun y c' e=>?_,I.free,I.freeC,fun p hp=>?_,tracked ⟨oc,hoc,I.freeC x c hc⟩ hs,by simpa using I.len⟩ ⟨c,hs,.inr hc⟩
    · exact (hs.2 b (Nat.ne_of_lt (Nat.lt_of_lt_of_le (Heap.lt_size e) (I.ok.cab x c hfn hc)))).trans (I.base.keep b o e n hb hx)
    · obtain⟨sl,e1⟩:=I.base.slot b o e n hb hx
      exact⟨sl,(hs.2 b (Nat.ne_of_lt (Nat.lt_of_lt_of_le (Heap.lt_size e) (I.ok.cab x c hfn hc)))).trans e1⟩
    · obtain⟨o',e1⟩:=I.base.there b o e hx
      exact⟨o',(hs.2 b (Nat.ne_of_lt (Nat.lt_of_lt_of_le (Heap.lt_size e) (I.ok.cab x c hfn hc)))).trans e1⟩
    · by_cases hj:j=i
      · subst hj
        rw[hi] at e1;cases e1
        rw[List.getElem?_set_self hiσ] at e2
        cases e2
        exact⟨u,r,.inr ⟨.inl hk,c,hc,hc'⟩⟩
      · rw[List.getElem?_set_ne (Ne.symm hj)] at e2
        obtain⟨u',r',q⟩:=hl j y v' e1 e2 e3
        refine⟨u',r',?_⟩
        rcases q with q | ⟨k,c',e,z'⟩
        · exact .inl q
        · refine .inr ⟨k,c',e,z'.sameBut hs ?_⟩
          rintro rfl
          exact hj (nodup_ix hN e1 (I.ok.inj _ _ _ e hc ▸ hi))
    · by_cases hcc:c'=c
      · subst hcc;exact⟨_,hc'⟩
      · obtain⟨w2,z2⟩:=I.cell y c' e
        exact⟨w2,z2.sameBut hs hcc⟩
    · obtain⟨e,n,ne,nf,d⟩:=I.pin p hp
      refine⟨(hs.2 p.1 ?_).trans e,n,ne,nf,d⟩
      intro q
      rw[q,hoc] at e
      have q':oc=p.2:=Option.some.inj e
      exact d w' (by rw[← q'];exact hocd)
theorem store_ok {M:Model} {A:Around} {E:Value→Shared→Prop} {i:Nat} {x:Str} {v:V} {u:Value} {Q:Unit→Shared→Prop} (I:Inv X pins σ H s) (hN:X.N.Nodup) (hi:X.N[i]?=some x) (hx:Loc X.env.scope x) (r:RelV v u)
    (h:∀ s',Inv X pins (σ.set i (some v)) H s'→Q () s') (hf:X.fn x=true∨X.env.scope.names.lookup x=some .local:=by first | exact .inl rfl | exact .inr rfl | assumption):wpAny M A (storeName X.env x u) Q E s :=
  store_ok2 I hN hi hx r (fun s' I' _=>h s' I') hf
theorem Inv.call' {s':Shared} {ch:List Addr} (I:Inv X pins σ H s) (ho:s'.os=s.os) (u:Un (frs X.stack) ch H H' s.heap s'.heap) (hok:HOk X.prog X.w H' s'.heap) (hg:AllBare s'.gens)
    (hch:∀ b∈ch,(b∈X.ex∨X.s_0.heap.objs.size≤b)∧b≠X.env.locals∧(∀ x c,X.env.cells.lookup x=some c→c≠b)∧∀ p∈X.pn++pins,p.1≠b):Inv X pins σ H' s':=by
  obtain⟨h',g',d',t',o'⟩:=s'
  have e:o'=s.os:=ho
  subst e
  exact I.call (g':=g') (t':=t') (d':=d') u hok hg hch
end

abbrev XK:=Value→Option Addr→Hp→Prop
abbrev St:=List (Option V)
abbrev VK:=V→Hp→Prop
abbrev TE:=St→Hp→VK→Prop
abbrev TT:=St→Hp→(Bool→Hp→Prop)→Prop
abbrev TA:=St→Hp→(List V→Hp→Prop)→Prop
structure Ends where
  nx:St→Hp→Prop
  rt:VK
  bk:St→Hp→Prop:=fun _ _=>False
  ct:St→Hp→Prop:=fun _ _=>False
abbrev TS:=Ends→St→Hp→Prop

def EP (X:Cx) (pins:List (Addr×Obj)) (σ:St) (Q:VK) (u:Value) (s':Shared):Prop:=∃ v H',Inv X pins σ H' s'∧RelV v u∧Q v H'
def TP (X:Cx) (pins:List (Addr×Obj)) (σ:St) (Q:Bool→Hp→Prop) (b:Bool) (s':Shared):Prop:=∃ H',Inv X pins σ H' s'∧Q b H'
def AP (X:Cx) (pins:List (Addr×Obj)) (σ:St) (Q:List V→Hp→Prop) (us:List Value) (s':Shared):Prop:=∃ vs H',Inv X pins σ H' s'∧Vals vs us∧Q vs H'
def SP (X:Cx) (pins:List (Addr×Obj)) (D:Ends) (f:Flow) (s':Shared):Prop :=
  match f with
  | .next=>∃ σ' H',Inv X pins σ' H' s'∧D.nx σ' H'
  | .brk=>∃ σ' H',Inv X pins σ' H' s'∧D.bk σ' H'
  | .cont=>∃ σ' H',Inv X pins σ' H' s'∧D.ct σ' H'
  | .ret u=>∃ v σ' H',Inv X pins σ' H' s'∧RelV v u∧D.rt v H'

def PE (X:Cx) (e:Expr) (t:TE):Prop :=
  ∀ (pins:List (Addr×Obj)) (s:Shared) (σ:St) (H:Hp) (Q:VK),Inv X pins σ H s→t σ H Q→wpAny (model X.prog X.w) X.A (eval e X.env) (EP X pins σ Q) X.xe s
def PT (X:Cx) (e:Expr) (t:TT):Prop :=
  ∀ (pins:List (Addr×Obj)) (s:Shared) (σ:St) (H:Hp) (Q:Bool→Hp→Prop),Inv X pins σ H s→t σ H Q→wpAny (model X.prog X.w) X.A (isTrue e X.env (eval e X.env)) (TP X pins σ Q) X.xe s
def PW (X:Cx) (e:Expr) (t:TT):Prop :=
  ∀ (whole:Sem Value) (pins:List (Addr×Obj)) (s:Shared) (σ:St) (H:Hp) (Q:Bool→Hp→Prop),Inv X pins σ H s→t σ H Q→wpAny (model X.prog X.w) X.A (isTrue e X.env whole) (TP X pins σ Q) X.xe s
theorem PW.pt {X:Cx} {e:Expr} {t:TT} (h:PW X e t):PT X e t:=h _
def PA (X:Cx) (es:List Expr) (t:TA):Prop :=
  ∀ (pos:Pos) (pins:List (Addr×Obj)) (s:Shared) (σ:St) (H:Hp) (Q:List V→Hp→Prop),Inv X pins σ H s→t σ H Q→wpAny (model X.prog X.w) X.A (spliced (backTo pos (starEach es X.env))) (AP X pins σ Q) X.xe s
def PS (X:Cx) (st:Stmt) (t:TS):Prop :=
  ∀ (pins:List (Addr×Obj)) (s:Shared) (σ:St) (H:Hp) (D:Ends),Inv X pins σ H s→t D σ H→wpAny (model X.prog X.w) X.A (exec st X.env) (SP X pins D) X.xe s
def PSs (X:Cx) (st:List Stmt) (t:TS):Prop :=
  ∀ (pins:List (Addr×Obj)) (s:Shared) (σ:St) (H:Hp) (D:Ends),Inv X pins σ H s→t D σ H→wpAny (model X.prog X.w) X.A (execs st X.env) (SP X pins D) X.xe s
theorem thn {α:Type} {t:Sem α} {Q Q':α→Shared→Prop} {M:Model} {A:Around} {E:Value→Shared→Prop} {s:Shared} (h:wpAny M A t Q E s) (hQ:∀ a s,Q a s→Q' a s):wpAny M A t Q' E s:=wpAny_mono h hQ fun _ _ x=>x
end L2

namespace L2
open PySem PySem.Spec PyProof.Rows
section
variable {X:Cx}


def tVar (i:Nat):TE:=fun σ H Q=>∃ v,σ[i]?=some (some v)∧Q v H
def tC (v:V):TE:=fun _ H Q=>Q v H
theorem pe_var {i:Nat} {x:Str} {pos:Pos} (hN:X.N[i]?=some x) (hv:Vis X.env.scope x) (hd:(x == ("__debug__":Str))=false:=by decide) (hcd:(x == ("__classdict__":Str))=false:=by decide):PE X (.Name x pos) (tVar i):=by
  intro pins s σ H Q I h
  obtain⟨v,e,h⟩:=h
  obtain⟨m,hn,hl⟩:=I.loc
  obtain⟨u,r,l⟩:=hl i x v hN e hv
  have fin:EP X pins σ Q u s:=⟨v,H,I,r,h⟩
  rcases l with ⟨hk,hm⟩ | ⟨hk,c,hc,hcell⟩
  · exact wpAny_Name (wpAny_loadName_local I.ok.kind hk hn hm fin) hd
  · rcases hk with hk | hk
    · exact wpAny_Name (wpAny_loadName_cell I.ok.kind hk hc hcell fin) hd
    · exact wpAny_Name (wpAny_loadName_free I.ok.kind hk hc hcell fin hcd) hd
theorem pe_int {i j pos}:PE X (.Constant (.int i) j pos) (tC (.int i)):=fun _ _ _ H _ I h=>wpAny_Constant_int ⟨.int i,H,I.tok _,⟨_,rfl⟩,h⟩
theorem pe_bl {b j pos}:PE X (.Constant (.bool b) j pos) (tC (.bl b)):=fun _ _ _ H _ I h=>Constant_bool ⟨.bl b,H,I,rfl,h⟩
theorem pe_non {j pos}:PE X (.Constant .none j pos) (tC .non):=fun _ _ _ H _ I h=>Constant_none ⟨.non,H,I,rfl,h⟩
theorem pe_str {x j pos}:PE X (.Constant (.str x) j pos) (tC (.str x)):=fun _ _ _ H _ I h=>Calls.Constant_str ⟨.str x,H,I.tok _,⟨_,rfl⟩,h⟩

def Gl (X:Cx) (x:Str):Prop:=X.env.kindOf x=some .globalImplicit
theorem ld_glob {E:Value→Shared→Prop} {pins:List (Addr×Obj)} {s:Shared} {σ:St} {H:Hp} {x:Str} {u:Value} {pos:Pos} {Q:Value→Shared→Prop} (I:Inv X pins σ H s) (hg:Gl X x) (hm:X.mg x=some u) (h:Q u s)
    (hd:(x == ("__debug__":Str))=false:=by decide):wpAny (model X.prog X.w) X.A (eval (.Name x pos) X.env) Q E s :=
  Calls.Name_function_global I.ok.kind hg (Calls.loadGlobal_global (by rw[I.ok.glob];exact I.mod.glob.keeps I.bk) hm h) hd
theorem ld_blt {E:Value→Shared→Prop} {pins:List (Addr×Obj)} {s:Shared} {σ:St} {H:Hp} {x:Str} {u:Value} {pos:Pos} {Q:Value→Shared→Prop} (I:Inv X pins σ H s) (hg:Gl X x) (hm:X.mg x=none) (hv:bootBuiltins x=some u) (h:Q u s)
    (hn:x≠"__name__":=by decide) (hd:(x == ("__debug__":Str))=false:=by decide):wpAny (model X.prog X.w) X.A (eval (.Name x pos) X.env) Q E s:=by
  obtain⟨mb,h1,h2⟩:=I.mod.blt
  exact Calls.Name_function_global I.ok.kind hg (Calls.loadGlobal_builtin (by rw[I.ok.glob];exact I.mod.glob.keeps I.bk) hm (by rw[I.ok.blt];exact h1.keeps I.bk) ((h2 x hn).trans hv) h) hd
theorem pe_glob {x:Str} {v:V} {u:Value} {pos:Pos} (hg:Gl X x) (hm:X.mg x=some u) (r:RelV v u) (hd:(x == ("__debug__":Str))=false:=by decide):PE X (.Name x pos) (tC v) :=
  fun _ _ _ H _ I h=>ld_glob I hg hm ⟨v,H,I,r,h⟩ hd
theorem pe_bltn {x:Str} {v:V} {u:Value} {pos:Pos} (hg:Gl X x) (hm:X.mg x=none) (hv:bootBuiltins x=some u) (r:RelV v u) (hn:x≠"__name__":=by decide) (hd:(x == ("__debug__":Str))=false:=by decide):PE X (.Name x pos) (tC v) :=
  fun _ _ _ H _ I h=>ld_blt I hg hm hv ⟨v,H,I,r,h⟩ hn hd

variable {a b:Expr} {ta tb:TE} {pos:Pos}

def tB (t:TE):TT:=fun σ H Q=>t σ H fun x H1=>∃ c,x=.bl c∧Q c H1
theorem pt_val {e:Expr} {t:TE} (h:PE X e t) (he:∀ whole,isTrue e X.env whole=(do let v ← whole;standAt e.pos;holding [v] (truthy v)):=by intro _;rfl):PT X e (tB t):=by
  intro pins s σ H Q I hw
  refine isTrue_plain (thn (h pins s σ H _ I hw) fun v s1 ⟨x,H1,I1,r1,q1⟩=>?_) (he _)
  obtain⟨d,rfl,q⟩:=q1
  cases r1
  exact wpAny_truthy_bool ⟨H1,I1,q⟩

variable {tA tB':TT} {rest:List Expr}
def tAnd (t u:TT):TT:=fun σ H Q=>t σ H fun c H1=>if c=true then u σ H1 Q else Q false H1
def tOr (t u:TT):TT:=fun σ H Q=>t σ H fun c H1=>if c=true then Q true H1 else u σ H1 Q
def tNot (t:TT):TT:=fun σ H Q=>t σ H fun c H1=>Q (!c) H1
theorem pw_and1 (ha:PT X a tA):PW X (.BoolOp .And [a] pos) tA:=by
  intro wh pins s σ H Q I h
  refine isTrue_and (thn (ha pins s σ H Q I h) fun c s1 e=>?_)
  cases c with
  | true=>exact isTrue_and_nil e
  | false=>exact e
theorem pw_or1 (ha:PT X a tA):PW X (.BoolOp .Or [a] pos) tA:=by
  intro wh pins s σ H Q I h
  refine isTrue_or (thn (ha pins s σ H Q I h) fun c s1 e=>?_)
  cases c with
  | false=>exact isTrue_or_nil e
  | true=>exact e
theorem pw_and (ha:PT X a tA) (hb:PW X (.BoolOp .And (b :: rest) pos) tB'):PW X (.BoolOp .And (a :: b :: rest) pos) (tAnd tA tB'):=by
  intro wh pins s σ H Q I h
  refine isTrue_and (thn (ha pins s σ H _ I h) fun c s1 ⟨H1,I1,q1⟩=>?_)
  cases c with
  | true=>exact hb wh pins s1 σ H1 Q I1 q1
  | false=>exact⟨H1,I1,q1⟩
theorem pw_or (ha:PT X a tA) (hb:PW X (.BoolOp .Or (b :: rest) pos) tB'):PW X (.BoolOp .Or (a :: b :: rest) pos) (tOr tA tB'):=by
  intro wh pins s σ H Q I h
  refine isTrue_or (thn (ha pins s σ H _ I h) fun c s1 ⟨H1,I1,q1⟩=>?_)
  cases c with
  | true=>exact⟨H1,I1,q1⟩
  | false=>exact hb wh pins s1 σ H1 Q I1 q1
theorem pt_not (ha:PT X a tA):PT X (.UnaryOp .Not a pos) (tNot tA):=by
  intro pins s σ H Q I h
  exact isTrue_not (ha pins s σ H (fun c H1=>Q (!c) H1) I h)
def tAndV (ta tb:TE):TE:=fun σ H Q=>ta σ H fun x H1=>∃ c,x=.bl c∧if c=true then tb σ H1 Q else Q (.bl false) H1
def tNotV (ta:TE):TE:=fun σ H Q=>ta σ H fun x H1=>∃ c,x=.bl c∧Q (.bl (!c)) H1
theorem pe_one {op} {t:TE} (h:PE X a t):PE X (.BoolOp op [a] pos) t:=fun pins s σ H Q I hw=>BoolOp_one (h pins s σ H Q I hw)
theorem pe_and (ha:PE X a ta) (hb:PE X (.BoolOp .And (b :: rest) pos) tb):PE X (.BoolOp .And (a :: b :: rest) pos) (tAndV ta tb):=by
  intro pins s σ H Q I h
  refine BoolOp_and (thn (ha pins s σ H _ I h) fun v s1 ⟨x,H1,I1,r1,q1⟩=>?_)
  obtain⟨c,rfl,q1⟩:=q1
  cases r1
  refine wpAny_truthy_bool ?_
  cases c with
  | true=>exact hb pins s1 σ H1 Q I1 q1
  | false=>exact⟨.bl false,H1,I1,rfl,q1⟩
theorem pe_not (ha:PE X a ta):PE X (.UnaryOp .Not a pos) (tNotV ta):=by
  intro pins s σ H Q I h
  refine UnaryOp_ (thn (ha pins s σ H _ I h) fun v s1 ⟨x,H1,I1,r1,q1⟩=>?_)
  obtain⟨c,rfl,q1⟩:=q1
  cases r1
  exact not_of (wpAny_truthy_bool ⟨.bl (!c),H1,I1,rfl,q1⟩)
def tIf (t:TT) (ta tb:TE):TE:=fun σ H Q=>t σ H fun c H1=>if c=true then ta σ H1 Q else tb σ H1 Q
theorem pe_ifExp {c:Expr} (hc:PT X c tA) (ha:PE X a ta) (hb:PE X b tb):PE X (.IfExp c a b pos) (tIf tA ta tb):=by
  intro pins s σ H Q I h
  refine wpAny_IfExp (thn (hc pins s σ H _ I h) fun d s1 ⟨H1,I1,q1⟩=>?_)
  cases d with
  | true=>exact ha pins s1 σ H1 Q I1 q1
  | false=>exact hb pins s1 σ H1 Q I1 q1
end
end L2

namespace L2
open PySem PySem.Spec PyProof.Rows

def SqL (K:PySem.W.Frag) (H:Hp) (a:Addr) (xs:List V):Prop :=
  Rd H a (.lst xs) ∨
    ∃ (o:Obj) (its:Array Value) (n:Nat),K.lookup a=some o∧o.cls=.type "list"∧o.dict=none∧o.data=.seq its n∧its.size≤sizeLine∧Vals xs its.toList
def SqT (K:PySem.W.Frag) (H:Hp) (a:Addr) (xs:List V):Prop :=
  Rd H a (.tup xs) ∨
    ∃ (o:Obj) (its:Array Value) (n:Nat),K.lookup a=some o∧o.cls=.type "tuple"∧o.data=.seq its n∧its.size≤sizeLine∧Vals xs its.toList
def absV:Value→Option V
  | .none=>some .non
  | .bool b=>some (.bl b)
  | .int i _=>some (.int i)
  | .str x _=>some (.str x)
  | .bytes b _=>some (.byt b)
  | .float b _=>some (.flt b)
  | .ref a=>some (.ref a)
  | .type n=>some (.ty n)
  | _=>none
theorem RelV.abs {x:V} {u:Value} (r:RelV x u):absV u=some x:=by
  cases x with
  | non=>cases r;rfl
  | bl _=>cases r;rfl
  | int _=>obtain⟨t,rfl⟩:=r;rfl
  | str _=>obtain⟨t,rfl⟩:=r;rfl
  | byt _=>obtain⟨t,rfl⟩:=r;rfl
  | flt _=>obtain⟨t,rfl⟩:=r;rfl
  | ref _=>cases r;rfl
  | ty _=>cases r;rfl
theorem RelV.inj {x y:V} {u:Value} (r:RelV x u) (q:RelV y u):x=y:=Option.some.inj (r.abs.symm.trans q.abs)
theorem Vals.inj:∀ {xs ys:List V} {us:List Value},Vals xs us→Vals ys us→xs=ys
  | _,_,_,.nil,.nil=>rfl
  | _,_,_,.cons r t,.cons r' t'=>by rw[r.inj r',Vals.inj t t']
section
variable {X:Cx} {pins:List (Addr×Obj)} {σ:St} {H:Hp} {s:Shared} {a:Addr} {xs ys:List V}
theorem SqL.of {K:PySem.W.Frag} (h:H a=some (.lst xs)):SqL K H a xs:=.inl (.inl h)
theorem SqT.of {K:PySem.W.Frag} (h:H a=some (.tup xs)):SqT K H a xs:=.inl (.inl h)
theorem Inv.list (I:Inv X pins σ H s) (h:SqL X.K H a xs):∃ its:List Value,Vals xs its∧PlainL s.heap a its.toArray∧xs.length≤sizeLine:=by
  rcases h with h | ⟨o,its,n,hk,hc,hd,hs,hz,r⟩
  · obtain⟨z,its,n,r,e⟩:=h.ok I.hok
    exact⟨its,r,⟨_,n,e,rfl,rfl,rfl⟩,z⟩
  · refine⟨its.toList,r,⟨o,n,I.kIn a o hk,hc,hd,by simpa using hs⟩,?_⟩
    have e:=r.length
    simp only[Array.length_toList] at e
    omega
theorem Inv.tuple (I:Inv X pins σ H s) (h:SqT X.K H a xs):∃ its:List Value,Vals xs its∧IsTup s.heap a its.toArray∧xs.length≤sizeLine:=by
  rcases h with h | ⟨o,its,n,hk,hc,hs,hz,r⟩
  · obtain⟨z,its,r,p⟩:=h.ok I.hok
    exact⟨its,r,p,z⟩
  · refine⟨its.toList,r,⟨o,I.kIn a o hk,hc,n,by simpa using hs⟩,?_⟩
    have e:=r.length
    simp only[Array.length_toList] at e
    omega
theorem Inv.list_inj (I:Inv X pins σ H s) (h:SqL X.K H a xs) (h':SqL X.K H a ys):xs=ys:=by
  obtain⟨its,r,⟨o,n,e,_,_,d⟩,_⟩:=I.list h
  obtain⟨its',r',⟨o',n',e',_,_,d'⟩,_⟩:=I.list h'
  rw[e] at e';cases e'
  rw[d] at d'
  injection d' with d1 _
  have : its=its':=by simpa using congrArg Array.toList d1
  subst this
  exact r.inj r'
theorem Inv.tuple_inj (I:Inv X pins σ H s) (h:SqT X.K H a xs) (h':SqT X.K H a ys):xs=ys:=by
  obtain⟨its,r,⟨o,e,_,n,d⟩,_⟩:=I.tuple h
  obtain⟨its',r',⟨o',e',_,n',d'⟩,_⟩:=I.tuple h'
  rw[e] at e';cases e'
  rw[d] at d'
  injection d' with d1 _
  have : its=its':=by simpa using congrArg Array.toList d1
  subst this
  exact r.inj r'
end

abbrev Cx.wish (X:Cx) (E:Value→Shared→Prop):Cx:={ X with xe:=E }
abbrev Cx.nox (X:Cx):Cx:=X.wish fun _ _=>False
theorem Cx.Ok.wish {X:Cx} (ok:X.Ok) (E:Value→Shared→Prop):(X.wish E).Ok :=
  ⟨ok.mod,ok.kind,ok.glob,ok.blt,ok.above,ok.inj,ok.has,ok.cab,ok.hd,ok.frames,ok.stk,ok.exf,ok.bs,ok.bsz,ok.noex,ok.exfs,ok.funs,ok.frf⟩
theorem Cx.Ok.unwish {X:Cx} {E:Value→Shared→Prop} (ok:(X.wish E).Ok):X.Ok :=
  ⟨ok.mod,ok.kind,ok.glob,ok.blt,ok.above,ok.inj,ok.has,ok.cab,ok.hd,ok.frames,ok.stk,ok.exf,ok.bs,ok.bsz,ok.noex,ok.exfs,ok.funs,ok.frf⟩
section
variable {X:Cx} {pins:List (Addr×Obj)} {σ:St} {H:Hp} {s:Shared} {E:Value→Shared→Prop}
theorem Inv.wish (I:Inv X pins σ H s) (E:Value→Shared→Prop):Inv (X.wish E) pins σ H s:=⟨I.ok.wish E,I.os,I.bare,I.base,I.loc,I.cell,I.free,I.freeC,I.pin,I.hok,I.len⟩
theorem Inv.unwish (I:Inv (X.wish E) pins σ H s):Inv X pins σ H s:=⟨I.ok.unwish,I.os,I.bare,I.base,I.loc,I.cell,I.free,I.freeC,I.pin,I.hok,I.len⟩
theorem SP.unwish {D:Ends} {f:Flow} {s':Shared} (h:SP (X.wish E) pins D f s'):SP X pins D f s':=by
  cases f with
  | next=>obtain⟨σ',H',I,q⟩:=h;exact⟨σ',H',I.unwish,q⟩
  | brk=>obtain⟨σ',H',I,q⟩:=h;exact⟨σ',H',I.unwish,q⟩
  | cont=>obtain⟨σ',H',I,q⟩:=h;exact⟨σ',H',I.unwish,q⟩
  | ret u=>obtain⟨v,σ',H',I,r,q⟩:=h;exact⟨v,σ',H',I.unwish,r,q⟩
theorem PSs.nox {st:List Stmt} {t:TS} (h:PSs X.nox st t):PSs X st t:=fun pins s σ H D I hw =>
  wpAny_mono (h pins s σ H D (I.wish _) hw) (fun _ _ q=>q.unwish) fun _ _ z=>False.elim z
end

section
variable {X:Cx} {st:Stmt} {rest:List Stmt} {t u:TS} {e:Expr} {te:TE} {pos:Pos}
def tNext:TS:=fun D σ H=>D.nx σ H
def tSeq (t u:TS):TS:=fun D σ H=>t { D with nx:=u D } σ H
theorem pss_nil:PSs X [] tNext:=fun _ _ σ H _ I h=>wpAny_execs_nil ⟨σ,H,I,h⟩
theorem pss_cons (h1:PS X st t) (h2:PSs X rest u):PSs X (st :: rest) (tSeq t u):=by
  intro pins s σ H D I h
  refine wpAny_execs_cons (thn (h1 pins s σ H { D with nx:=u D } I h) fun f s1 q=>?_)
  cases f with
  | next =>
    obtain⟨σ',H',I',q⟩:=q
    exact h2 pins s1 σ' H' D I' q
  | ret v=>exact q
  | brk=>exact q
  | cont=>exact q
theorem Inv.quiet {pins:List (Addr×Obj)} {σ:St} {H:Hp} {s:Shared} (I:Inv X pins σ H s):interactive X.env=false:=by simp[interactive,I.ok.kind]
def tDrop (te:TE):TS:=fun D σ H=>te σ H fun _ H1=>D.nx σ H1
theorem ps_expr (he:PE X e te) (hs:swapsWith e none pos.line X.env=pure false:=by rfl):PS X (.Expr e pos) (tDrop te):=by
  intro pins s σ H D I h
  exact wpAny_Expr_any (thn (he pins s σ H _ I h) fun v s1 ⟨x,H1,I1,r1,q1⟩=>⟨σ,H1,I1,q1⟩) I.quiet hs
def tRet (te:TE):TS:=fun D σ H=>te σ H D.rt
theorem ps_ret (he:PE X e te):PS X (.Return (some e) pos) (tRet te):=by
  intro pins s σ H D I h
  exact wpAny_Return_some (thn (he pins s σ H _ I h) fun v s1 ⟨x,H1,I1,r1,q1⟩=>⟨x,σ,H1,I1,r1,q1⟩)
def tIfS (c:TT) (t u:TS):TS:=fun D σ H=>c σ H fun b H1=>if b=true then t D σ H1 else u D σ H1
theorem ps_if {c:Expr} {a b:List Stmt} {tc:TT} (hc:PT X c tc) (ha:PSs X a t) (hb:PSs X b u):PS X (.If c a b pos) (tIfS tc t u):=by
  intro pins s σ H D I h
  refine wpAny_If (thn (hc pins s σ H _ I h) fun d s1 ⟨H1,I1,q1⟩=>?_)
  cases d with
  | true=>exact ha pins s1 σ H1 D I1 q1
  | false=>exact hb pins s1 σ H1 D I1 q1
def tNever:TS:=fun _ _ _=>False
theorem ps_never:PS X st tNever:=fun _ _ _ _ _ _ h=>h.elim
end

abbrev TG:=V→St→Hp→(St→Hp→Prop)→Prop
abbrev TGs:=List V→St→Hp→(St→Hp→Prop)→Prop
def PG (X:Cx) (target:Expr) (t:TG):Prop :=
  ∀ (pins:List (Addr×Obj)) (s:Shared) (σ:St) (H:Hp) (v:V) (u:Value) (Q:St→Hp→Prop),Inv X pins σ H s→RelV v u→t v σ H Q →
    wpAny (model X.prog X.w) X.A (assign target X.env u) (fun _ s'=>∃ σ' H',Inv X pins σ' H' s'∧Q σ' H') X.xe s
def PGs (X:Cx) (ts:List Expr) (t:TGs):Prop :=
  ∀ (pins:List (Addr×Obj)) (s:Shared) (σ:St) (H:Hp) (vs:List V) (us:List Value) (Q:St→Hp→Prop),Inv X pins σ H s→Vals vs us→t vs σ H Q →
    wpAny (model X.prog X.w) X.A (assignInOrder ((assignEach ts X.env).map (·.2)) us) (fun _ s'=>∃ σ' H',Inv X pins σ' H' s'∧Q σ' H') X.xe s
abbrev TSet:=V→V→V→Hp→(Hp→Prop)→Prop
def PSet (X:Cx) (t:TSet):Prop :=
  ∀ (pins:List (Addr×Obj)) (s:Shared) (σ:St) (H:Hp) (o i v:V) (ov iv u:Value) (Q:Hp→Prop),Inv X pins σ H s→RelV o ov→RelV i iv→RelV v u→t o i v H Q →
    wpAny (model X.prog X.w) X.A (setItem ov iv u) (fun _ s'=>∃ H',Inv X pins σ H' s'∧Q H') X.xe s
abbrev TIp:=V→V→Hp→VK→Prop
def PIp (X:Cx) (op:Operator) (t:TIp):Prop :=
  ∀ (pins:List (Addr×Obj)) (s:Shared) (σ:St) (H:Hp) (x y:V) (v u:Value) (Q:VK),Inv X pins σ H s→RelV x v→RelV y u→t x y H Q →
    wpAny (model X.prog X.w) X.A (inplaceOp op v u) (EP X pins σ Q) X.xe s
section
variable {X:Cx} {pos:Pos}
def gName (i:Nat):TG:=fun v σ H Q=>Q (σ.set i (some v)) H
theorem pg_name {i:Nat} {x:Str} (hN:X.N.Nodup) (hi:X.N[i]?=some x) (hx:Loc X.env.scope x) (hf:X.fn x=true∨X.env.scope.names.lookup x=some .local:=by first | exact .inl rfl | exact .inr rfl | assumption):PG X (.Name x pos) (gName i):=by
  intro pins s σ H v u Q I r h
  exact wpAny_assign_Name (store_ok I hN hi hx r (fun s' I'=>⟨_,H,I',h⟩) hf)
def gNil:TGs:=fun vs σ H Q=>vs=[]∧Q σ H
def gCons (t:TG) (u:TGs):TGs:=fun vs σ H Q=>∃ v r,vs=v :: r∧t v σ H fun σ' H'=>u r σ' H' Q
theorem pgs_nil:PGs X [] gNil:=by
  intro pins s σ H vs us Q I r h
  obtain⟨e,h⟩:=h
  subst e
  cases r
  exact assignInOrder_nil ⟨σ,H,I,h⟩
theorem pgs_cons {e:Expr} {es:List Expr} {t:TG} {u:TGs} (h1:PG X e t) (h2:PGs X es u)
    (hs:(assignEach (e :: es) X.env).map (·.2)=assign e X.env :: (assignEach es X.env).map (·.2):=by rfl):PGs X (e :: es) (gCons t u):=by
  intro pins s σ H vs us Q I r h
  obtain⟨v,vr,e1,h⟩:=h
  subst e1
  cases r with
  | cons r rr =>
    rw[hs]
    refine assignInOrder_cons (thn (h1 pins s σ H _ _ _ I r h) fun _ s1 ⟨σ1,H1,I1,q1⟩=>?_)
    exact h2 pins s1 σ1 H1 _ _ Q I1 rr q1
def gTup (K:PySem.W.Frag) (n:Nat) (t:TGs):TG:=fun v σ H Q=>∃ a xs,v=.ref a∧SqT K H a xs∧xs.length=n∧t xs σ H Q
theorem pg_tup {es:List Expr} {k:Nat} {t:TGs} {n:Nat} (hc:X.calm=true) (h:PGs X es t)
    (hn:(assignEach es X.env).length=n:=by rfl) (hst:(assignEach es X.env).findIdx? (·.1)=none:=by rfl):PG X (.Tuple es k pos) (gTup X.K n t):=by
  intro pins s σ H v u Q I r hw
  obtain⟨a,xs,e1,hq,hl,hw⟩:=hw
  subst e1
  cases r
  obtain⟨its,rv,ht,hz⟩:=I.tuple hq
  refine assign_Tuple_tuple (I.ok.hd hc) ht (by simp[hn,← hl,rv.length]) hst fun h' hx=>?_
  have I1:Inv X pins σ H { s with heap:=h' }:=I.kept (t':=s.toks) fun b o e=>hx b o (Nat.ne_of_lt (Heap.lt_size e)) e
  exact h pins _ σ H xs _ Q I1 (by simpa using rv) hw
def gSub (to ti:TE) (t:TSet):TG:=fun v σ H Q=>to σ H fun o H1=>ti σ H1 fun i H2=>t o i v H2 fun H3=>Q σ H3
theorem pg_sub {o i:Expr} {to ti:TE} {t:TSet} (ho:PE X o to) (hi:PE X i ti) (hs:PSet X t)
    (ha:∀ v,assign (.Subscript o i pos) X.env v=(do
      let ov ← holding [v] (eval o X.env)
      let iv ← holding [v,ov] (eval i X.env)
      standAt pos
      holding [v,ov,iv] (setItem ov iv v)
      release [v,ov,iv] []):=by intro _;rfl):PG X (.Subscript o i pos) (gSub to ti t):=by
  intro pins s σ H v u Q I r h
  rw[ha]
  refine wpAny_bind (wpAny_holding (thn (ho pins s σ H _ I h) fun ov s1 ⟨x,H1,I1,r1,q1⟩=>?_))
  refine wpAny_bind (wpAny_holding (thn (hi pins s1 σ H1 _ I1 q1) fun iv s2 ⟨y,H2,I2,r2,q2⟩=>?_))
  refine wpAny_bind (wpAny_standAt (wpAny_bind (wpAny_holding (thn (hs pins s2 σ H2 x y v ov iv u _ I2 r1 r2 r q2) fun _ s3 ⟨H3,I3,q3⟩=>?_))))
  exact wpAny_release ⟨σ,H3,I3,q3⟩
def tAsg (te:TE) (g:TG):TS:=fun D σ H=>te σ H fun x H1=>g x σ H1 D.nx
theorem ps_asg {tg e:Expr} {te:TE} {g:TG} (he:PE X e te) (hg:PG X tg g) (hs:swapsWithSole [tg] e pos.line X.env=pure false:=by rfl) (hw:swappedStores [tg] e X.env=pure none:=by rfl)
    (h1:(assignEach [tg] X.env).map (·.2)=[assign tg X.env]:=by rfl):PS X (.Assign [tg] e pos) (tAsg te g):=by
  intro pins s σ H D I h
  refine wpAny_Assign_stores (thn (he pins s σ H _ I h) fun v s1 ⟨x,H1,I1,r1,q1⟩=>?_) hs hw
  rw[h1]
  exact thn (hg pins s1 σ H1 x v _ I1 r1 q1) fun _ s2 q=>q
theorem ps_set {i:Nat} {x:Str} {e:Expr} {te:TE} {pos':Pos} (hN:X.N.Nodup) (hi:X.N[i]?=some x) (hx:Loc X.env.scope x) (he:PE X e te) (hs:swapsWith e (some (.Name x pos')) pos.line X.env=pure false:=by rfl) (hf:X.fn x=true∨X.env.scope.names.lookup x=some .local:=by first | exact .inl rfl | exact .inr rfl | assumption) :
    PS X (.Assign [.Name x pos'] e pos) (tAsg te (gName i)):=by
  intro pins s σ H D I h
  refine wpAny_Assign_Name (thn (he pins s σ H _ I h) fun v s1 ⟨y,H1,I1,r1,q1⟩=>?_) hs
  exact store_ok I1 hN hi hx r1 (fun s2 I2=>⟨_,H1,I2,q1⟩) hf
def tPar (i j:Nat) (ta:TA):TS:=fun D σ H=>ta σ H fun vs H1=>∃ v w,vs=[v,w]∧D.nx ((σ.set i (some v)).set j (some w)) H1
theorem ps_par {i j:Nat} {x y:Str} {a b:Expr} {ta:TA} {px py pt:Pos} {kt k2 pt2} (hc:X.calm=true) (hN:X.N.Nodup) (hi:X.N[i]?=some x) (hj:X.N[j]?=some y) (hij:i≠j)
    (hx:X.env.scope.names.lookup x=some .local) (hy:X.env.scope.names.lookup y=some .local) (ha:PA X [a,b] ta)
    (hw:swappedStores [.Tuple [.Name x px,.Name y py] kt pt] (.Tuple [a,b] k2 pt2) X.env=pure (some [x,y]))
    (hs:swapsWithSole [.Tuple [.Name x px,.Name y py] kt pt] (.Tuple [a,b] k2 pt2) pos.line X.env=pure false:=by rfl) :
    PS X (.Assign [.Tuple [.Name x px,.Name y py] kt pt] (.Tuple [a,b] k2 pt2) pos) (tPar i j ta):=by
  intro pins s σ H D I h
  rw[exec_Assign_arm]
  refine wpAny_bind (wpAny_standAt ?_)
  rw[hs]
  refine wpAny_bind (wpAny_pure ?_)
  rw[if_neg (by decide)]
  refine wpAny_bind (Tuple_ (thn (ha _ pins s σ H _ I h) fun us s1 ⟨vs,H1,I1,r1,q1⟩=>?_))
  obtain⟨v,w,e1,q1⟩:=q1
  subst e1
  obtain⟨u1,u2,rfl,rv,rw'⟩:∃ u1 u2,us=[u1,u2]∧RelV v u1∧RelV w u2:=by
    cases r1 with
    | cons p q =>
      cases q with
      | cons p' q' =>
        cases q'
        exact⟨_,_,rfl,p,p'⟩
  refine wpAny_newObj_type ?_ (by show 2≤sizeLine;decide)
  have I2:Inv X pins σ H1 { s1 with heap:=s1.heap.push { cls:=.type "tuple",data:=.seq [u1,u2].toArray } }:=I1.kept (t':=s1.toks) fun b o e=>Heap.get?_push_of_some _ e
  rw[hw]
  refine wpAny_bind (wpAny_pure ?_)
  show wpAny (model X.prog X.w) X.A (do rule "assign.swapped-stores";let items ← unpackItems (.ref s1.heap.objs.size) 2 none;assignInOrder [fun v=>bindName X.env y v,fun v=>bindName X.env x v] items.reverse;pure Flow.next) _ _ _
  refine wpAny_bind (wpAny_rule (wpAny_bind (unpackItems_tuple (items:=#[u1,u2]) (I.ok.hd hc) (IsTup.new s1.heap _) fun h' hx'=>?_)))
  have I3:=I2.kept (h':=h') (t':=s1.toks) fun b o e=>hx' b o (Nat.ne_of_lt (Heap.lt_size e)) e
  show wpAny _ _ (assignInOrder [fun v=>bindName X.env y v,fun v=>bindName X.env x v] [u2,u1] >>= fun _=>pure Flow.next) _ _ _
  refine wpAny_bind (assignInOrder_cons (wpAny_bindName (store_ok I3 hN hj (.inl hy) rw' (fun s2 I4=>?_) (.inr hy))))
  refine assignInOrder_cons (wpAny_bindName (store_ok I4 hN hi (.inl hx) rv (fun s3 I5=>assignInOrder_nil (wpAny_pure ?_)) (.inr hx)))
  rw[List.set_comm _ _ (Ne.symm hij)] at I5
  exact⟨_,H1,I5,q1⟩
def tAug (i:Nat) (te:TE) (ti:TIp):TS:=fun D σ H=>∃ x,σ[i]?=some (some x)∧te σ H fun y H1=>ti x y H1 fun z H2=>D.nx (σ.set i (some z)) H2
theorem ps_aug {i:Nat} {x:Str} {e:Expr} {te:TE} {op:Operator} {ti:TIp} {pos':Pos} (hN:X.N.Nodup) (hi:X.N[i]?=some x) (hx:Loc X.env.scope x) (he:PE X e te) (ho:PIp X op ti) (hf:X.fn x=true∨X.env.scope.names.lookup x=some .local:=by first | exact .inl rfl | exact .inr rfl | assumption) :
    PS X (.AugAssign (.Name x pos') op e pos) (tAug i te ti):=by
  intro pins s σ H D I h
  obtain⟨v,e1,h⟩:=h
  obtain⟨m,hn,hl⟩:=I.loc
  have vis:Vis X.env.scope x:=by rcases hx with k | k;exact .inl k;exact .inr (.inl k)
  obtain⟨u,r,l⟩:=hl i x v hi e1 vis
  refine wpAny_AugAssign_Name ?_
  have go:wpAny (model X.prog X.w) X.A (eval e X.env) (fun w s₂=>wpAny (model X.prog X.w) X.A (inplaceOp op u w) (fun r s₃=>wpAny (model X.prog X.w) X.A (storeName X.env x r) (fun _=>SP X pins D .next) X.xe s₃) X.xe s₂) X.xe s:=by
    refine thn (he pins s σ H _ I h) fun w s1 ⟨y,H1,I1,r1,q1⟩=>?_
    refine thn (ho pins s1 σ H1 v y u w _ I1 r r1 q1) fun z s2 ⟨zv,H2,I2,r2,q2⟩=>?_
    exact store_ok I2 hN hi hx r2 (fun s3 I3=>⟨_,H2,I3,q2⟩) hf
  rcases l with ⟨hk,hm⟩ | ⟨hk,c,hc,hcell⟩
  · exact wpAny_loadName_local I.ok.kind hk hn hm go
  · rcases hk with hk | hk
    · exact wpAny_loadName_cell I.ok.kind hk hc hcell go
    · rcases hx with k | k
      · have : X.env.scope.names.lookup x=some .free:=hk
        rw[k] at this;cases this
      · have : X.env.scope.names.lookup x=some .free:=hk
        rw[k] at this;cases this
def ipI (f:Int→Int→Int):TIp:=fun x y H Q=>∃ i j,x=.int i∧y=.int j∧Q (.int (f i j)) H
theorem ip_add:PIp X .Add (ipI fun i j=>i+j):=by
  intro pins s σ H x y v u Q I r1 r2 h
  obtain⟨i,j,e1,e2,q⟩:=h
  subst e1;subst e2
  obtain⟨t,rfl⟩:=r1
  obtain⟨t',rfl⟩:=r2
  exact iadd_int ⟨.int _,H,I.tok _,⟨_,rfl⟩,q⟩
theorem ip_sub:PIp X .Sub (ipI fun i j=>i-j):=by
  intro pins s σ H x y v u Q I r1 r2 h
  obtain⟨i,j,e1,e2,q⟩:=h
  subst e1;subst e2
  obtain⟨t,rfl⟩:=r1
  obtain⟨t',rfl⟩:=r2
  exact isub_int ⟨.int _,H,I.tok _,⟨_,rfl⟩,q⟩
end

section
variable {X:Cx} {pos:Pos}
def tWhile (c:TT) (tb:TS):TS:=fun D σ H=>∃ W:Nat→St→Hp→Prop,(∃ m,W m σ H)∧∀ m σ H,W m σ H →
  c σ H fun b H1=>if b=true then ∃ N:St→Hp→Prop,(∀ σ' H',N σ' H'→∃ m',m' < m∧W m' σ' H')∧tb { D with nx:=N,ct:=N,bk:=D.nx } σ H1 else D.nx σ H1
theorem ps_while {c:Expr} {body:List Stmt} {tc:TT} {tb:TS} (hp:PassesOwn (model X.prog X.w) X.A X.env X.xe) (hc:PT X c tc) (hb:PSs X body tb):PS X (.While c body [] pos) (tWhile tc tb):=by
  intro pins s σ H D I h
  obtain⟨W,⟨m0,w0⟩,turn⟩:=h
  refine wpAny_While (codeAny_whileLoop (fun n s'=>∃ σ' H',Inv X pins σ' H' s'∧W n σ' H') ?_ m0 ⟨σ,H,I,w0⟩)
  rintro n s1 ⟨σ1,H1,I1,w1⟩
  refine wpAny_passesOwn hp (thn (hc pins s1 σ1 H1 _ I1 (turn n σ1 H1 w1)) fun b s2 ⟨H2,I2,q2⟩=>?_)
  cases b with
  | true =>
    obtain⟨N,hN,q2⟩:=q2
    rw[if_pos rfl]
    refine wpAny_passesOwn hp (thn (hb pins s2 σ1 H2 _ I2 q2) fun f s3 q3=>?_)
    cases f with
    | next =>
      obtain⟨σ3,H3,I3,n3⟩:=q3
      obtain⟨m',hm,w3⟩:=hN σ3 H3 n3
      exact⟨m',hm,σ3,H3,I3,w3⟩
    | cont =>
      obtain⟨σ3,H3,I3,n3⟩:=q3
      obtain⟨m',hm,w3⟩:=hN σ3 H3 n3
      exact⟨m',hm,σ3,H3,I3,w3⟩
    | brk=>exact q3
    | ret v=>exact q3
  | false =>
    rw[if_neg Bool.false_ne_true]
    exact wpAny_execs_nil ⟨σ1,H2,I2,q2⟩
end

structure It where
  go:Nat→Hp→Prop
  yld:Nat→Hp→V→Hp→Prop
  stop:Nat→Hp→Prop
def FpOk (X:Cx) (pins:List (Addr×Obj)) (H:Hp) (b:Addr):Prop :=
  H b=none∧b≠X.env.locals∧b∉X.fs∧(b∈X.ex∨X.s_0.heap.objs.size≤b)∧(∀ x c,X.env.cells.lookup x=some c→c≠b)∧∀ p∈X.pn++pins,p.1≠b
theorem Inv.fpOk {X:Cx} {pins:List (Addr×Obj)} {σ:St} {H H':Hp} {s:Shared} {b:Addr} (I:Inv X pins σ H s) (hb:s.heap.objs.size≤b) (hn:H' b=none):FpOk X pins H' b:=by
  refine⟨hn,Nat.ne_of_gt (Nat.lt_of_lt_of_le I.lt hb),I.nofs hb,.inr (Nat.le_trans I.sz hb),fun x c e z=>?_,fun p hp z=>?_⟩
  · obtain⟨v,q⟩:=I.cell x c e
    exact absurd (Nat.lt_of_lt_of_le q.lt (by rw[z];exact hb)) (Nat.lt_irrefl _)
  · exact absurd (Nat.lt_of_lt_of_le (Heap.lt_size (I.pin p hp).1) (by rw[z];exact hb)) (Nat.lt_irrefl _)
structure Turn (P:Program) (w:World) (K:PySem.W.Frag) (tg:Expr) (J:It) (fp:List Addr) (it:Addr) (tn:Nat→Heap→Prop):Prop where
  mem:it∈fp
  obj:∀ i h,tn i h→∀ b∈fp,∃ o,h.get? b=some o∧∀ v,o.data≠.cell v
  keep:∀ i h h',tn i h→(∀ b∈fp,∀ o,h.get? b=some o→h'.get? b=some o)→tn i h'
  item:∀ (X:Cx),X.prog=P→X.w=w→X.K=K→X.calm=true→∀ (i:Nat) (pins:List (Addr×Obj)) (s:Shared) (σ:St) (H:Hp) (E:Value→Shared→Prop),Inv X pins σ H s→(∀ b∈fp,FpOk X pins H b)→tn i s.heap→J.go i H →
    wpAny (model P w) X.A (pyNext (.ref it)) (fun r s1=>∃ u,r=some u ∧
      wpAny (model P w) X.A (letOwnedTupleGo tg (.ref it) u) (fun _ s2=>∃ x H',Inv X pins σ H' s2∧RelV x u∧J.yld i H x H'∧tn (i+1) s2.heap∧∀ b∈fp,H' b=none) E s1) E s
  done:∀ (X:Cx),X.prog=P→X.w=w→X.K=K→X.calm=true→∀ (i:Nat) (pins:List (Addr×Obj)) (s:Shared) (σ:St) (H:Hp) (E:Value→Shared→Prop),Inv X pins σ H s→(∀ b∈fp,FpOk X pins H b)→tn i s.heap→J.stop i H →
    wpAny (model P w) X.A (pyNext (.ref it)) (fun r s1=>r=none∧Inv X pins σ H s1) E s
  self:∀ (A:Around) (i:Nat) (s:Shared) (Q:Value→Shared→Prop) (E:Value→Shared→Prop),tn i s.heap→Q (.ref it) s→wpAny (model P w) A (pyIter (.ref it)) Q E s
abbrev TI:=St→Hp→(It→Hp→Prop)→Prop
def PIE (X:Cx) (pins:List (Addr×Obj)) (σ:St) (tg:Expr) (R:It→Hp→Prop) (itv:Value) (s2:Shared):Prop :=
  ∃ (it:Addr) (fp:List Addr) (tn:Nat→Heap→Prop) (J:It) (H':Hp),itv=.ref it∧Inv X pins σ H' s2∧Turn X.prog X.w X.K tg J fp it tn∧tn 0 s2.heap∧(∀ b∈fp,FpOk X pins H' b)∧R J H'
def PI (X:Cx) (tg iter:Expr) (wi:TI):Prop :=
  ∀ (pins:List (Addr×Obj)) (s:Shared) (σ:St) (H:Hp) (R:It→Hp→Prop),Inv X pins σ H s→wi σ H R →
    wpAny (model X.prog X.w) X.A (eval iter X.env) (fun v s1=>wpAny (model X.prog X.w) X.A (pyIter v) (PIE X pins σ tg R) X.xe s1) X.xe s

theorem go_of {M:Model} {A:Around} {E:Value→Shared→Prop} {s:Shared} {tg:Expr} {it:Addr} {u:Value} {o:Obj} {n:String} {vs:Array Value} {Q:Unit→Shared→Prop} (ho:s.heap.get? it=some o) (hc:o.cls=.type n) (hd:o.data=.fields vs)
    (hn:["enumerate","zip","dict_itemiterator","dict_reverseitemiterator","odict_iterator","itertools.zip_longest","itertools.pairwise"].contains n=false) (hQ:Q () s):wpAny M A (letOwnedTupleGo tg (.ref it) u) Q E s:=by
  unfold letOwnedTupleGo
  cases tg <;> first
    | exact wpAny_pure hQ
    | (cases u <;> first
        | exact wpAny_pure hQ
        | (refine wpAny_bind (wpAny_load ho ?_)
           rw[hc,hd]
           show wpAny M A (if (["enumerate","zip","dict_itemiterator","dict_reverseitemiterator","odict_iterator","itertools.zip_longest","itertools.pairwise"].contains n && vs[0]? == some (rawInt _))=true then _ else _) Q E s
           rw[if_neg (by intro h;rw[hn,Bool.false_and] at h;cases h)]
           exact wpAny_pure hQ))

def Itl (K:PySem.W.Frag) (a:Addr):It :=
  ⟨fun i H=>∃ xs x,SqL K H a xs∧xs[i]?=some x,fun i H x H'=>H'=H∧∀ xs,SqL K H a xs→xs[i]?=some x,fun i H=>∃ xs,SqL K H a xs∧xs.length≤i⟩
def Itt (K:PySem.W.Frag) (a:Addr):It :=
  ⟨fun i H=>∃ xs x,SqT K H a xs∧xs[i]?=some x,fun i H x H'=>H'=H∧∀ xs,SqT K H a xs→xs[i]?=some x,fun i H=>∃ xs,SqT K H a xs∧xs.length≤i⟩
def Itr (lo:Int) (n:Nat):It:=⟨fun i _=>i < n,fun i H x H'=>H'=H∧x=.int (lo+i),fun i _=>n≤i⟩
theorem turn_list {P:Program} {w:World} {K:PySem.W.Frag} {tg:Expr} (a it:Addr):Turn P w K tg (Itl K a) [it] it (fun i h=>h.IsListIter it a i) where
  mem:=by simp
  obj:=fun i h st b hb=>by
    have e:b=it:=by simpa using hb
    subst e
    obtain⟨o,e,c,d⟩:=st
    exact⟨o,e,fun v z=>by rw[d] at z;cases z⟩
  keep:=fun i h h' st k=>st.at fun o e=>k it (by simp) o e
  item:=by
    intro X hP hw hK hc i pins s σ H E I hf st hg
    subst hP hw hK
    obtain⟨xs,x,hq,hx⟩:=hg
    obtain⟨its,rv,p,hz⟩:=I.list hq
    obtain⟨u,hu,ru⟩:=rv.get hx
    obtain⟨f0,f1,f2,f3,f4,f5⟩:=hf it (by simp)
    refine wpAny_pyNext_list_item st p.isList (x:=u) (by simpa using hu) fun h' st' sb=>?_
    have I1:Inv X pins σ H { s with heap:=h' }:=I.turned (t':=s.toks) (fun b o hb e=>(sb.2 b hb).trans e) f0 f1 f3 f4 f5
    obtain⟨o,e,c,d⟩:=id st'
    exact⟨u,rfl,go_of (s:={ s with heap:=h' }) e c d (by decide) ⟨x,H,I1,ru,⟨rfl,fun ys hy=>by rw[I.list_inj hy hq];exact hx⟩,st',fun b hb=>(hf b hb).1⟩⟩
  done:=by
    intro X hP hw hK hc i pins s σ H E I hf st hg
    subst hP hw hK
    obtain⟨xs,hq,hx⟩:=hg
    obtain⟨its,rv,p,hz⟩:=I.list hq
    obtain⟨f0,f1,f2,f3,f4,f5⟩:=hf it (by simp)
    have hl:=rv.length
    exact wpAny_pyNext_list_end (I.ok.hd hc) st p.isList (by simp;omega) fun h' eb=>⟨rfl,I.turned (t':=s.toks) (fun b o hb e=>eb b o hb e) f0 f1 f3 f4 f5⟩
  self:=fun _ _ _ _ _ st h=>wpAny_pyIter_listiter st h
theorem turn_tuple {P:Program} {w:World} {K:PySem.W.Frag} {tg:Expr} (a it:Addr):Turn P w K tg (Itt K a) [it] it (fun i h=>h.IsTupleIter it a i) where
  mem:=by simp
  obj:=fun i h st b hb=>by
    have e:b=it:=by simpa using hb
    subst e
    obtain⟨o,e,c,d⟩:=st
    exact⟨o,e,fun v z=>by rw[d] at z;cases z⟩
  keep:=fun i h h' st k=>st.at fun o e=>k it (by simp) o e
  item:=by
    intro X hP hw hK hc i pins s σ H E I hf st hg
    subst hP hw hK
    obtain⟨xs,x,hq,hx⟩:=hg
    obtain⟨its,rv,p,hz⟩:=I.tuple hq
    obtain⟨u,hu,ru⟩:=rv.get hx
    obtain⟨f0,f1,f2,f3,f4,f5⟩:=hf it (by simp)
    refine wpAny_pyNext_tuple_item st (show s.heap.IsTuple a its.toArray from p) (x:=u) (by simpa using hu) fun h' st' sb=>?_
    have I1:Inv X pins σ H { s with heap:=h' }:=I.turned (t':=s.toks) (fun b o hb e=>(sb.2 b hb).trans e) f0 f1 f3 f4 f5
    obtain⟨o,e,c,d⟩:=id st'
    exact⟨u,rfl,go_of (s:={ s with heap:=h' }) e c d (by decide) ⟨x,H,I1,ru,⟨rfl,fun ys hy=>by rw[I.tuple_inj hy hq];exact hx⟩,st',fun b hb=>(hf b hb).1⟩⟩
  done:=by
    intro X hP hw hK hc i pins s σ H E I hf st hg
    subst hP hw hK
    obtain⟨xs,hq,hx⟩:=hg
    obtain⟨its,rv,p,hz⟩:=I.tuple hq
    obtain⟨f0,f1,f2,f3,f4,f5⟩:=hf it (by simp)
    have hl:=rv.length
    exact wpAny_pyNext_tuple_end (I.ok.hd hc) st (show s.heap.IsTuple a its.toArray from p) (by simp;omega) fun h' eb=>⟨rfl,I.turned (t':=s.toks) (fun b o hb e=>eb b o hb e) f0 f1 f3 f4 f5⟩
  self:=fun _ _ _ _ _ st h=>wpAny_pyIter_tupleiter st h
theorem turn_range {P:Program} {w:World} {K:PySem.W.Frag} {tg:Expr} (it:Addr) (lo:Int) (n:Nat):Turn P w K tg (Itr lo n) [it] it (fun i h=>IsRangeIter h it (lo+(i:Nat) * 1) ((n:Int)-(i:Nat)) 1) where
  mem:=by simp
  obj:=fun i h st b hb=>by
    have e:b=it:=by simpa using hb
    subst e
    exact⟨_,st,fun v z=>by
      have z':Data.fields _=Data.cell v:=z
      cases z'⟩
  keep:=fun i h h' st k=>k it (by simp) _ st
  item:=by
    intro X hP hw hK hc i pins s σ H E I hf st hg
    subst hP hw hK
    obtain⟨f0,f1,f2,f3,f4,f5⟩:=hf it (by simp)
    have W:=Walks.range (prog:=X.prog) (w:=X.w) (I.ok.hd hc) it lo 1 n
    refine W.item i s _ _ hg st fun v h' tk hv st' kk=>?_
    obtain⟨t,rfl⟩:=hv
    have I1:Inv X pins σ H { s with heap:=h',toks:=tk }:=I.turned (fun b o hb e=>kk b o (by simpa using hb) e) f0 f1 f3 f4 f5
    refine⟨_,rfl,go_of (s:={ s with heap:=h',toks:=tk }) (n:="range_iterator") st' rfl rfl (by decide) ⟨.int (lo+i),H,I1,⟨t,?_⟩,⟨rfl,rfl⟩,st',fun b hb=>(hf b hb).1⟩⟩
    rw[Int.mul_one]
  done:=by
    intro X hP hw hK hc i pins s σ H E I hf st hg
    subst hP hw hK
    obtain⟨f0,f1,f2,f3,f4,f5⟩:=hf it (by simp)
    exact wpAny_pyNext_range_end (I.ok.hd hc) st (by have : n≤i:=hg;omega) fun h' eb=>⟨rfl,I.turned (t':=s.toks) (fun b o hb e=>eb b o hb e) f0 f1 f3 f4 f5⟩
  self:=fun _ _ _ _ _ st h=>wpAny_pyIter_rangeiter st h
end L2

namespace L2
open PySem PySem.Spec PyProof.Rows
section
variable {X:Cx} {tg:Expr}
def iList (K:PySem.W.Frag) (tl:TE):TI:=fun σ H R=>tl σ H fun x H1=>∃ a,x=.ref a∧(∃ xs,SqL K H1 a xs)∧R (Itl K a) H1
def iTup (K:PySem.W.Frag) (tl:TE):TI:=fun σ H R=>tl σ H fun x H1=>∃ a,x=.ref a∧(∃ xs,SqT K H1 a xs)∧R (Itt K a) H1
theorem pi_list {l:Expr} {tl:TE} (hl:PE X l tl):PI X tg l (iList X.K tl):=by
  intro pins s σ H R I h
  refine thn (hl pins s σ H _ I h) fun v s1 ⟨x,H1,I1,r1,q1⟩=>?_
  obtain⟨a,e,⟨xs,hq⟩,q⟩:=q1
  subst e
  cases r1
  obtain⟨its,rv,p,hz⟩:=I1.list hq
  refine wpAny_pyIter_list p.isList ?_
  refine⟨s1.heap.objs.size,[s1.heap.objs.size],_,_,H1,rfl,I1.kept (t':=s1.toks) fun b o e=>Heap.get?_push_of_some _ e,turn_list a _,⟨_,Heap.get?_push_size _ rfl,rfl,rfl⟩,fun b hb=>?_,q⟩
  have e:b=s1.heap.objs.size:=by simpa using hb
  subst e
  exact I1.fpOk (Nat.le_refl _) (I1.hok.fresh (Nat.le_refl _))
theorem pi_tup {l:Expr} {tl:TE} (hl:PE X l tl):PI X tg l (iTup X.K tl):=by
  intro pins s σ H R I h
  refine thn (hl pins s σ H _ I h) fun v s1 ⟨x,H1,I1,r1,q1⟩=>?_
  obtain⟨a,e,⟨xs,hq⟩,q⟩:=q1
  subst e
  cases r1
  obtain⟨its,rv,p,hz⟩:=I1.tuple hq
  refine wpAny_pyIter_tuple (show s1.heap.IsTuple a its.toArray from p) ?_
  refine⟨s1.heap.objs.size,[s1.heap.objs.size],_,_,H1,rfl,I1.kept (t':=s1.toks) fun b o e=>Heap.get?_push_of_some _ e,turn_tuple a _,⟨_,Heap.get?_push_size _ rfl,rfl,rfl⟩,fun b hb=>?_,q⟩
  have e:b=s1.heap.objs.size:=by simpa using hb
  subst e
  exact I1.fpOk (Nat.le_refl _) (I1.hok.fresh (Nat.le_refl _))
theorem range_it {pins:List (Addr×Obj)} {σ:St} {H:Hp} {s:Shared} {R:It→Hp→Prop} {E:Value→Shared→Prop} {lo hi:Int} {t u v:Tok} {tk:Nat} (I:Inv X pins σ H s) (h1:-(2 ^ 62)≤lo) (h2:lo < 2 ^ 62) (h3:-(2 ^ 62)≤hi) (h4:hi < 2 ^ 62)
    (q:R (Itr lo (hi-lo).toNat) H):wpAny (model X.prog X.w) X.A (pyIter (.ref s.heap.objs.size)) (PIE X pins σ tg R) E { s with heap:=s.heap.push { cls:=.type "range",data:=.fields #[.int lo t,.int hi u,.int 1 v] },toks:=tk }:=by
  refine wpAny_pyIter_range (IsRange.new ..) (small_one h1 h2 h3 h4) ?_
  have I1:Inv X pins σ H { s with heap:=s.heap.push { cls:=.type "range",data:=.fields #[.int lo t,.int hi u,.int 1 v] },toks:=tk }:=I.kept fun b o e=>Heap.get?_push_of_some _ e
  refine⟨(s.heap.push { cls:=.type "range",data:=.fields #[.int lo t,.int hi u,.int 1 v] }).objs.size,[(s.heap.push { cls:=.type "range",data:=.fields #[.int lo t,.int hi u,.int 1 v] }).objs.size],_,_,H,rfl,
    I1.kept (t':=tk) fun b o e=>Heap.get?_push_of_some _ e,turn_range _ lo (hi-lo).toNat,?_,fun b hb=>?_,q⟩
  · have e1:lo+((0:Nat):Int) * 1=lo:=by simp
    have e2:(((hi-lo).toNat:Nat):Int)-((0:Nat):Int)=Builtin.Range.rangeSize lo hi 1:=by rw[rangeSize_one];split <;> omega
    show IsRangeIter _ _ (lo+((0:Nat):Int) * 1) ((((hi-lo).toNat:Nat):Int)-((0:Nat):Int)) 1
    rw[e1,e2]
    exact Heap.get?_push_size _ rfl
  · have e:b=(s.heap.push { cls:=.type "range",data:=.fields #[.int lo t,.int hi u,.int 1 v] }).objs.size:=by simpa using hb
    subst e
    exact I1.fpOk (Nat.le_refl _) (I1.hok.fresh (Nat.le_refl _))
def iRng1 (ta:TA):TI:=fun σ H R=>ta σ H fun vs H1=>∃ j:Int,vs=[.int j]∧-(2 ^ 62)≤j∧j < 2 ^ 62∧R (Itr 0 j.toNat) H1
theorem pi_range1 {a:Expr} {ta:TA} {p pos:Pos} (hg:Gl X "range") (hm:X.mg "range"=none) (ha:PA X [a] ta) (hs:starEach [a] X.env=[(false,eval a X.env)]:=by rfl):PI X tg (.Call (.Name "range" p) [a] [] pos) (iRng1 ta):=by
  intro pins s σ H R I h
  refine Call_ (ld_blt I hg hm boot_range (PyProof.Rows.callWith_type1 (thn (ha pos pins s σ H _ I h) fun us s1 ⟨vs,H1,I1,r1,q1⟩=>?_) hs rfl))
  obtain⟨j,e,q1,q2,q⟩:=q1
  subst e
  cases r1 with
  | cons r rr =>
    cases rr
    obtain⟨t,rfl⟩:=r
    exact call_range_1 (range_it I1 (by omega) (by omega) q1 q2 (by simpa using q))

def tFor (wi:TI) (g:TG) (tb:TS):TS:=fun D σ H=>wi σ H fun J H1=>∃ W:Nat→Nat→St→Hp→Prop,(∃ m,W 0 m σ H1)∧∀ i m σ H,W i m σ H →
  (J.stop i H∧D.nx σ H)∨(J.go i H∧∃ N:St→Hp→Prop,(∀ σ' H',N σ' H'→∃ m',m' < m∧W (i+1) m' σ' H')∧∀ x H',J.yld i H x H'→g x σ H' fun σ2 H2=>tb { D with nx:=N,ct:=N,bk:=D.nx } σ2 H2)
def pinsAt (fp:List Addr) (h:Heap):List (Addr×Obj):=fp.filterMap fun b=>(h.get? b).map fun o=>(b,o)
theorem mem_pinsAt {fp:List Addr} {h:Heap} {b:Addr} {o:Obj} (hb:b∈fp) (e:h.get? b=some o):(b,o)∈pinsAt fp h:=List.mem_filterMap.mpr ⟨b,hb,by rw[e];rfl⟩
theorem of_pinsAt {fp:List Addr} {h:Heap} {p:Addr×Obj} (hp:p∈pinsAt fp h):p.1∈fp∧h.get? p.1=some p.2:=by
  obtain⟨b,hb,e⟩:=List.mem_filterMap.mp hp
  cases q:h.get? b with
  | none=>rw[q] at e;cases e
  | some o =>
    rw[q] at e
    have e':(b,o)=p:=Option.some.inj e
    subst e'
    exact⟨hb,q⟩
theorem Inv.pinned {pins:List (Addr×Obj)} {σ:St} {H:Hp} {s:Shared} {fp:List Addr} (I:Inv X pins σ H s) (hf:∀ b∈fp,FpOk X pins H b) (ho:∀ b∈fp,∃ o,s.heap.get? b=some o∧∀ v,o.data≠.cell v):Inv X (pins++pinsAt fp s.heap) σ H s :=
  I.pins_of fun p hp=>(List.mem_append.mp hp).elim (fun z=>I.pin p (List.mem_append_right _ z)) fun z=>by
    obtain⟨hb,e⟩:=of_pinsAt z
    obtain⟨f0,f1,f2,_⟩:=hf p.1 hb
    obtain⟨o,e',d⟩:=ho p.1 hb
    rw[e] at e';cases e'
    exact⟨e,f0,f1,f2,d⟩
theorem Inv.unpinned {pins pl:List (Addr×Obj)} {σ:St} {H:Hp} {s:Shared} (I:Inv X (pins++pl) σ H s):Inv X pins σ H s:=I.pins_of fun p hp=>I.pin p (List.mem_append_right _ (List.mem_append_left _ hp))
theorem ps_for {iter:Expr} {body:List Stmt} {wi:TI} {g:TG} {tb:TS} {pos:Pos} (hp:PassesOwn (model X.prog X.w) X.A X.env X.xe) (hc:X.calm=true) (hi:PI X tg iter wi) (hg:PG X tg g) (hb:PSs X body tb)
    (hs:∀ x,foldedSetIterable iter X.env x=pure x:=by intro _;rfl):PS X (.For tg iter body [] pos) (tFor wi g tb):=by
  intro pins s σ H D I h
  refine wpAny_For (thn (hi pins s σ H _ I h) fun v s1 h1=>thn h1 fun itv s2 h2=>?_) hs
  obtain⟨it,fp,tn,J,H2,e,I2,T,st2,f2,W,⟨m0,w0⟩,turn⟩:=h2
  subst e
  have stat:∀ {H':Hp},(∀ b∈fp,H' b=none)→∀ b∈fp,FpOk X pins H' b:=fun hn b hb=>⟨hn b hb,(f2 b hb).2⟩
  refine codeAny_forLoop_any (fun n s'=>∃ i σ' H',Inv X pins σ' H' s'∧tn i s'.heap∧(∀ b∈fp,H' b=none)∧W i n σ' H') ?_ m0 ⟨0,σ,H2,I2,st2,fun b hb=>(f2 b hb).1,w0⟩
  rintro n s3 ⟨i,σ3,H3,I3,st3,fr3,w3⟩
  rcases turn i n σ3 H3 w3 with ⟨stop,qn⟩ | ⟨go,N,hN,step⟩
  · refine wpAny_passesOwn hp (thn (T.done X rfl rfl rfl hc i pins s3 σ3 H3 X.xe I3 (stat fr3) st3 stop) fun r s4 ⟨hr,I4⟩=>?_)
    subst hr
    exact wpAny_execs_nil ⟨σ3,H3,I4,qn⟩
  · refine wpAny_passesOwn hp (thn (T.item X rfl rfl rfl hc i pins s3 σ3 H3 X.xe I3 (stat fr3) st3 go) fun r s4 ⟨u,hr,h4⟩=>?_)
    subst hr
    refine wpAny_passesOwn hp (thn h4 fun _ s5 ⟨x,H5,I5,r5,y5,st5,fr5⟩=>?_)
    have I5':=I5.pinned (stat fr5) (T.obj _ _ st5)
    refine wpAny_passesOwn hp (thn (hg _ s5 σ3 H5 x u _ I5' r5 (step x H5 y5)) fun _ s6 ⟨σ6,H6,I6,q6⟩=>?_)
    refine wpAny_passesOwn hp (thn (hb _ s6 σ6 H6 _ I6 q6) fun f s7 q7=>?_)
    have again:∀ {σ7:St} {H7:Hp},Inv X (pins++pinsAt fp s5.heap) σ7 H7 s7→N σ7 H7→∃ m,m < n∧∃ i σ' H',Inv X pins σ' H' s7∧tn i s7.heap∧(∀ b∈fp,H' b=none)∧W i m σ' H':=fun {σ7 H7} I7 n7=>by
      obtain⟨m',hm,w7⟩:=hN σ7 H7 n7
      refine⟨m',hm,i+1,σ7,H7,I7.unpinned,T.keep _ _ _ st5 fun b hb o e=>(I7.pin (b,o) (List.mem_append_right _ (List.mem_append_right _ (mem_pinsAt hb e)))).1,fun b hb=>?_,w7⟩
      obtain⟨o,e,d⟩:=T.obj _ _ st5 b hb
      exact (I7.pin (b,o) (List.mem_append_right _ (List.mem_append_right _ (mem_pinsAt hb e)))).2.1
    cases f with
    | next=>obtain⟨σ7,H7,I7,n7⟩:=q7;exact again I7 n7
    | cont=>obtain⟨σ7,H7,I7,n7⟩:=q7;exact again I7 n7
    | brk=>obtain⟨σ7,H7,I7,q7⟩:=q7;exact⟨σ7,H7,I7.unpinned,q7⟩
    | ret v=>obtain⟨x7,σ7,H7,I7,r7,q7⟩:=q7;exact⟨x7,σ7,H7,I7.unpinned,r7,q7⟩
end

theorem for_list {K:PySem.W.Frag} {a:Addr} {xs:List V} {g:TG} {tb:TS} {D:Ends} {σ:St} {H:Hp} (Pv:Nat→St→Hp→Prop) (h0:Pv 0 σ H) (hl:∀ i σ H,i≤xs.length→Pv i σ H→SqL K H a xs)
    (hs:∀ i x σ H,xs[i]?=some x→Pv i σ H→g x σ H fun σ2 H2=>tb { D with nx:=Pv (i+1),ct:=Pv (i+1),bk:=D.nx } σ2 H2) (hd:∀ σ H,Pv xs.length σ H→D.nx σ H) :
    ∃ W:Nat→Nat→St→Hp→Prop,(∃ m,W 0 m σ H)∧∀ i m σ H,W i m σ H →
      ((Itl K a).stop i H∧D.nx σ H)∨((Itl K a).go i H∧∃ N:St→Hp→Prop,(∀ σ' H',N σ' H'→∃ m',m' < m∧W (i+1) m' σ' H')∧∀ x H',(Itl K a).yld i H x H'→g x σ H' fun σ2 H2=>tb { D with nx:=N,ct:=N,bk:=D.nx } σ2 H2):=by
  refine⟨fun i m σ H=>m=xs.length-i∧i≤xs.length∧Pv i σ H,⟨xs.length,by simp,Nat.zero_le _,h0⟩,?_⟩
  rintro i m σ H ⟨rfl,hi,p⟩
  have q:=hl i σ H hi p
  by_cases hlt:i < xs.length
  · refine .inr ⟨⟨xs,xs[i],q,by simp[hlt]⟩,Pv (i+1),fun σ' H' p'=>⟨xs.length-(i+1),by omega,rfl,hlt,p'⟩,fun x H' y=>?_⟩
    obtain⟨e,y⟩:=y
    subst e
    exact hs i x σ _ (y xs q) p
  · have e:i=xs.length:=by omega
    subst e
    exact .inl ⟨⟨xs,q,Nat.le_refl _⟩,hd σ H p⟩
theorem for_tup {K:PySem.W.Frag} {a:Addr} {xs:List V} {g:TG} {tb:TS} {D:Ends} {σ:St} {H:Hp} (Pv:Nat→St→Hp→Prop) (h0:Pv 0 σ H) (hl:∀ i σ H,i≤xs.length→Pv i σ H→SqT K H a xs)
    (hs:∀ i x σ H,xs[i]?=some x→Pv i σ H→g x σ H fun σ2 H2=>tb { D with nx:=Pv (i+1),ct:=Pv (i+1),bk:=D.nx } σ2 H2) (hd:∀ σ H,Pv xs.length σ H→D.nx σ H) :
    ∃ W:Nat→Nat→St→Hp→Prop,(∃ m,W 0 m σ H)∧∀ i m σ H,W i m σ H →
      ((Itt K a).stop i H∧D.nx σ H)∨((Itt K a).go i H∧∃ N:St→Hp→Prop,(∀ σ' H',N σ' H'→∃ m',m' < m∧W (i+1) m' σ' H')∧∀ x H',(Itt K a).yld i H x H'→g x σ H' fun σ2 H2=>tb { D with nx:=N,ct:=N,bk:=D.nx } σ2 H2):=by
  refine⟨fun i m σ H=>m=xs.length-i∧i≤xs.length∧Pv i σ H,⟨xs.length,by simp,Nat.zero_le _,h0⟩,?_⟩
  rintro i m σ H ⟨rfl,hi,p⟩
  have q:=hl i σ H hi p
  by_cases hlt:i < xs.length
  · refine .inr ⟨⟨xs,xs[i],q,by simp[hlt]⟩,Pv (i+1),fun σ' H' p'=>⟨xs.length-(i+1),by omega,rfl,hlt,p'⟩,fun x H' y=>?_⟩
    obtain⟨e,y⟩:=y
    subst e
    exact hs i x σ _ (y xs q) p
  · have e:i=xs.length:=by omega
    subst e
    exact .inl ⟨⟨xs,q,Nat.le_refl _⟩,hd σ H p⟩
theorem for_range {lo:Int} {n:Nat} {g:TG} {tb:TS} {D:Ends} {σ:St} {H:Hp} (Pv:Nat→St→Hp→Prop) (h0:Pv 0 σ H)
    (hs:∀ i σ H,i < n→Pv i σ H→g (.int (lo+i)) σ H fun σ2 H2=>tb { D with nx:=Pv (i+1),ct:=Pv (i+1),bk:=D.nx } σ2 H2) (hd:∀ σ H,Pv n σ H→D.nx σ H) :
    ∃ W:Nat→Nat→St→Hp→Prop,(∃ m,W 0 m σ H)∧∀ i m σ H,W i m σ H →
      ((Itr lo n).stop i H∧D.nx σ H)∨((Itr lo n).go i H∧∃ N:St→Hp→Prop,(∀ σ' H',N σ' H'→∃ m',m' < m∧W (i+1) m' σ' H')∧∀ x H',(Itr lo n).yld i H x H'→g x σ H' fun σ2 H2=>tb { D with nx:=N,ct:=N,bk:=D.nx } σ2 H2):=by
  refine⟨fun i m σ H=>m=n-i∧i≤n∧Pv i σ H,⟨n,by simp,Nat.zero_le _,h0⟩,?_⟩
  rintro i m σ H ⟨rfl,hi,p⟩
  by_cases hlt:i < n
  · refine .inr ⟨hlt,Pv (i+1),fun σ' H' p'=>⟨n-(i+1),by omega,rfl,hlt,p'⟩,fun x H' y=>?_⟩
    obtain⟨e,y⟩:=y
    subst e y
    exact hs i σ _ hlt p
  · have e:i=n:=by omega
    subst e
    exact .inl ⟨Nat.le_refl _,hd σ H p⟩
end L2

namespace L2
open PySem PySem.Spec PyProof.Rows

abbrev R2:=V→V→Hp→VK→Prop
def OpR (X:Cx) (f:Value→Value→Sem Value) (r:R2):Prop :=
  ∀ (pins:List (Addr×Obj)) (s:Shared) (σ:St) (H:Hp) (x y:V) (v u:Value) (Q:VK),Inv X pins σ H s→RelV x v→RelV y u→r x y H Q →
    wpAny (model X.prog X.w) X.A (f v u) (EP X pins σ Q) X.xe s
def UnR (X:Cx) (f:Value→Sem Value) (r:V→Hp→VK→Prop):Prop :=
  ∀ (pins:List (Addr×Obj)) (s:Shared) (σ:St) (H:Hp) (x:V) (v:Value) (Q:VK),Inv X pins σ H s→RelV x v→r x H Q →
    wpAny (model X.prog X.w) X.A (f v) (EP X pins σ Q) X.xe s
def CallR (X:Cx) (f:Value) (r:List V→Hp→VK→Prop):Prop :=
  ∀ (pins:List (Addr×Obj)) (s:Shared) (σ:St) (H:Hp) (xs:List V) (us:List Value) (Q:VK),Inv X pins σ H s→Vals xs us→r xs H Q →
    wpAny (model X.prog X.w) X.A (call f us) (EP X pins σ Q) X.xe s
def TruR (X:Cx) (r:V→Hp→(Bool→Hp→Prop)→Prop):Prop :=
  ∀ (pins:List (Addr×Obj)) (s:Shared) (σ:St) (H:Hp) (x:V) (v:Value) (Q:Bool→Hp→Prop),Inv X pins σ H s→RelV x v→r x H Q →
    wpAny (model X.prog X.w) X.A (truthy v) (TP X pins σ Q) X.xe s

def tOp (r:R2) (ta tb:TE):TE:=fun σ H Q=>ta σ H fun x H1=>tb σ H1 fun y H2=>r x y H2 Q
def tUn (r:V→Hp→VK→Prop) (ta:TE):TE:=fun σ H Q=>ta σ H fun x H1=>r x H1 Q
def rI (C:Int→Int→Prop) (g:Int→Int→V):R2:=fun x y H Q=>∃ i j,x=.int i∧y=.int j∧C i j∧Q (g i j) H
def rI0 (g:Int→Int→V):R2:=fun x y H Q=>∃ i j,x=.int i∧y=.int j∧Q (g i j) H
def rU (g:Int→V):V→Hp→VK→Prop:=fun x H Q=>∃ i,x=.int i∧Q (g i) H

section
variable {X:Cx} {a b c:Expr} {ta tb tc:TE} {pos:Pos}

theorem binT (ha:PE X a ta) (hb:PE X b tb) {pins:List (Addr×Obj)} {s:Shared} {σ:St} {H:Hp} {R:V→V→Hp→Prop} (I:Inv X pins σ H s)
    (h:ta σ H fun x H1=>tb σ H1 fun y H2=>R x y H2) {Q:Value→Shared→Prop} {f:Value→Value→Sem Value}
    (hf:∀ v u s2 x y H2,Inv X pins σ H2 s2→RelV x v→RelV y u→R x y H2→wpAny (model X.prog X.w) X.A (f v u) Q X.xe s2) :
    wpAny (model X.prog X.w) X.A (eval a X.env) (fun v s₁=>wpAny (model X.prog X.w) X.A (eval b X.env) (fun u s₂=>wpAny (model X.prog X.w) X.A (f v u) Q X.xe s₂) X.xe s₁) X.xe s:=by
  refine thn (ha pins s σ H _ I h) fun v s1 ⟨x,H1,I1,r1,q1⟩=>?_
  refine thn (hb pins s1 σ H1 _ I1 q1) fun u s2 ⟨y,H2,I2,r2,q2⟩=>?_
  exact hf v u s2 x y H2 I2 r1 r2 q2

theorem pe_op {op:Operator} {r:R2} (ho:OpR X (binaryOp op) r) (ha:PE X a ta) (hb:PE X b tb):PE X (.BinOp a op b pos) (tOp r ta tb):=by
  intro pins s σ H Q I h
  exact wpAny_BinOp (binT ha hb I h fun v u s2 x y H2 I2 rx ry q=>ho pins s2 σ H2 x y v u Q I2 rx ry q)
theorem pe_un {op:UnaryOp} {r:V→Hp→VK→Prop} (ho:UnR X (unaryOp op) r) (ha:PE X a ta):PE X (.UnaryOp op a pos) (tUn r ta):=by
  intro pins s σ H Q I h
  exact UnaryOp_ (thn (ha pins s σ H _ I h) fun v s1 ⟨x,H1,I1,r1,q1⟩=>ho pins s1 σ H1 x v Q I1 r1 q1)

theorem opI {f:Value→Value→Sem Value} {C:Int→Int→Prop} {g:Int→Int→Int}
    (rule:∀ (i j:Int) (t u:Tok) (s:Shared) (Q:Value→Shared→Prop) (E:Value→Shared→Prop),C i j→Q (.int (g i j) s.toks) { s with toks:=s.toks+1 }→wpAny (model X.prog X.w) X.A (f (.int i t) (.int j u)) Q E s) :
    OpR X f (rI C fun i j=>.int (g i j)):=by
  intro pins s σ H x y v u Q I rx ry h
  obtain⟨i,j,rfl,rfl,hc,q⟩:=h
  obtain⟨t,rfl⟩:=rx
  obtain⟨t',rfl⟩:=ry
  exact rule i j t t' s _ _ hc ⟨.int (g i j),H,I.tok _,⟨_,rfl⟩,q⟩
theorem opI0 {f:Value→Value→Sem Value} {g:Int→Int→Int}
    (rule:∀ (i j:Int) (t u:Tok) (s:Shared) (Q:Value→Shared→Prop) (E:Value→Shared→Prop),Q (.int (g i j) s.toks) { s with toks:=s.toks+1 }→wpAny (model X.prog X.w) X.A (f (.int i t) (.int j u)) Q E s) :
    OpR X f (rI0 fun i j=>.int (g i j)):=by
  intro pins s σ H x y v u Q I rx ry h
  obtain⟨i,j,rfl,rfl,q⟩:=h
  obtain⟨t,rfl⟩:=rx
  obtain⟨t',rfl⟩:=ry
  exact rule i j t t' s _ _ ⟨.int (g i j),H,I.tok _,⟨_,rfl⟩,q⟩
theorem opB0 {f:Value→Value→Sem Value} {g:Int→Int→Bool}
    (rule:∀ (i j:Int) (t u:Tok) (s:Shared) (Q:Value→Shared→Prop) (E:Value→Shared→Prop),Q (.bool (g i j)) s→wpAny (model X.prog X.w) X.A (f (.int i t) (.int j u)) Q E s) :
    OpR X f (rI0 fun i j=>.bl (g i j)):=by
  intro pins s σ H x y v u Q I rx ry h
  obtain⟨i,j,rfl,rfl,q⟩:=h
  obtain⟨t,rfl⟩:=rx
  obtain⟨t',rfl⟩:=ry
  exact rule i j t t' s _ _ ⟨.bl (g i j),H,I,rfl,q⟩

def CDiv (i j:Int):Prop:=0 < j∧j < 1073741824
def CPow (i j:Int):Prop:=0≤j∧j≤1000000∧i.natAbs < 2 ^ 64
def CMul (i j:Int):Prop:=(-(2 ^ 64) < i∧i < 2 ^ 64)∨(-(2 ^ 64) < j∧j < 2 ^ 64)
theorem CMul.ok {i j:Int} (h:CMul i j):IntMulOk i j:=by
  rcases h with ⟨h1,h2⟩ | ⟨h1,h2⟩
  · exact .of_left (intBits_le_64 h1 h2)
  · exact .of_right (intBits_le_64 h1 h2)

theorem op_add:OpR X (binaryOp .Add) (rI0 fun i j=>.int (i+j)):=opI0 fun _ _ _ _ _ _ _ q=>add_int q
theorem op_sub:OpR X (binaryOp .Sub) (rI0 fun i j=>.int (i-j)):=opI0 fun _ _ _ _ _ _ _ q=>sub_int q
theorem op_mul:OpR X (binaryOp .Mult) (rI CMul fun i j=>.int (i * j)):=opI fun _ _ _ _ _ _ _ hc q=>mul_int q hc.ok
theorem op_fdiv:OpR X (binaryOp .FloorDiv) (rI CDiv fun i j=>.int (i / j)):=opI fun i j _ _ _ _ _ hc q=>by
  have h1:(0:Int) < j:=hc.1
  have h2:j < 1073741824:=hc.2
  exact floordiv_int (by omega) (by rw[Int.fdiv_eq_ediv_of_nonneg i (by omega)];exact q) (.inl (PyProof.noPylong_small (by omega)))
theorem op_mod:OpR X (binaryOp .Mod) (rI (fun _ j=>0 < j) fun i j=>.int (i % j)):=opI fun i j _ _ _ _ _ hc q=>by
  have h1:(0:Int) < j:=hc
  exact mod_int' (by omega) (by rw[Int.fmod_eq_emod_of_nonneg i (by omega)];exact q)
theorem op_pow:OpR X (binaryOp .Pow) (rI CPow fun i j=>.int (i ^ j.toNat)):=opI fun _ _ _ _ _ _ _ hc q=>pow_int_small hc.1 hc.2.1 hc.2.2 q


theorem unI {f:Value→Sem Value} {g:Int→Int}
    (rule:∀ (i:Int) (t:Tok) (s:Shared) (Q:Value→Shared→Prop) (E:Value→Shared→Prop),Q (.int (g i) s.toks) { s with toks:=s.toks+1 }→wpAny (model X.prog X.w) X.A (f (.int i t)) Q E s) :
    UnR X f (rU fun i=>.int (g i)):=by
  intro pins s σ H x v Q I rx h
  obtain⟨i,rfl,q⟩:=h
  obtain⟨t,rfl⟩:=rx
  exact rule i t s _ _ ⟨.int (g i),H,I.tok _,⟨_,rfl⟩,q⟩
theorem un_neg:UnR X (unaryOp .USub) (rU fun i=>.int (-i)):=unI fun _ _ _ _ _ q=>neg_int q

end

def scal:V→V→Bool
  | .non,.non=>true | .non,.int _=>true | .int _,.non=>true | .non,.bl _=>true | .bl _,.non=>true | .non,.str _=>true | .str _,.non=>true
  | .int _,.int _=>true | .bl _,.bl _=>true | .str _,.str _=>true | .byt _,.byt _=>true
  | .int _,.str _=>true | .str _,.int _=>true | .bl _,.str _=>true | .str _,.bl _=>true
  | _,_=>false
def rEq:R2:=fun x y H Q=>scal x y=true∧Q (.bl (decide (x=y))) H
def rNe:R2:=fun x y H Q=>scal x y=true∧Q (.bl (!decide (x=y))) H

theorem dec_int {i j:Int}:decide (V.int i=V.int j)=(i == j):=by
  rw[Bool.eq_iff_iff]
  simp
theorem dec_bl {i j:Bool}:decide (V.bl i=V.bl j)=(i == j):=by
  rw[Bool.eq_iff_iff]
  simp
theorem dec_str {i j:Str}:decide (V.str i=V.str j)=(i == j):=by
  rw[Bool.eq_iff_iff]
  simp
theorem dec_byt {i j:Array UInt8}:decide (V.byt i=V.byt j)=(i.toList == j.toList):=by
  rw[Bool.eq_iff_iff]
  cases i
  cases j
  simp

section
variable {X:Cx} {a b c:Expr} {ta tb tc:TE} {pos:Pos}
theorem fin_bl {pins:List (Addr×Obj)} {σ:St} {H:Hp} {s:Shared} {Q:VK} {k k':Bool} (I:Inv X pins σ H s) (q:Q (.bl k) H) (e:k=k'):EP X pins σ Q (.bool k') s:=by
  subst e
  exact⟨.bl k,H,I,rfl,q⟩
theorem op_eq:OpR X (compareOp .Eq) rEq:=by
  intro pins s σ H x y v u Q I rx ry h
  obtain⟨hs,q⟩:=h
  cases x with
  | non =>
    cases rx
    cases y with
    | non=>cases ry;exact PySem.EqNone.eq_none_none (fin_bl I q (by simp))
    | bl j=>cases ry;exact PySem.EqNone.eq_none_bool (fin_bl I q (by simp))
    | int j=>obtain⟨t',rfl⟩:=ry;exact PySem.EqNone.eq_none_int (fin_bl I q (by simp))
    | str j=>obtain⟨t',rfl⟩:=ry;exact PySem.EqNone.eq_none_str (fin_bl I q (by simp))
    | _=>exact absurd (show false=true from hs) Bool.false_ne_true
  | bl i =>
    cases rx
    cases y with
    | non=>cases ry;exact PySem.EqNone.eq_bool_none (fin_bl I q (by simp))
    | bl j=>cases ry;exact eq_bool (fin_bl I q dec_bl)
    | str j=>obtain⟨t',rfl⟩:=ry;exact PySem.EqMixed.eq_bool_str (fin_bl I q (by simp))
    | _=>exact absurd (show false=true from hs) Bool.false_ne_true
  | int i =>
    obtain⟨t,rfl⟩:=rx
    cases y with
    | non=>cases ry;exact PySem.EqNone.eq_int_none (fin_bl I q (by simp))
    | int j=>obtain⟨t',rfl⟩:=ry;exact eq_int (fin_bl I q dec_int)
    | str j=>obtain⟨t',rfl⟩:=ry;exact PySem.EqMixed.eq_int_str (fin_bl I q (by simp))
    | _=>exact absurd (show false=true from hs) Bool.false_ne_true
  | str i =>
    obtain⟨t,rfl⟩:=rx
    cases y with
    | non=>cases ry;exact PySem.EqNone.eq_str_none (fin_bl I q (by simp))
    | bl j=>cases ry;exact PySem.EqMixed.eq_str_bool (fin_bl I q (by simp))
    | int j=>obtain⟨t',rfl⟩:=ry;exact PySem.EqMixed.eq_str_int (fin_bl I q (by simp))
    | str j=>obtain⟨t',rfl⟩:=ry;exact eq_str (fin_bl I q dec_str)
    | _=>exact absurd (show false=true from hs) Bool.false_ne_true
  | byt i =>
    obtain⟨t,rfl⟩:=rx
    cases y with
    | byt j=>obtain⟨t',rfl⟩:=ry;exact PySem.W.eq_bytes (fin_bl I q dec_byt)
    | _=>exact absurd (show false=true from hs) Bool.false_ne_true
  | _=>cases y <;> exact absurd (show false=true from hs) Bool.false_ne_true
theorem op_ne:OpR X (compareOp .NotEq) rNe:=by
  intro pins s σ H x y v u Q I rx ry h
  obtain⟨hs,q⟩:=h
  cases x with
  | non =>
    cases rx
    cases y with
    | non=>cases ry;exact PySem.EqNone.ne_none_none (fin_bl I q (by simp))
    | bl j=>cases ry;exact PySem.EqNone.ne_none_bool (fin_bl I q (by simp))
    | int j=>obtain⟨t',rfl⟩:=ry;exact PySem.EqNone.ne_none_int (fin_bl I q (by simp))
    | str j=>obtain⟨t',rfl⟩:=ry;exact PySem.EqNone.ne_none_str (fin_bl I q (by simp))
    | _=>exact absurd (show false=true from hs) Bool.false_ne_true
  | bl i =>
    cases rx
    cases y with
    | non=>cases ry;exact PySem.EqNone.ne_bool_none (fin_bl I q (by simp))
    | bl j=>cases ry;exact ne_bool (fin_bl I q (congrArg not dec_bl))
    | str j=>obtain⟨t',rfl⟩:=ry;exact PySem.EqMixed.ne_bool_str (fin_bl I q (by simp))
    | _=>exact absurd (show false=true from hs) Bool.false_ne_true
  | int i =>
    obtain⟨t,rfl⟩:=rx
    cases y with
    | non=>cases ry;exact PySem.EqNone.ne_int_none (fin_bl I q (by simp))
    | int j=>obtain⟨t',rfl⟩:=ry;exact ne_int (fin_bl I q (congrArg not dec_int))
    | str j=>obtain⟨t',rfl⟩:=ry;exact PySem.EqMixed.ne_int_str (fin_bl I q (by simp))
    | _=>exact absurd (show false=true from hs) Bool.false_ne_true
  | str i =>
    obtain⟨t,rfl⟩:=rx
    cases y with
    | non=>cases ry;exact PySem.EqNone.ne_str_none (fin_bl I q (by simp))
    | bl j=>cases ry;exact PySem.EqMixed.ne_str_bool (fin_bl I q (by simp))
    | int j=>obtain⟨t',rfl⟩:=ry;exact PySem.EqMixed.ne_str_int (fin_bl I q (by simp))
    | str j=>obtain⟨t',rfl⟩:=ry;exact ne_str (fin_bl I q (congrArg not dec_str))
    | _=>exact absurd (show false=true from hs) Bool.false_ne_true
  | byt i =>
    obtain⟨t,rfl⟩:=rx
    cases y with
    | byt j=>obtain⟨t',rfl⟩:=ry;exact PySem.W.ne_bytes (fin_bl I q (congrArg not dec_byt))
    | _=>exact absurd (show false=true from hs) Bool.false_ne_true
  | _=>cases y <;> exact absurd (show false=true from hs) Bool.false_ne_true

theorem op_lt:OpR X (compareOp .Lt) (rI0 fun i j=>.bl (decide (i < j))):=opB0 fun _ _ _ _ _ _ _ q=>lt_int q
theorem op_le:OpR X (compareOp .LtE) (rI0 fun i j=>.bl (decide (i≤j))):=opB0 fun _ _ _ _ _ _ _ q=>le_int q
theorem op_gt:OpR X (compareOp .Gt) (rI0 fun i j=>.bl (decide (j < i))):=opB0 fun _ _ _ _ _ _ _ q=>gt_int q




theorem nomark (b:Expr) {op:CmpOp} (h:op≠.In:=by decide) (h2:op≠.NotIn:=by decide):behindInMarks op b=false:=by
  have e1:(op == CmpOp.In)=false:=by cases op <;> first | rfl | exact absurd rfl h
  have e2:(op == CmpOp.NotIn)=false:=by cases op <;> first | rfl | exact absurd rfl h2
  cases b <;> simp[behindInMarks,e1,e2]
theorem pe_cmpR {op:CmpOp} {r:R2} (ho:OpR X (compareOp op) r) (ha:PE X a ta) (hb:PE X b tb) (hm:behindInMarks op b=false):PE X (.Compare a [op] [b] pos) (tOp r ta tb):=by
  intro pins s σ H Q I h
  exact wpAny_Compare1 (binT ha hb I h fun v u s2 x y H2 I2 rx ry q=>ho pins s2 σ H2 x y v u Q I2 rx ry q) hm
def tTest (t:TE):TT:=fun σ H Q=>t σ H fun x H'=>∃ k,x=.bl k∧Q k H'
theorem pt_cmpR {op:CmpOp} {r:R2} (ho:OpR X (compareOp op) r) (ha:PE X a ta) (hb:PE X b tb) (hm:behindInMarks op b=false):PT X (.Compare a [op] [b] pos) (tTest (tOp r ta tb)):=by
  intro pins s σ H Q I h
  refine wpAny_isTrue_Compare1 (thn (ha pins s σ H _ I h) fun v s1 ⟨x,H1,I1,r1,q1⟩=>thn (hb pins s1 σ H1 _ I1 q1) fun u s2 ⟨y,H2,I2,r2,q2⟩ =>
    thn (ho pins s2 σ H2 x y v u _ I2 r1 r2 q2) fun c s3 ⟨z,H3,I3,r3,k,e,q3⟩=>?_) hm
  subst e
  cases r3
  exact wpAny_truthy_bool ⟨H3,I3,q3⟩
def tChain (r r':R2) (ta tb tc:TE):TE:=fun σ H Q=>ta σ H fun x H1=>tb σ H1 fun y H2=>r x y H2 fun z H3=>∃ k,z=.bl k ∧
  (if k=true then tc σ H3 fun w' H4=>r' y w' H4 Q else Q (.bl false) H3)
theorem pe_chain {op op':CmpOp} {r r':R2} (ho:OpR X (compareOp op) r) (ho':OpR X (compareOp op') r') (ha:PE X a ta) (hb:PE X b tb) (hc:PE X c tc)
    (hm:lastMarks [op,op'] [b,c]=false:=by with_unfolding_all rfl):PE X (.Compare a [op,op'] [b,c] pos) (tChain r r' ta tb tc):=by
  intro pins s σ H Q I h
  refine Compare_chain (thn (ha pins s σ H _ I h) fun v s1 ⟨x,H1,I1,r1,q1⟩=>chain_link (thn (hb pins s1 σ H1 _ I1 q1) fun u s2 ⟨y,H2,I2,r2,q2⟩ =>
    thn (ho pins s2 σ H2 x y v u _ I2 r1 r2 q2) fun d s3 ⟨z,H3,I3,r3,k,e,q3⟩=>?_)) hm
  subst e
  cases r3
  refine wpAny_truthy_bool ?_
  cases k with
  | false=>exact ite_ff ⟨.bl false,H3,I3,rfl,q3⟩
  | true=>exact ite_tt (chain_last (thn (hc pins s3 σ H3 _ I3 q3) fun w' s4 ⟨z',H4,I4,r4,q4⟩=>ho' pins s4 σ H4 y z' u w' Q I4 r2 r4 q4))
theorem pt_chain {op op':CmpOp} {r r':R2} (ho:OpR X (compareOp op) r) (ho':OpR X (compareOp op') r') (ha:PE X a ta) (hb:PE X b tb) (hc:PE X c tc)
    (hm:lastMarks [op,op'] [b,c]=false:=by with_unfolding_all rfl):PT X (.Compare a [op,op'] [b,c] pos) (tTest (tChain r r' ta tb tc)):=by
  intro pins s σ H Q I h
  refine isTrue_chain (thn (ha pins s σ H _ I h) fun v s1 ⟨x,H1,I1,r1,q1⟩=>test_link (thn (hb pins s1 σ H1 _ I1 q1) fun u s2 ⟨y,H2,I2,r2,q2⟩ =>
    thn (ho pins s2 σ H2 x y v u _ I2 r1 r2 q2) fun d s3 ⟨z,H3,I3,r3,k,e,q3⟩=>?_)) hm
  subst e
  cases r3
  refine wpAny_truthy_bool ?_
  cases k with
  | false =>
    obtain⟨k',e',q'⟩:=q3
    cases e'
    exact ite_ff ⟨H3,I3,q'⟩
  | true =>
    refine ite_tt (test_last (thn (hc pins s3 σ H3 _ I3 q3) fun w' s4 ⟨z',H4,I4,r4,q4⟩=>thn (ho' pins s4 σ H4 y z' u w' _ I4 r2 r4 q4) fun d' s5 ⟨z2,H5,I5,r5,k2,e2,q5⟩=>?_))
    subst e2
    cases r5
    exact wpAny_truthy_bool ⟨H5,I5,q5⟩

def TruV (K:PySem.W.Frag) (x:V) (H:Hp) (k:Bool):Prop :=
  match x with
  | .non=>k=false
  | .bl b=>k=b
  | .int i=>k=(i != 0)
  | .str y=>y.length≤sizeLine∧k=((y.length:Int) != 0)
  | .byt y=>y.size≤sizeLine∧k=((y.size:Int) != 0)
  | .ref p=>(∃ xs,SqL K H p xs∧k=!xs.isEmpty)∨(∃ xs,SqT K H p xs∧k=!xs.isEmpty)∨∃ kvs,H p=some (.dK kvs)∧k=!kvs.isEmpty
  | _=>False
theorem isEmpty_kv {κ:Type} {kvs:List (κ×V)} {vs:List (κ×Value)} (r:KV kvs vs):(!vs.isEmpty)=!kvs.isEmpty:=by
  cases r <;> rfl
theorem isEmpty_of {xs:List V} {its:List Value} (r:Vals xs its):(!its.toArray.isEmpty)=!xs.isEmpty:=by
  cases r <;> simp
theorem line63:(sizeLine:Nat) < 2 ^ 63:=by rw[sizeLine_eq];decide
theorem tru_ok:TruR X (fun x H Q=>∃ k,TruV X.K x H k∧Q k H):=by
  intro pins s σ H x v Q I rx h
  obtain⟨k,e,q⟩:=h
  have hl:=line63
  have hs:sizeLine=16777216:=sizeLine_eq
  cases x with
  | non =>
    cases rx
    have e':k=false:=e
    subst e'
    exact truthy_none ⟨H,I,q⟩
  | bl b =>
    cases rx
    have e':k=b:=e
    subst e'
    exact wpAny_truthy_bool ⟨H,I,q⟩
  | int i =>
    obtain⟨t,rfl⟩:=rx
    have e':k=(i != 0):=e
    subst e'
    exact PySem.P.truthy_int ⟨H,I,q⟩
  | str y =>
    obtain⟨t,rfl⟩:=rx
    obtain⟨hy,e'⟩:y.length≤sizeLine∧k=((y.length:Int) != 0):=e
    subst e'
    exact PySem.P.truthy_str (by omega) ⟨H,I.tok _,q⟩
  | byt y =>
    obtain⟨t,rfl⟩:=rx
    obtain⟨hy,e'⟩:y.size≤sizeLine∧k=((y.size:Int) != 0):=e
    subst e'
    exact PySem.W.truthy_bytes (by omega) ⟨H,I.tok _,q⟩
  | ref p =>
    cases rx
    have e':(∃ xs,SqL X.K H p xs∧k=!xs.isEmpty)∨(∃ xs,SqT X.K H p xs∧k=!xs.isEmpty)∨∃ kvs,H p=some (.dK kvs)∧k=!kvs.isEmpty:=e
    rcases e' with ⟨xs,hx,e'⟩ | ⟨xs,hx,e'⟩ | ⟨kvs,hx,e'⟩
    · subst e'
      obtain⟨its,r,pl,hz⟩:=I.list hx
      have hlen:=r.length
      exact wpAny_truthy_list pl.isList (by simp only[List.size_toArray];omega) ⟨H,I.tok _,by rw[isEmpty_of r];exact q⟩
    · subst e'
      obtain⟨its,r,pl,hz⟩:=I.tuple hx
      have hlen:=r.length
      exact truthy_tuple pl (by simp only[List.size_toArray];omega) ⟨H,I.tok _,by rw[isEmpty_of r];exact q⟩
    · subst e'
      obtain⟨hz,hS,vs,r,m⟩:kvs.length≤sizeLine∧(p == sysModules)=false∧∃ vs,KV kvs vs∧s.heap.DictOf (mixKind X.prog X.w) p vs:=I.hok p _ hx
      have hlen:kvs.length=vs.length:=Paired.length r
      exact wpAny_truthy_dict hS m (by omega) ⟨H,I.tok _,by rw[isEmpty_kv r];exact q⟩
  | _=>exact (show False from e).elim
theorem pt_truth (ha:PE X a ta) (he:∀ whole,isTrue a X.env whole=(do let v ← whole;standAt a.pos;holding [v] (truthy v))) :
    PT X a (fun σ H Q=>ta σ H fun x H'=>∃ k,TruV X.K x H' k∧Q k H'):=by
  intro pins s σ H Q I h
  exact isTrue_plain (thn (ha pins s σ H _ I h) fun v s1 ⟨x,H1,I1,r1,q1⟩=>tru_ok pins s1 σ H1 x v Q I1 r1 q1) (he _)

theorem op_add_str:OpR X (binaryOp .Add) (fun x y H Q=>∃ i j,x=.str i∧y=.str j∧i.length+j.length≤sizeLine∧Q (.str (i++j)) H):=by
  intro pins s σ H x y v u Q I rx ry h
  obtain⟨i,j,rfl,rfl,hz,q⟩:=h
  obtain⟨t,rfl⟩:=rx
  obtain⟨t',rfl⟩:=ry
  exact add_str (fun t' tk=>⟨.str (i++j),H,I.tok _,⟨_,rfl⟩,q⟩) hz


theorem vals1 {x:V} {us:List Value} (r:Vals [x] us):∃ u,us=[u]∧RelV x u:=by
  cases r with
  | cons r1 r2=>cases r2;exact⟨_,rfl,r1⟩
theorem vals2 {x y:V} {us:List Value} (r:Vals [x,y] us):∃ u w',us=[u,w']∧RelV x u∧RelV y w':=by
  cases r with
  | cons r1 r2 =>
    cases r2 with
    | cons r3 r4=>cases r4;exact⟨_,_,rfl,r1,r3⟩
theorem call_max2 (hc:X.calm=true):CallR X (.builtin "max") (fun xs H Q=>∃ i j,xs=[.int i,.int j]∧Q (.int (if j > i then j else i)) H):=by
  intro pins s σ H xs us Q I r h
  obtain⟨i,j,rfl,q⟩:=h
  obtain⟨u,w',rfl,⟨t,rfl⟩,⟨t',rfl⟩⟩:=vals2 r
  refine max_two_ints (I.ok.hd hc) fun h' tk k=>⟨_,H,I.kept k,?_,q⟩
  by_cases hj:j > i
  · rw[if_pos hj,if_pos hj];exact⟨_,rfl⟩
  · rw[if_neg hj,if_neg hj];exact⟨_,rfl⟩
theorem call_min2 (hc:X.calm=true):CallR X (.builtin "min") (fun xs H Q=>∃ i j,xs=[.int i,.int j]∧Q (.int (if j < i then j else i)) H):=by
  intro pins s σ H xs us Q I r h
  obtain⟨i,j,rfl,q⟩:=h
  obtain⟨u,w',rfl,⟨t,rfl⟩,⟨t',rfl⟩⟩:=vals2 r
  refine min_two_ints (I.ok.hd hc) fun h' tk k=>⟨_,H,I.kept k,?_,q⟩
  by_cases hj:j < i
  · rw[if_pos hj,if_pos hj];exact⟨_,rfl⟩
  · rw[if_neg hj,if_neg hj];exact⟨_,rfl⟩
end
end L2

namespace L2
open PySem PySem.Spec PyProof.Rows

structure ObjM (h:Heap) (x dx C:Addr) (mA:Str→Option Value):Prop where
  obj:h.get? x=some (PySem.W.instObj C dx)
  ns:h.Ns1 dx mA
  ne:dx≠x

theorem lookIn_ns {h:Heap} {dx:Addr} {mA:Str→Option Value} (n:h.Ns1 dx mA):∃ od,h.get? dx=some od∧∀ name,PySem.W.lookIn name od=some (mA name):=by
  obtain⟨o,es,ep,ho,hd,hk,_,hm⟩:=n
  refine⟨o,ho,fun name=>?_⟩
  have e:=hm name
  unfold nsFind findBy at e
  rw[← Array.find?_toList] at e
  unfold PySem.W.lookIn
  rw[hd]
  dsimp only
  split
  · rename_i y q
    rw[q] at e
    exact congrArg some e
  · rename_i q
    rw[q] at e
    have a:es.toList.any (·.refKey)=false:=by
      rw[List.any_eq_false]
      intro y hy
      obtain⟨z,t,hkey⟩:=hk y (Array.mem_toList_iff.mp hy)
      simp[DictEntry.refKey,hkey]
    have a':¬ es.toList.any (·.refKey)=true:=by rw[a];exact Bool.false_ne_true
    rw[if_neg a']
    exact congrArg some e

theorem ObjM.look {h:Heap} {x dx C:Addr} {mA:Str→Option Value} (I:ObjM h x dx C mA):∃ od,PySem.W.InstAt h x (PySem.W.instObj C dx) C (some od)∧∀ name,PySem.W.lookIn name od=some (mA name) :=
  let ⟨od,ho,hl⟩:=lookIn_ns I.ns
  ⟨od,⟨I.obj,rfl,rfl,ho⟩,hl⟩

section
variable {prog:Program} {w:World} {A:Around} {E:Value→Shared→Prop} {s:Shared} {K:PySem.W.Frag} {x dx C f:Addr} {mA:Str→Option Value} {name:Str} {v:Value}



theorem get_meth {pl:Sem Bool} {Q:Value×List Value→Shared→Prop} (X:K.In s.heap) (I:ObjM s.heap x dx C mA) (hg:PySem.W.plainGet K C name=true)
    (hf:PySem.W.findIn K (.ref C) name=some (some (.ref f))) (ht:PySem.W.isFn K (.ref f)=true) (hv:mA name=none) (h:Q (.ref f,[.ref x]) s) :
    wpAny (model prog w) A (getMethod (.ref x) name pl) Q E s:=by
  obtain⟨od,J,hl⟩:=I.look
  exact PySem.W.method_fn X J (PySem.W.plainGet_of hg).1 (PySem.W.plainGet_of hg).2 hf (beq_iff_eq.mp ht) (by show (PySem.W.lookIn name od).map (·.isSome)=some false;rw[hl,hv];rfl) h

theorem set_map {ns:List Str} {Q:Unit→Shared→Prop} (X:K.In s.heap) (I:ObjM s.heap x dx C mA)
    (hs:PySem.W.findIn K (.ref C) "__setattr__"=some (some (.builtin "object.__setattr__"))) (hp:PySem.W.plainOver K C=true) (ht:PySem.W.takerIn K C name=some none) (hh:PySem.W.hasDictIn K C=true)
    (hw:PySem.Within mA ns) (hsz:ns.length≤sizeLine)
    (h:∀ h',ObjM h' x dx C (fun y=>if y=name then some v else mA y)→Heap.SameBut dx s.heap h'→Q () { s with heap:=h',toks:=s.toks+2 }) :
    wpAny (model prog w) A (setAttr (.ref x) name v) Q E s:=by
  obtain⟨od,J,hl⟩:=I.look
  refine PySem.W.set_plain X J hs (PySem.W.osa_open (s:={ s with toks:=s.toks+1 }) (r:=none) X J hp ht fun b=>?_)
  obtain⟨cd,hc,hd'⟩:=PySem.W.any_some hh
  have hx:s.heap.get? x=some ⟨.ref C,some dx,.plain,#[]⟩:=I.obj
  refine wpAny_bind (wpAny_pure (wpAny_bind (wpAny_bind (wpAny_loadPart hx (wpAny_bind (PySem.W.Looks.here (s:={ s with toks:=s.toks+1 }) (PySem.W.looks_clsIn X hc) ?_))))))
  rw[hd']
  refine wpAny_pure (a:=some dx) (wpAny_bind (wpAny_pure (wpAny_bind ?_)))
  refine wpAny_nsSet1 (s:={ s with toks:=s.toks+1 }) I.ns fun h' hn2 hs2=>?_
  obtain⟨oD,esD,epD,hoD,hdD,hcD⟩:=hn2.count (PySem.Within.cons name v hw)
  refine wpAny_bind (wpAny_lookBehind hoD (by rw[hdD];exact pastItsLine_dict (Nat.le_trans hcD (by rw[List.length_cons];omega))) ?_)
  exact wpAny_pure (h _ ⟨(hs2.2 _ (Ne.symm I.ne)).trans I.obj,hn2,I.ne⟩ hs2)

theorem make_map {R:Result→Shared→Prop} {vs:List Value} {kw:List (Str×Value)} (X:K.In s.heap) (hm:PySem.W.makesIn K C=true)
    (hi:PySem.W.findIn K (.ref C) "__init__"=some (some (.ref f))) (hf:PySem.W.typeIn K (.ref f)=some (.type "function"))
    (h:codeAny (model prog w) (A.under (.builtin "type.__call__" ⟨.ref C :: vs,kw⟩)) (.call (.ref f) ⟨.ref (s.heap.objs.size+1) :: vs,kw⟩) (PySem.W.InitBack (s.heap.objs.size+1) R)
      { s with heap:=(s.heap.push PySem.W.emptyDict).push (PySem.W.instObj C s.heap.objs.size) }) :
    codeAny (model prog w) A (.call (.ref C) ⟨vs,kw⟩) R s:=by
  obtain⟨hh,g,d,t,os⟩:=s
  exact PySem.W.make_core (PySem.W.makes_of X hm) (PySem.W.looks_findIn X hi) (fun self=>PySem.W.bind_fn X self hf) (.inl rfl) h
end

def putF (f:Str) (v:V):List (Str×V)→List (Str×V)
  | []=>[(f,v)]
  | (g,x) :: r=>if g=f then (g,v) :: r else (g,x) :: putF f v r
theorem lookup_putF (f g:Str) (v:V):∀ fs:List (Str×V),(putF f v fs).lookup g=if g=f then some v else fs.lookup g
  | []=>by
    show List.lookup g [(f,v)]=_
    by_cases h:g=f
    · have hb:(g == f)=true:=beq_iff_eq.mpr h
      simp only[List.lookup,hb,if_pos h]
    · have hb:(g == f)=false:=beq_eq_false_iff_ne.mpr h
      simp only[List.lookup,hb,if_neg h]
  | (k,x) :: r=>by
    have ih:=lookup_putF f g v r
    rw[show putF f v ((k,x) :: r)=(if k=f then (k,v) :: r else (k,x) :: putF f v r) from rfl]
    by_cases hk:k=f
    · rw[if_pos hk]
      by_cases h:g=k
      · have hb:(g == k)=true:=beq_iff_eq.mpr h
        simp only[List.lookup,hb,if_pos (h.trans hk)]
      · have hb:(g == k)=false:=beq_eq_false_iff_ne.mpr h
        simp only[List.lookup,hb,if_neg (fun e:g=f=>h (e.trans hk.symm))]
    · rw[if_neg hk]
      by_cases h:g=k
      · have hb:(g == k)=true:=beq_iff_eq.mpr h
        simp only[List.lookup,hb,if_neg (fun e:g=f=>hk (h.symm.trans e))]
      · have hb:(g == k)=false:=beq_eq_false_iff_ne.mpr h
        simp only[List.lookup,hb]
        exact ih
theorem keys_putF (f:Str) (v:V):∀ fs:List (Str×V),f∈(putF f v fs).map (·.1)∧∀ g,g∈fs.map (·.1)→g∈(putF f v fs).map (·.1)
  | []=>⟨by simp[putF],fun g h=>by simp at h⟩
  | (k,x) :: r=>by
    obtain⟨i1,i2⟩:=keys_putF f v r
    rw[show putF f v ((k,x) :: r)=(if k=f then (k,v) :: r else (k,x) :: putF f v r) from rfl]
    by_cases hk:k=f
    · rw[if_pos hk]
      subst hk
      exact⟨by simp,fun g h=>by simpa using h⟩
    · rw[if_neg hk]
      refine⟨?_,fun g h=>?_⟩
      · rw[List.map_cons]
        exact List.mem_cons_of_mem _ i1
      · rw[List.map_cons] at h ⊢
        rcases List.mem_cons.mp h with e | e
        · exact List.mem_cons.mpr (.inl e)
        · exact List.mem_cons_of_mem _ (i2 g e)
theorem length_putF (f:Str) (v:V):∀ fs:List (Str×V),(putF f v fs).length≤fs.length+1
  | []=>by simp[putF]
  | (k,x) :: r=>by
    have ih:=length_putF f v r
    rw[show putF f v ((k,x) :: r)=(if k=f then (k,v) :: r else (k,x) :: putF f v r) from rfl]
    by_cases hk:k=f
    · rw[if_pos hk,List.length_cons,List.length_cons];omega
    · rw[if_neg hk,List.length_cons,List.length_cons];omega

theorem RelO.none_of {o:Option Value} (r:RelO none o):o=none:=by
  cases o with
  | none=>rfl
  | some u=>exact (show False from r).elim

section
variable {P:Program} {w:World} {H H':Hp} {h h':Heap} {a C dx:Addr} {fs fs':List (Str×V)}
theorem ins_get (hok:HOk P w H h) (e:H a=some (.ins C dx fs)):∃ mA,ObjM h a dx C mA∧(∀ f,RelO (fs.lookup f) (mA f))∧PySem.Within mA (fs.map (·.1))∧fs.length≤1000∧H dx=some (.own a):=by
  obtain⟨d,z,ne,ob,mA,n,r,q⟩:=(show ObjOk P w H h a (.ins C dx fs) from hok a _ e)
  exact⟨mA,⟨ob,n,ne⟩,r,q,z,d⟩
end

structure Cls (K:PySem.W.Frag) (C:Addr):Prop where
  pg:PySem.W.plainGet K C Str.empty=true
  hd:PySem.W.hasDictIn K C=true
  po:PySem.W.plainOver K C=true
  sa:PySem.W.findIn K (.ref C) "__setattr__"=some (some (.builtin "object.__setattr__"))
theorem Cls.get {K:PySem.W.Frag} {C:Addr} (c:Cls K C) (f:Str):PySem.W.plainGet K C f=true:=c.pg
def NoAttr (K:PySem.W.Frag) (C:Addr) (f:Str):Prop:=PySem.W.findIn K (.ref C) f=some none
theorem NoAttr.taker {K:PySem.W.Frag} {C:Addr} {f:Str} (n:NoAttr K C f):PySem.W.takerIn K C f=some none:=by
  unfold PySem.W.takerIn
  rw[show PySem.W.findIn K (.ref C) f=some none from n]
  rfl
structure Con (K:PySem.W.Frag) (C:Addr) (f:Str) (v:V) (u:Value):Prop where
  at_:PySem.W.findIn K (.ref C) f=some (some u)
  rel:RelV v u
  get:PySem.W.specialIn K u "__get__"=some none
  cp:PySem.W.copiedNames.contains f=false
structure Meth (K:PySem.W.Frag) (C:Addr) (m:Str) (f:Addr):Prop where
  at_:PySem.W.findIn K (.ref C) m=some (some (.ref f))
  fn:PySem.W.isFn K (.ref f)=true
  kp:PySem.W.keepIn K (.ref f)=true

section
variable {X:Cx} {pins:List (Addr×Obj)} {σ:St} {H:Hp} {s:Shared} {a C dx:Addr} {fs:List (Str×V)} {f:Str} {v:V} {A:Around} {E:Value→Shared→Prop}



theorem getmeth_ok {m:Str} {g:Addr} {pl:Sem Bool} {Q:Value×List Value→Shared→Prop} (I:Inv X pins σ H s) (e:H a=some (.ins C dx fs)) (c:Cls X.K C) (k:Meth X.K C m g) (l:fs.lookup m=none)
    (h:Q (.ref g,[.ref a]) s):wpAny (model X.prog X.w) A (getMethod (.ref a) m pl) Q E s:=by
  obtain⟨mA,O,r,_,_,_⟩:=ins_get I.hok e
  have hn:mA m=none:=RelO.none_of (by rw[← l];exact r m)
  exact get_meth I.kIn O (c.get m) k.at_ k.fn hn h

theorem setattr_ok {y:V} {u:Value} {Q:Unit→Shared→Prop} (I:Inv X pins σ H s) (e:H a=some (.ins C dx fs)) (c:Cls X.K C) (n:NoAttr X.K C f) (hl:fs.length < 1000) (ry:RelV y u)
    (h:∀ s',Inv X pins σ (upd H a (.ins C dx (putF f y fs))) s'→Q () s'):wpAny (model X.prog X.w) A (setAttr (.ref a) f u) Q E s:=by
  obtain⟨mA,O,r,wi,_,ho⟩:=ins_get I.hok e
  have hz:(fs.map (·.1)).length≤sizeLine:=by rw[List.length_map,sizeLine_eq];omega
  refine set_map I.kIn O c.sa c.po n.taker c.hd wi hz fun h' O' sb=>h _ ?_
  have hd:∃ o,h'.get? dx=some o:=let ⟨o,_,_,e',_⟩:=O'.ns;⟨o,e'⟩
  refine I.write (x:=a) (e:=dx) (by rw[e];exact True.intro) (.inr ho) (fun b q hb z=>(sb.2 b hb).trans z) hd ?_
  refine⟨by rw[upd_ne O.ne];exact ho,?_,O.ne,O'.obj,_,O'.ns,fun g=>?_,fun g hg=>?_⟩
  · have:=length_putF f y fs;omega
  · show RelO ((putF f y fs).lookup g) (if g=f then some u else mA g)
    rw[lookup_putF]
    by_cases q:g=f
    · rw[if_pos q,if_pos q];exact ry
    · rw[if_neg q,if_neg q];exact r g
  · by_cases q:g=f
    · rw[q];exact (keys_putF f y fs).1
    · refine (keys_putF f y fs).2 g (wi g fun z=>hg ?_)
      show (if g=f then some u else mA g)=none
      rw[if_neg q];exact z

theorem Inv.made (I:Inv X pins σ H s):Inv X pins σ (upd (upd H s.heap.objs.size (.own (s.heap.objs.size+1))) (s.heap.objs.size+1) (.ins C s.heap.objs.size []))
    { s with heap:=(s.heap.push PySem.W.emptyDict).push (PySem.W.instObj C s.heap.objs.size) }:=by
  have e1:(s.heap.push PySem.W.emptyDict).get? s.heap.objs.size=some PySem.W.emptyDict:=Heap.get?_push_size s.heap rfl
  have e2:((s.heap.push PySem.W.emptyDict).push (PySem.W.instObj C s.heap.objs.size)).get? (s.heap.objs.size+1)=some (PySem.W.instObj C s.heap.objs.size):=by
    have:=Heap.get?_push_size (s.heap.push PySem.W.emptyDict) (o:=PySem.W.instObj C s.heap.objs.size) rfl
    rwa [Heap.size_push] at this
  have e3:(s.heap.push PySem.W.emptyDict).Ns s.heap.objs.size (fun _=>none):=⟨PySem.W.emptyDict,#[],_,e1,rfl,(fun e he=>absurd he (by simp)),fun _=>rfl⟩
  have I1:=I.laid (a:=s.heap.objs.size) (o:=.own (s.heap.objs.size+1)) (h':=s.heap.push PySem.W.emptyDict) (t':=s.toks) (fun b u q=>Heap.get?_push_of_some _ q) (Nat.le_refl _) ⟨_,e1⟩
  refine I1.laid (a:=s.heap.objs.size+1) (o:=.ins C s.heap.objs.size []) (t':=s.toks) (fun b u q=>Heap.get?_push_of_some _ q) (Nat.le_of_eq (Heap.size_push _ _)) ?_
  have ne:s.heap.objs.size≠s.heap.objs.size+1:=Nat.ne_of_lt (Nat.lt_succ_self _)
  refine⟨by rw[upd_ne ne,upd_same],Nat.zero_le _,ne,e2,fun _=>none,(Heap.Ns1.of_empty e3).at fun o q=>Heap.get?_push_of_some _ q,fun _=>True.intro,fun y hy=>absurd rfl hy⟩

theorem attr_of {prog:Program} {w:World} {env:Env} {e:Expr} {f:Str} {pos:Pos} {s:Shared} {Q:Value→Shared→Prop} (hb:attributeBase e f env (eval e env)=eval e env)
    (h:wpAny (model prog w) A (eval e env) (fun o s₁=>wpAny (model prog w) A (getAttr o f true) Q E s₁) E s):wpAny (model prog w) A (eval (.Attribute e f pos) env) Q E s :=
  Attribute_any_ h (by rw[arm_eval_Attribute,hb])
end

def sFld (K:PySem.W.Frag) (ta tv:TE) (f:Str):TS:=fun D σ H=>tv σ H fun y H1=>ta σ H1 fun x H2=>∃ a C dx fs,x=.ref a∧H2 a=some (.ins C dx fs)∧Cls K C∧NoAttr K C f∧fs.length < 1000 ∧
  D.nx σ (upd H2 a (.ins C dx (putF f y fs)))

section
variable {X:Cx} {o e value:Expr} {f:Str} {pos pos' tpos:Pos} {ta tv:TE}
theorem ps_fld (ha:PE X o ta) (hv:PE X value tv) (hs:swapsWith value (some (.Attribute o f pos')) pos.line X.env=pure false):PS X (.Assign [.Attribute o f pos'] value pos) (sFld X.K ta tv f):=by
  intro pins s σ H D I h
  refine plainObj_wpAny_Assign_Attribute (thn (hv pins s σ H _ I h) fun u s1 ⟨y,H1,I1,ry,q⟩=>thn (ha pins s1 σ H1 _ I1 q) fun ov s2 ⟨x,H2,I2,rx,a,C,dx,fs,ex,ea,c,n,l,q2⟩=>?_) hs
  subst ex
  obtain rfl:ov=Value.ref a:=rx
  exact setattr_ok I2 ea c n l ry fun s3 I3=>⟨σ,_,I3,q2⟩

end

section
variable {X:Cx} {pins:List (Addr×Obj)} {σ:St} {H:Hp} {s:Shared} {A:Around} {E:Value→Shared→Prop} {Q:Value→Shared→Prop} {c:Value} {b:Bool}
inductive TyOf (K:PySem.W.Frag) (H:Hp):V→Value→Prop where
  | non:TyOf K H .non (.type "NoneType")
  | bl (x:Bool):TyOf K H (.bl x) (.type "bool")
  | int (i:Int):TyOf K H (.int i) (.type "int")
  | str (x:Str):TyOf K H (.str x) (.type "str")
  | flt (x:UInt64):TyOf K H (.flt x) (.type "float")
  | lst {a:Addr} {xs:List V} (e:H a=some (.lst xs)):TyOf K H (.ref a) (.type "list")
  | frz {a:Addr} {o:Obj} {xs:List V} (e:H a=some (.frz o (.lst xs))):TyOf K H (.ref a) (.type "list")
  | tup {a:Addr} {xs:List V} (e:H a=some (.tup xs)):TyOf K H (.ref a) (.type "tuple")
  | dK {a:Addr} {kvs:List (Key×V)} (e:H a=some (.dK kvs)):TyOf K H (.ref a) (.type "dict")
  | dT {a:Addr} {kvs:List (List Key×V)} (e:H a=some (.dT kvs)):TyOf K H (.ref a) (.type "dict")
  | ins {a C dx:Addr} {fs:List (Str×V)} (e:H a=some (.ins C dx fs)) (cl:Cls K C) (ha:PySem.W.findIn K (.ref C) "__class__"=some (some (.builtin "object.__class__")))
      (hn:PySem.W.specialIn K (.builtin "object.__class__") "__get__"=some (some (.builtin "getset_descriptor.__get__"))) (htk:PySem.W.takesIn K (.builtin "object.__class__")=some true)
      (hm:PySem.W.mroIn K C (.type "object")=some true):TyOf K H (.ref a) (.ref C)
end
end L2

namespace L2
open PySem PySem.Spec PyProof.Rows

structure Room (k:Nat) (A:Around):Prop where
  hd:A.handled=none
  dp:A.depth+3 * k+5 < recursionLimit
  un:A.units+16 * k+200 < cLine
theorem Room.mono {j k:Nat} {A:Around} (r:Room k A) (h:j≤k):Room j A:=⟨r.hd,by have:=r.dp;omega,by have:=r.un;omega⟩
theorem Room.deeper {k:Nat} {A:Around} (r:Room (k+1) A) (env:Env):Room k (A.deeper env) :=
  ⟨r.hd,by have:=r.dp;show A.depth+1+3 * k+5 < _;omega,by have:=r.un;show A.units+3+16 * k+200 < _;omega⟩
theorem make_depth {A:Around} {C:Addr} {us:List Value} {kw:List (Str×Value)}:(A.under (.builtin "type.__call__" ⟨.ref C :: us,kw⟩)).depth=A.depth+1:=by
  first | rfl | simp[Around.under,Code.weight,Code.isCreation,Code.isGuard,Code.isCaller,Code.frames,Code.isFrame,guardIds]
theorem make_units {A:Around} {C:Addr} {us:List Value} {kw:List (Str×Value)}:(A.under (.builtin "type.__call__" ⟨.ref C :: us,kw⟩)).units=A.units+1:=by
  first | rfl | simp[Around.under,Code.cUnits,Code.frames,Code.isFrame]
theorem Room.make {k:Nat} {A:Around} (r:Room (k+1) A) (C:Addr) (us:List Value) (kw:List (Str×Value)):Room k (A.under (.builtin "type.__call__" ⟨.ref C :: us,kw⟩)) :=
  ⟨r.hd,by have:=r.dp;rw[make_depth];omega,by have:=r.un;rw[make_units];omega⟩
theorem Room.depth {k:Nat} {A:Around} (r:Room k A):A.depth < recursionLimit:=by have:=r.dp;omega
theorem Room.units {k:Nat} {A:Around} (r:Room k A):A.units+64 < cLine:=by have:=r.un;omega

def tNil:TA:=fun _ H Q=>Q [] H
def tCons (ta:TE) (tr:TA):TA:=fun σ H Q=>ta σ H fun x H1=>tr σ H1 fun xs H2=>Q (x :: xs) H2
section
variable {X:Cx} {e:Expr} {es:List Expr} {te:TE} {t:TA} {pos:Pos}
theorem pa_nil:PA X [] tNil:=fun _ _ _ _ H Q I h=>Calls.spliced_nil ⟨[],H,I,.nil,h⟩
theorem pa_cons (ha:PE X e te) (hr:PA X es t) (hs:starEach (e :: es) X.env=(false,eval e X.env) :: starEach es X.env:=by rfl):PA X (e :: es) (tCons te t):=by
  intro pos pins s σ H Q I h
  rw[hs]
  show wpAny _ _ (spliced ((false,eval e X.env) :: backTo pos (starEach es X.env))) _ _ s
  refine Calls.spliced_cons (thn (ha pins s σ H _ I h) fun u s1 ⟨x,H1,I1,r1,q1⟩=>?_)
  exact thn (hr pos pins s1 σ H1 _ I1 q1) fun us s2 ⟨xs,H2,I2,r2,q2⟩=>⟨x :: xs,H2,I2,.cons r1 r2,q2⟩

def tTup (t:TA):TE:=fun σ H Q=>t σ H fun xs H1=>xs.length≤sizeLine∧∀ p,H1 p=none→Q (.ref p) (upd H1 p (.tup xs))
def tLst (t:TA):TE:=fun σ H Q=>t σ H fun xs H1=>xs.length≤sizeLine∧∀ p,H1 p=none→Q (.ref p) (upd H1 p (.lst xs))
theorem pe_tup {x1} (h:PA X es t):PE X (.Tuple es x1 pos) (tTup t):=by
  intro pins s σ H Q I hq
  refine wpAny_Tuple_spliced (thn (h pos pins s σ H _ I hq) fun us s1 ⟨xs,H1,I1,r,z,q⟩=>⟨by rw[← r.length];exact z,?_⟩)
  have hf:H1 s1.heap.objs.size=none:=I1.hok.fresh (Nat.le_refl _)
  refine⟨.ref s1.heap.objs.size,upd H1 s1.heap.objs.size (.tup xs),I1.laid (t':=s1.toks) (fun b u e=>Heap.get?_push_of_some _ e) (Nat.le_refl _) ?_,rfl,q _ hf⟩
  exact⟨z,us,r,⟨_,Heap.get?_push_size _ rfl,rfl,_,rfl⟩⟩
theorem pe_lst (h:PA X es t):PE X (.List es pos) (tLst t):=by
  intro pins s σ H Q I hq
  refine wpAny_List_spliced (thn (h pos pins s σ H _ I hq) fun us s1 ⟨xs,H1,I1,r,z,q⟩=>⟨by rw[← r.length];exact z,?_⟩)
  have hf:H1 s1.heap.objs.size=none:=I1.hok.fresh (Nat.le_refl _)
  refine⟨.ref s1.heap.objs.size,upd H1 s1.heap.objs.size (.lst xs),I1.laid (t':=s1.toks) (fun b u e=>Heap.get?_push_of_some _ e) (Nat.le_refl _) ?_,rfl,q _ hf⟩
  exact⟨z,us,0,r,Heap.get?_push_size _ rfl⟩
end

abbrev Sp:=List V→Hp→VK→XK→Prop
abbrev CXT:=List Env→Hp→Shared→XK→Value→Shared→Prop

structure Env0 (P:Program) (w:World) (K:PySem.W.Frag) (mg:Str→Option Value) (base:Heap) (A:Around) (outer:List Env) (s:Shared) (H:Hp):Prop where
  frames:A.frames=some outer
  mod:Mod K mg base
  bs:∀ b o,base.get? b=some o→s.heap.get? b=some o∧H b=none
  bsz:base.objs.size≤s.heap.objs.size
  funs:s.heap.FunFrames base outer
  frf:∀ b∈frs outer,H b=none
  hok:HOk P w H s.heap
  bare:AllBare s.gens
def CE (outer:List Env) (P:Program) (w:World) (H:Hp) (s:Shared) (Q:VK) (u:Value) (s':Shared):Prop :=
  ∃ v H',s'.os=s.os∧AllBare s'.gens∧Un (frs outer) [] H H' s.heap s'.heap∧HOk P w H' s'.heap∧RelV v u∧Q v H'
def CR (CX:CXT) (outer:List Env) (P:Program) (w:World) (H:Hp) (s:Shared) (Q:VK) (E:XK) (r:Result) (s':Shared):Prop :=
  match r with
  | .ok (.ret u)=>CE outer P w H s Q u s'
  | .ok _=>False
  | .error e=>CX outer H s E e s'
structure FnOk (P:Program) (w:World) (K:PySem.W.Frag) (mg:Str→Option Value) (base:Heap) (CX:CXT) (k:Nat) (f:Addr) (fd:FuncData) (ps:List Str) (sp:Sp):Prop where
  len:∀ vs H Q E,sp vs H Q E→vs.length=ps.length
  run:∀ (A:Around) (outer:List Env) (s:Shared) (H:Hp) (args:Args) (us:List Value) (vs:List V) (Q:VK) (E:XK),Room k A→Env0 P w K mg base A outer s H→BindsTo s fd args (ps.zip us)→Vals vs us→sp vs H Q E →
    codeAny (model P w) A (.call (.ref f) args) (CR CX outer P w H s Q E) s

theorem Env0.make {P:Program} {w:World} {K:PySem.W.Frag} {mg:Str→Option Value} {base:Heap} {A:Around} {outer:List Env} {s:Shared} {H:Hp} (e:Env0 P w K mg base A outer s H) (C:Addr) (us:List Value) (kw:List (Str×Value)) :
    Env0 P w K mg base (A.under (.builtin "type.__call__" ⟨.ref C :: us,kw⟩)) outer s H:=⟨by first | exact e.frames | (simpa [Around.under,Code.envs,Code.isFrame,pushEnvs] using e.frames),e.mod,e.bs,e.bsz,e.funs,e.frf,e.hok,e.bare⟩

section
variable {X:Cx} {pins:List (Addr×Obj)} {σ:St} {H:Hp} {s s':Shared}
theorem Inv.env0 (I:Inv X pins σ H s):Env0 X.prog X.w X.K X.mg X.base X.A X.stack s H :=
  ⟨I.ok.frames,I.ok.mod,I.bs,Nat.le_trans I.ok.bsz I.sz,I.stack,I.stkFree,I.hok,I.bare⟩
theorem Inv.after {Q:VK} {u:Value} (I:Inv X pins σ H s) (h:CE X.stack X.prog X.w H s Q u s'):EP X pins σ Q u s':=by
  obtain⟨v,H',os,bare,un,hok,r,q⟩:=h
  obtain⟨hh,g,d,t,os'⟩:=s'
  obtain rfl:os'=s.os:=os
  exact⟨v,H',I.call (h':=hh) (g':=g) (d':=d) (t':=t) (ch:=[]) un hok bare (fun b z=>absurd z (by simp)),r,q⟩
end

def tCall (sp:Sp) (dvs:List V) (E:XK) (t:TA):TE:=fun σ H Q=>t σ H fun vs H1=>sp (vs++dvs) H1 Q E
def tMeth (C:Addr) (m:Str) (sp:Sp) (dvs:List V) (E:XK) (ta:TE) (t:TA):TE:=fun σ H Q=>ta σ H fun x H1=>∃ a dx fs,x=.ref a∧H1 a=some (.ins C dx fs)∧fs.lookup m=none ∧
  t σ H1 fun vs H2=>sp (x :: (vs++dvs)) H2 Q E

def Binds (K:PySem.W.Frag) (fd:FuncData) (ps:List Str) (ds:List Value):Prop :=
  ∀ (s:Shared) (us:List Value),K.In s.heap→(us++ds).length=ps.length→BindsTo s fd ⟨us,[]⟩ (ps.zip (us++ds))
theorem Binds.all {K:PySem.W.Frag} {fd:FuncData} {ps:List Str} (h:∀ us:List Value,us.length=ps.length→bindArgs fd ⟨us,[]⟩=pure (ps.zip us)):Binds K fd ps []:=fun s us _ hl=>by
  rw[List.append_nil] at hl ⊢
  exact .of_eq (h us hl)

def Passes (CX:CXT) (X:Cx) (E:XK):Prop:=∀ (pins:List (Addr×Obj)) (σ:St) (H:Hp) (s:Shared) (e:Value) (s':Shared),Inv X pins σ H s→CX X.stack H s E e s'→X.xe e s'

section
variable {X:Cx} {CX:CXT} {k:Nat} {f C:Addr} {fd:FuncData} {ps:List Str} {sp:Sp} {dvs:List V} {ds:List Value} {E:XK} {x m:Str} {p pos apos:Pos} {e o:Expr} {es:List Expr} {ta:TE} {t:TA}

theorem run_fn {pins:List (Addr×Obj)} {σ:St} {H:Hp} {s:Shared} {Q:VK} {us:List Value} {vs:List V} (F:FnOk X.prog X.w X.K X.mg X.base CX k f fd ps sp) (hr:Room k X.A) (hb:Binds X.K fd ps ds) (hd:Vals dvs ds) (hx:Passes CX X E)
    (I:Inv X pins σ H s) (r:Vals vs us) (h:sp (vs++dvs) H Q E):wpAny (model X.prog X.w) X.A (call (.ref f) us) (EP X pins σ Q) X.xe s:=by
  have r2:Vals (vs++dvs) (us++ds):=r.append hd
  have hl:(us++ds).length=ps.length:=by rw[← r2.length];exact F.len _ _ _ _ h
  refine wpAny_call (codeAny_mono (F.run X.A X.stack s H ⟨us,[]⟩ (us++ds) (vs++dvs) Q E hr I.env0 (hb s us I.kIn hl) r2 h) fun r s' hq=>?_)
  cases r with
  | error e=>exact hx pins σ H s e s' I hq
  | ok fl =>
    cases fl with
    | ret u=>exact I.after hq
    | next=>exact False.elim hq
    | brk=>exact False.elim hq
    | cont=>exact False.elim hq

theorem pe_call (F:FnOk X.prog X.w X.K X.mg X.base CX k f fd ps sp) (hr:Room k X.A) (hg:Gl X x) (hm:X.mg x=some (.ref f)) (hk:PySem.W.keepIn X.K (.ref f)=true) (hb:Binds X.K fd ps ds) (hd:Vals dvs ds) (hx:Passes CX X E)
    (ha:PA X (e :: es) t) (hdb:(x == ("__debug__":Str))=false:=by decide) (he:starEach (e :: es) X.env=(false,eval e X.env) :: starEach es X.env:=by rfl) (hpl:(backTo pos (starEach es X.env)).any (·.1)=false:=by rfl) :
    PE X (.Call (.Name x p) (e :: es) [] pos) (tCall sp dvs E t):=by
  intro pins s σ H Q I h
  refine wpAny_Call_Name_kw (ld_glob I hg hm ?_ hdb)
  refine PySem.W.callWith_K (h₀:=X.base) I.ok.mod.kin hk (thn (ha pos pins s σ H _ I h) fun us s1 ⟨vs,H1,I1,r,q⟩=>⟨I1.kIn,?_⟩) he hpl
  exact run_fn F hr hb hd hx I1 r q
theorem pe_call0 (F:FnOk X.prog X.w X.K X.mg X.base CX k f fd ps sp) (hr:Room k X.A) (hg:Gl X x) (hm:X.mg x=some (.ref f)) (hk:PySem.W.keepIn X.K (.ref f)=true) (hb:Binds X.K fd ps ds) (hd:Vals dvs ds) (hx:Passes CX X E)
    (hdb:(x == ("__debug__":Str))=false:=by decide):PE X (.Call (.Name x p) [] [] pos) (tCall sp dvs E tNil):=by
  intro pins s σ H Q I h
  refine wpAny_Call_Name_kw (ld_glob I hg hm ?_ hdb)
  exact PySem.W.callWith_K0 I.kIn hk (run_fn (us:=[]) F hr hb hd hx I .nil h)

theorem pe_meth0 {pl:Sem Bool} (he:PE X o ta) (c:Cls X.K C) (hm:Meth X.K C m f) (F:FnOk X.prog X.w X.K X.mg X.base CX k f fd ps sp) (hr:Room k X.A) (hb:Binds X.K fd ps ds) (hd:Vals dvs ds) (hx:Passes CX X E)
    (ht:eval (.Call (.Attribute o m apos) [] [] pos) X.env=(do
      let ov ← eval o X.env
      standAt apos.atName
      let (f,first) ← holding [ov] (getMethod ov m pl)
      callWith pos f first (backTo pos (starEach [] X.env)) (backToKw pos (keywordEach [] X.env))):=by rfl) :
    PE X (.Call (.Attribute o m apos) [] [] pos) (tMeth C m sp dvs E ta tNil):=by
  intro pins s σ H Q I h
  refine PySem.W.methodCall_KW (pl:=pl) (thn (he pins s σ H _ I h) fun u s1 ⟨x,H1,I1,rx,a,dx,fs,ex,ea,l,q⟩=>?_) ht
  subst ex
  obtain rfl:u=Value.ref a:=rx
  refine getmeth_ok I1 ea c hm l ?_
  exact PySem.W.callWith_K0 (first:=[.ref a]) I1.kIn hm.kp (run_fn (us:=[.ref a]) (vs:=[.ref a]) F hr hb hd hx I1 (.cons rfl .nil) q)

structure Mk (K:PySem.W.Frag) (C f:Addr):Prop where
  makes:PySem.W.makesIn K C=true
  init:PySem.W.findIn K (.ref C) "__init__"=some (some (.ref f))
  fn:PySem.W.isFn K (.ref f)=true
  kp:PySem.W.keepIn K (.ref C)=true

end

def PK (X:Cx) (kws:List Keyword) (t:TA):Prop :=
  ∀ (pos:Pos) (pins:List (Addr×Obj)) (s:Shared) (σ:St) (H:Hp) (Q:List V→Hp→Prop),Inv X pins σ H s→t σ H Q→wpAny (model X.prog X.w) X.A (evalAll ((backToKw pos (keywordEach kws X.env)).map (·.2))) (AP X pins σ Q) X.xe s
section
variable {X:Cx} {CX:CXT} {k:Nat} {f C:Addr} {fd:FuncData} {ps ks:List Str} {sp:Sp} {E:XK} {x m:Str} {p pos apos kpos:Pos} {e o:Expr} {es:List Expr} {kws:List Keyword} {te ta:TE} {t tk:TA} {nm:Option Str}
theorem pk_nil:PK X [] tNil:=fun _ _ _ _ H Q I h=>wpAny_evalAll_nil ⟨[],H,I,.nil,h⟩
theorem pk_cons (ha:PE X e te) (hr:PK X kws t):PK X (⟨nm,e,kpos⟩ :: kws) (tCons te t):=by
  intro pos pins s σ H Q I h
  show wpAny _ _ (evalAll ((do let v ← eval e X.env;standAt pos;pure v) :: (backToKw pos (keywordEach kws X.env)).map (·.2))) _ _ s
  refine wpAny_evalAll_cons (wpAny_bind (thn (ha pins s σ H _ I h) fun u s1 ⟨x,H1,I1,r1,q1⟩=>wpAny_bind (wpAny_standAt (wpAny_pure ?_))))
  exact thn (hr pos pins s1 σ H1 _ I1 q1) fun us s2 ⟨xs,H2,I2,r2,q2⟩=>⟨x :: xs,H2,I2,.cons r1 r2,q2⟩

structure KBinds (K:PySem.W.Frag) (fd:FuncData) (ps ks:List Str) (g:List Value→List Value→List Value) (gV:List V→List V→List V):Prop where
  to:∀ (s:Shared) (us ws:List Value),K.In s.heap→(g us ws).length=ps.length→BindsTo s fd ⟨us,ks.zip ws⟩ (ps.zip (g us ws))
  rel:∀ {vs:List V} {us:List Value} {zs:List V} {ws:List Value},Vals vs us→Vals zs ws→Vals (gV vs zs) (g us ws)
variable {g:List Value→List Value→List Value} {gV:List V→List V→List V}
end

structure FnScope (N P:List Str) (sc:Scope):Prop where
  kind:sc.kind=.function
  co:sc.isCoroutine=false
  gen:sc.isGenerator=false
  nd:N.Nodup
  pre:N.take P.length=P
  par:∀ x∈P,sc.names.lookup x=some .local∨sc.names.lookup x=some .cell
  nofree:∀ y∈sc.names,y.2≠.free

theorem bindL_out {kindOf:Str→Option NameKind} {x:Str}:∀ {binds:List (Str×Value)} {m:Str→Option Value},(∀ v,(x,v)∉binds)→bindL kindOf binds m x=m x
  | [],_,_=>rfl
  | (n,v) :: r,m,h=>by
    unfold bindL
    rw[bindL_out fun w hw=>h w (List.mem_cons_of_mem _ hw)]
    split
    · have : x≠n:=by rintro rfl;exact h v List.mem_cons_self
      simp[this]
    · rfl
theorem bindC_out {kindOf:Str→Option NameKind} {x:Str}:∀ {binds:List (Str×Value)} {m:Str→Option Value},(∀ v,(x,v)∉binds)→bindC kindOf binds m x=m x
  | [],_,_=>rfl
  | (n,v) :: r,m,h=>by
    unfold bindC
    rw[bindC_out fun w hw=>h w (List.mem_cons_of_mem _ hw)]
    split
    · rfl
    · have : x≠n:=by rintro rfl;exact h v List.mem_cons_self
      simp[this]
theorem bindL_get {kindOf:Str→Option NameKind} {x:Str} {v:Value}:∀ {P:List Str} {vs:List Value} {i:Nat} {m:Str→Option Value},P.Nodup→P[i]?=some x→vs[i]?=some v→kindOf x=some .local →
    bindL kindOf (P.zip vs) m x=some v
  | [],_,_,_,_,h,_,_=>by simp at h
  | _ :: _,[],_,_,_,_,h,_=>by simp at h
  | p :: P,w :: vs,0,m,nd,h1,h2,hk=>by
    simp at h1 h2;subst h1;subst h2
    show bindL kindOf ((p,w) :: P.zip vs) m p=_
    unfold bindL
    rw[bindL_out fun v hv=>(List.nodup_cons.mp nd).1 (List.of_mem_zip hv).1,if_pos hk]
    simp
  | p :: P,w :: vs,i+1,m,nd,h1,h2,hk=>by
    show bindL kindOf ((p,w) :: P.zip vs) m x=_
    unfold bindL
    exact bindL_get (i:=i) (List.nodup_cons.mp nd).2 (by simpa using h1) (by simpa using h2) hk
theorem bindC_get {kindOf:Str→Option NameKind} {x:Str} {v:Value}:∀ {P:List Str} {vs:List Value} {i:Nat} {m:Str→Option Value},P.Nodup→P[i]?=some x→vs[i]?=some v→kindOf x≠some .local →
    bindC kindOf (P.zip vs) m x=some v
  | [],_,_,_,_,h,_,_=>by simp at h
  | _ :: _,[],_,_,_,_,h,_=>by simp at h
  | p :: P,w :: vs,0,m,nd,h1,h2,hk=>by
    simp at h1 h2;subst h1;subst h2
    show bindC kindOf ((p,w) :: P.zip vs) m p=_
    unfold bindC
    rw[bindC_out fun v hv=>(List.nodup_cons.mp nd).1 (List.of_mem_zip hv).1,if_neg hk]
    simp
  | p :: P,w :: vs,i+1,m,nd,h1,h2,hk=>by
    show bindC kindOf ((p,w) :: P.zip vs) m x=_
    unfold bindC
    exact bindC_get (i:=i) (List.nodup_cons.mp nd).2 (by simpa using h1) (by simpa using h2) hk

def start (N:List Str) (vs:List V):St:=vs.map some++List.replicate (N.length-vs.length) none

def cxOf (CX:CXT) (P:Program) (w:World) (K:PySem.W.Frag) (mg:Str→Option Value) (base:Heap) (N:List Str) (qual:Str) (scope:Scope) (f:Addr) (cd:Value) (A:Around) (outer:List Env) (s:Shared) (H:Hp) (E:XK):Cx where
  prog:=P
  w:=w
  K:=K
  mg:=mg
  base:=base
  A:=A.deeper (envOfC qual scope s.heap.objs.size f cd)
  N:=N
  s_0:=s
  H_0:=H
  env:=envOfC qual scope s.heap.objs.size f cd
  outer:=outer
  stack:=envOfC qual scope s.heap.objs.size f cd :: outer
  ex:=[]
  calm:=true
  fn:=fun _=>true
  pn:=[]
  xe:=fun e s'=>wpAny (model P w) (A.deeper (envOfC qual scope s.heap.objs.size f cd)) (leaving (envOfC qual scope s.heap.objs.size f cd) e) (fun _ s''=>CX outer H s E e s'') (fun e' s''=>CX outer H s E e' s'') s'

theorem cell_has {sc:Scope} {n:Nat} {x:Str} (h:sc.names.lookup x=some .cell):∃ c,(cellsFrom n sc.names []).lookup x=some c:=by
  have q:=PySem.W.cellsFrom_some sc.names n [] (.inl h)
  exact Option.isSome_iff_exists.mp q

theorem inv_start {CX:CXT} {P:Program} {w:World} {K:PySem.W.Frag} {mg:Str→Option Value} {base:Heap} {N ps:List Str} {qual:Str} {scope:Scope} {f:Addr} {cd:Value} {A:Around} {outer:List Env} {s s1:Shared} {H:Hp} {E:XK} {us:List Value} {vs:List V}
    (S:FnScope N ps scope) (hd:A.handled=none) (e0:Env0 P w K mg base A outer s H) (hl:vs.length=ps.length) (r:Vals vs us)
    (x:InCallC s s.heap.objs.size (bindL (envOfC qual scope s.heap.objs.size f cd).kindOf (ps.zip us) fun _=>none) (cellsFrom (s.heap.objs.size+1) scope.names []) (bindC (envOfC qual scope s.heap.objs.size f cd).kindOf (ps.zip us) fun _=>none) s1) :
    Inv (cxOf CX P w K mg base N qual scope f cd A outer s H E) [] (start N vs) H s1:=by
  have hpl:ps.length≤N.length:=by have:=congrArg List.length S.pre;rw[List.length_take] at this;omega
  obtain⟨h1,tk,rfl,hk⟩:=x.done
  have noA:∀ b:Addr,b∉(cxOf CX P w K mg base N qual scope f cd A outer s H E).ex:=fun b z=>absurd (show b∈([]:List Addr) from z) (by simp)
  refine⟨⟨e0.mod,S.kind,rfl,rfl,Nat.le_refl _,fun y z c h1 h2=>?_,fun y hy=>?_,fun y c _ h=>?_,fun _=>hd,Around.frames_deeper e0.frames,.inr ⟨rfl,rfl⟩,fun b z=>absurd z (noA b),e0.bs,e0.bsz,fun b _ _=>noA b,fun b z=>absurd z (noA b),e0.funs,e0.frf⟩,
    rfl,e0.bare,Un.kept hk,⟨_,x.toInCall.ns,fun i y v h1 h2 h3=>?_⟩,fun y c h=>⟨_,x.cell y c h⟩,e0.hok.fresh (Nat.le_refl _),fun y c h=>?_,fun p hp=>absurd (show p∈([]:List (Addr×Obj)) from hp) (by simp),e0.hok.kept hk,?_⟩
  · exact name_of_addr x.apart (PySem.mem_of_lookup h1) (PySem.mem_of_lookup h2)
  · have hy:scope.names.lookup y=some .cell∨scope.names.lookup y=some .free:=hy
    rcases hy with hy | hy
    · exact cell_has hy
    · exact absurd rfl (S.nofree _ (PySem.mem_of_lookup hy))
  · exact Nat.le_of_lt (x.above y c (PySem.mem_of_lookup h))
  · have hi:i < vs.length:=by
      unfold start at h2
      by_cases hi:i < vs.length
      · exact hi
      · rw[List.getElem?_append_right (by simpa using hi)] at h2
        rw[List.getElem?_replicate] at h2
        split at h2 <;> cases h2
    have ha:vs[i]?=some v:=by
      unfold start at h2
      rw[List.getElem?_append_left (by simpa using hi),List.getElem?_map] at h2
      cases e:vs[i]? with
      | none=>rw[e] at h2;cases h2
      | some a=>rw[e] at h2;cases h2;rfl
    obtain⟨u,hu,rv⟩:=r.get ha
    have hp:ps[i]?=some y:=by
      rw[← S.pre,List.getElem?_take_of_lt (by omega)];exact h1
    have ndP:ps.Nodup:=by rw[← S.pre];exact S.nd.sublist (List.take_sublist _ _)
    refine⟨u,rv,?_⟩
    rcases S.par y (List.mem_of_getElem? hp) with k | k
    · exact .inl ⟨k,bindL_get ndP hp hu k⟩
    · obtain⟨c,e⟩:=cell_has (n:=s.heap.objs.size+1) k
      refine .inr ⟨.inl k,c,e,?_⟩
      have q:=x.cell y c e
      rw[bindC_get ndP hp hu (by show scope.names.lookup y≠_;rw[k];decide)] at q
      exact q
  · exact e0.hok.fresh (Nat.le_of_lt (x.above y c (PySem.mem_of_lookup h)))
  · unfold start
    show _=N.length
    rw[List.length_append,List.length_map,List.length_replicate]
    omega

theorem fn_of {CX:CXT} {P:Program} {w:World} {K:PySem.W.Frag} {mg:Str→Option Value} {base:Heap} {k:Nat} {f:Addr} {name qual:Str} {params:Arguments} {body:List Stmt} {scope:Scope} {dV kV doc pm cdv ct oc:Value} {an od:Option Addr}
    {osl:Array (Option Value)} {N ps:List Str} {sp:Sp} (lk:K.lookup f=some ⟨oc,od,.func (PySem.W.fnOf name qual params body scope dV kV doc pm an cdv ct),osl⟩) (hcd:PySem.W.codeIn K cdv qual=true) (S:FnScope N ps scope)
    (len:∀ vs H Q E,sp vs H Q E→vs.length=ps.length)
    (hbody:∀ (A:Around) (outer:List Env) (s:Shared) (H:Hp) (vs:List V) (Q:VK) (E:XK),Room k (A.deeper (envOfC qual scope s.heap.objs.size f cdv))→sp vs H Q E →
      ∃ t,PSs (cxOf CX P w K mg base N qual scope f cdv A outer s H E) body t∧t { nx:=fun _ H'=>Q .non H',rt:=Q } (start N vs) H) :
    FnOk P w K mg base CX (k+1) f (PySem.W.fnOf name qual params body scope dV kV doc pm an cdv ct) ps sp:=by
  refine⟨len,fun A outer s H args us vs Q E hr e0 hb r hsp=>?_⟩
  have hl:=len _ _ _ _ hsp
  have KX:K.In s.heap:=e0.mod.kin.keeps fun b o e=>(e0.bs b o e).1
  have lim:s.heap.NoLimit:=e0.mod.nolimit.keeps fun b o e=>(e0.bs b o e).1
  have hkind:∀ y∈ps.zip us,scope.names.lookup y.1=some .local∨(scope.names.lookup y.1=some .cell∧((cellsFrom (s.heap.objs.size+1) scope.names []).lookup y.1).isSome=true):=fun ⟨n,v⟩ hy=>by
    rcases S.par n (List.of_mem_zip hy).1 with q | q
    · exact .inl q
    · exact .inr ⟨q,PySem.W.cellsFrom_some _ _ _ (.inl q)⟩
  refine codeAny_call_function hr.depth (KX _ _ lk) rfl S.co S.gen rfl (PySem.W.codeRec_of KX hcd) (hb _ _ _ _ ?_)
  refine wpAny_newFunctionEnv_cells S.kind hkind fun env he s1 x=>?_
  subst he
  refine⟨lim.keeps x.toInCall.keep,codeAny_func ?_⟩
  obtain⟨t,ht,hq⟩:=hbody A outer s H vs Q E (hr.deeper _) hsp
  have I:Inv (cxOf CX P w K mg base N qual scope f cdv A outer s H E) [] (start N vs) H s1:=inv_start S hr.hd e0 hl r x
  refine wpAny_mono (ht [] s1 (start N vs) H _ I hq) (fun fl s' hs=>?_) fun e s' hs=>hs
  have fin:∀ {σ':St} {H':Hp} {v:V} {u:Value},Inv (cxOf CX P w K mg base N qual scope f cdv A outer s H E) [] σ' H' s'→RelV v u→Q v H'→CE outer P w H s Q u s' :=
    fun {σ' H' v u} J rv q=>⟨v,H',J.os,J.bare,J.base,J.hok,rv,q⟩
  cases fl with
  | ret u =>
    obtain⟨v,σ',H',J,rv,q⟩:=hs
    exact fin J rv q
  | next =>
    obtain⟨σ',H',J,q⟩:=hs
    exact fin (v:=V.non) (u:=Value.none) J rfl q
  | brk =>
    obtain⟨_,_,_,q⟩:=hs
    exact False.elim q
  | cont =>
    obtain⟨_,_,_,q⟩:=hs
    exact False.elim q
end L2

namespace L2
open PySem PySem.Spec PyProof.Rows
section
variable {X:Cx} {x:Str} {p pos:Pos} {e:Expr} {es:List Expr} {t:TA} {id T:String} {r:List V→Hp→VK→Prop}

def tCB (r:List V→Hp→VK→Prop) (t:TA):TE:=fun σ H Q=>t σ H fun vs H1=>r vs H1 Q
theorem pe_callB (hc:CallR X (.builtin id) r) (hg:Gl X x) (hm:X.mg x=none) (hv:bootBuiltins x=some (.builtin id)) (ha:PA X (e :: es) t) (hn:x≠"__name__":=by decide) (hdb:(x == ("__debug__":Str))=false:=by decide)
    (he:starEach (e :: es) X.env=(false,eval e X.env) :: starEach es X.env:=by rfl) (hpl:(backTo pos (starEach es X.env)).any (·.1)=false:=by rfl):PE X (.Call (.Name x p) (e :: es) [] pos) (tCB r t):=by
  intro pins s σ H Q I h
  refine wpAny_Call_Name_kw (ld_blt I hg hm hv ?_ hn hdb)
  exact PyProof.Rows.callWith_builtin1 (thn (ha pos pins s σ H _ I h) fun us s1 ⟨vs,H1,I1,r1,q1⟩=>hc pins s1 σ H1 vs us Q I1 r1 q1) he hpl
theorem pe_callTy (hc:CallR X (.type T) r) (hg:Gl X x) (hm:X.mg x=none) (hv:bootBuiltins x=some (.type T)) (ha:PA X (e :: es) t) (hn:x≠"__name__":=by decide) (hdb:(x == ("__debug__":Str))=false:=by decide)
    (he:starEach (e :: es) X.env=(false,eval e X.env) :: starEach es X.env:=by rfl) (hpl:(backTo pos (starEach es X.env)).any (·.1)=false:=by rfl):PE X (.Call (.Name x p) (e :: es) [] pos) (tCB r t):=by
  intro pins s σ H Q I h
  refine wpAny_Call_Name_kw (ld_blt I hg hm hv ?_ hn hdb)
  exact PyProof.Rows.callWith_type1 (thn (ha pos pins s σ H _ I h) fun us s1 ⟨vs,H1,I1,r1,q1⟩=>hc pins s1 σ H1 vs us Q I1 r1 q1) he hpl
end
end L2

namespace HT
open PySem PyProof.Rows



section
open PySem.SeqAt
open PySem.AutoSeq1 (wpAny_loadPart')
open PySem.MeetsSeq PySem.MeetsSeq2 PySem.MeetsSeq3

end

section
variable {prog:Program} {w:World} {A:Around} {E:Value→Shared→Prop} {s:Shared}



def sIx (n d:Nat):Option Int→Nat
  | none=>d
  | some v=>if v < 0 then (v+(n:Int)).toNat else min v.toNat n
theorem sIx_nat (n d k:Nat):sIx n d (some (k:Int))=min k n:=by
  show (if (k:Int) < 0 then ((k:Int)+(n:Int)).toNat else min (k:Int).toNat n)=min k n
  rw[if_neg (by omega),Int.toNat_natCast]

end
end HT

namespace L2
open PySem PySem.Spec PyProof.Rows

abbrev TO:=St→Hp→(Option Int→Hp→Prop)→Prop
def PO (X:Cx) (e:Option Expr) (t:TO):Prop :=
  ∀ (pins:List (Addr×Obj)) (s:Shared) (σ:St) (H:Hp) (Q:Option Int→Hp→Prop),Inv X pins σ H s→t σ H Q →
    wpAny (model X.prog X.w) X.A (evalPart e X.env) (fun u s'=>∃ o H',Inv X pins σ H' s'∧IsPart u o∧Q o H') X.xe s
def tNoPart:TO:=fun _ H Q=>Q none H
def tPart (t:TE):TO:=fun σ H Q=>t σ H fun x H1=>∃ i,x=.int i∧Q (some i) H1


section
variable {X:Cx} {e:Expr} {te:TE} {lo hi:Option Expr} {tl th:TO} {pos p2:Pos}

theorem po_none:PO X none tNoPart:=by
  intro pins s σ H Q I h
  rw[evalPart_none]
  exact wpAny_pure ⟨none,H,I,.none,h⟩
theorem po_some (h:PE X e te):PO X (some e) (tPart te):=by
  intro pins s σ H Q I hw
  rw[evalPart_some]
  refine thn (h pins s σ H _ I hw) fun u s1 ⟨x,H1,I1,r1,q1⟩=>?_
  obtain⟨i,rfl,q⟩:=q1
  obtain⟨t,rfl⟩:=r1
  exact⟨some i,H1,I1,.int i t,q⟩

def SlR (X:Cx) (r:V→Option Int→Option Int→Hp→VK→Prop):Prop :=
  ∀ (pins:List (Addr×Obj)) (s:Shared) (σ:St) (H:Hp) (x:V) (v vl vu:Value) (lo hi:Option Int) (sl:Addr) (Q:VK),Inv X pins σ H s→RelV x v→s.heap.IsSliceOf sl vl vu .none→IsPart vl lo→IsPart vu hi→r x lo hi H Q →
    ∃ T id,typeLookup (.type T) "__getitem__"=pure (some (.builtin id))∧s.TypeIs v T∧wpAny (model X.prog X.w) X.A (getItem v (.ref sl)) (EP X pins σ Q) X.xe s
def tSl (r:V→Option Int→Option Int→Hp→VK→Prop) (te:TE) (tl th:TO):TE:=fun σ H Q=>te σ H fun x H1=>tl σ H1 fun l H2=>th σ H2 fun u H3=>r x l u H3 Q
theorem pe_slice {r:V→Option Int→Option Int→Hp→VK→Prop} (hr:SlR X r) (he:PE X e te) (hl:PO X lo tl) (hu:PO X hi th):PE X (.Subscript e (.Slice lo hi none p2) pos) (tSl r te tl th):=by
  intro pins s σ H Q I h
  refine Subscript_ (thn (he pins s σ H _ I h) fun v s1 ⟨x,H1,I1,r1,q1⟩=>?_)
  refine wpAny_Slice (thn (hl pins s1 σ H1 _ I1 q1) fun vl s2 ⟨l,H2,I2,pl,q2⟩=>thn (hu pins s2 σ H2 _ I2 q2) fun vu s3 ⟨u,H3,I3,pu,q3⟩=>?_)
  rw[evalPart_none]
  refine wpAny_pure ?_
  have I4:Inv X pins σ H3 { s3 with heap:=s3.heap.push { cls:=.type "slice",data:=.fields #[vl,vu,.none] } }:=I3.kept (t':=s3.toks) fun b ob q=>Heap.get?_push_of_some _ q
  obtain⟨T,id,hT,ht,hg⟩:=hr pins { s3 with heap:=s3.heap.push { cls:=.type "slice",data:=.fields #[vl,vu,.none] } } σ H3 x v vl vu l u s3.heap.objs.size Q I4 r1 (Heap.IsSliceOf.new ..) pl pu q3
  show wpAny (model X.prog X.w) X.A (subscriptTail e (.Slice lo hi none p2) v (.ref s3.heap.objs.size)) (EP X pins σ Q) X.xe { s3 with heap:=s3.heap.push { cls:=.type "slice",data:=.fields #[vl,vu,.none] } }
  exact tail_any (ops:=[.ref s3.heap.objs.size,v]) ht hT hg (by with_unfolding_all rfl)

def cutV (xs:List V) (lo hi:Option Int):List V:=(xs.drop (HT.sIx xs.length 0 lo)).take (HT.sIx xs.length xs.length hi-HT.sIx xs.length 0 lo)
theorem cutV_length (xs:List V) (lo hi:Option Int):(cutV xs lo hi).length≤xs.length:=by
  unfold cutV
  rw[List.length_take,List.length_drop]
  omega

end
end L2

namespace L2
open PySem PySem.Spec PyProof.Rows

def ixN (n:Nat) (i:Int):Option Nat:=if 0≤i then (if i < n then some i.toNat else none) else if -(n:Int)≤i then some (i+n).toNat else none
def atI {α:Type} (xs:List α) (i:Int):Option α:=(ixN xs.length i).bind fun j=>xs[j]?
theorem ixN_seq {n:Nat} {i:Int} {j:Nat} (h:ixN n i=some j):seqIndex? i n=some j∧j < n∧-(n:Int)≤i∧i < n:=by
  unfold ixN at h
  by_cases h0:0≤i
  · rw[if_pos h0] at h
    by_cases h1:i < n
    · rw[if_pos h1] at h
      have e:i.toNat=j:=Option.some.inj h
      exact⟨by rw[seqIndex_of h0 h1,e],by omega,by omega,h1⟩
    · rw[if_neg h1] at h;cases h
  · rw[if_neg h0] at h
    by_cases h1:-(n:Int)≤i
    · rw[if_pos h1] at h
      have e:(i+n).toNat=j:=Option.some.inj h
      exact⟨by rw[seqIndex_neg (by omega) h1,e],by omega,h1,by omega⟩
    · rw[if_neg h1] at h;cases h
theorem atI_get {α:Type} {xs:List α} {i:Int} {v:α} (h:atI xs i=some v):∃ j,seqIndex? i xs.length=some j∧xs[j]?=some v∧j < xs.length∧-(xs.length:Int)≤i∧i < xs.length:=by
  unfold atI at h
  cases e:ixN xs.length i with
  | none=>rw[e] at h;cases h
  | some j =>
    rw[e] at h
    obtain⟨h1,h2,h3,h4⟩:=ixN_seq e
    exact⟨j,h1,h,h2,h3,h4⟩
theorem atI_nat {α:Type} {xs:List α} {j:Nat} {v:α} (h:xs[j]?=some v):atI xs (j:Int)=some v:=by
  have hj:j < xs.length:=(List.getElem?_eq_some_iff.mp h).1
  have e:ixN xs.length (j:Int)=some j:=by
    unfold ixN
    rw[if_pos (by omega),if_pos (by omega)];simp
  unfold atI;rw[e];exact h
theorem atI_last {α:Type} (xs:List α) (v:α):atI (xs++[v]) (-1)=some v:=by
  have hl:(xs++[v]).length=xs.length+1:=by simp
  have e:ixN (xs++[v]).length (-1)=some xs.length:=by
    unfold ixN
    rw[hl,if_neg (by decide),if_pos (by omega)]
    congr 1
    omega
  unfold atI
  rw[e]
  show (xs++[v])[xs.length]?=some v
  simp

def PlainIx (b:Expr):Prop:=∀ o i,subscripted b false o i=operate [o,i] (getItem o i)
def IxR (X:Cx) (r:R2):Prop :=
  ∀ (value slice:Expr) (pins:List (Addr×Obj)) (s:Shared) (σ:St) (H:Hp) (x y:V) (v u:Value) (Q:VK),Inv X pins σ H s→RelV x v→RelV y u→r x y H Q →
    subscripted slice false v u=operate [v,u] (getItem v u)→wpAny (model X.prog X.w) X.A (subscriptTail value slice v u) (EP X pins σ Q) X.xe s
def MtR (X:Cx) (id:String) (r:V→List V→Hp→VK→Prop):Prop :=
  ∀ (pins:List (Addr×Obj)) (s:Shared) (σ:St) (H:Hp) (x:V) (xs:List V) (v:Value) (us:List Value) (Q:VK),Inv X pins σ H s→RelV x v→Vals xs us→r x xs H Q →
    wpAny (model X.prog X.w) X.A (call (.builtin id) (v :: us)) (EP X pins σ Q) X.xe s
section
variable {X:Cx} {a b:Expr} {ta tb:TE} {pos:Pos}
theorem pe_ix {r:R2} (hr:IxR X r) (ha:PE X a ta) (hb:PE X b tb) (hs:PlainIx b):PE X (.Subscript a b pos) (tOp r ta tb):=by
  intro pins s σ H Q I h
  exact Subscript_ (binT ha hb I h fun v u s2 x y H2 I2 rx ry q=>hr a b pins s2 σ H2 x y v u Q I2 rx ry q (hs _ _))

def rIxL (K:PySem.W.Frag):R2:=fun x y H Q=>∃ p xs i v,x=.ref p∧y=.int i∧SqL K H p xs∧atI xs i=some v∧Q v H
def rIxT (K:PySem.W.Frag):R2:=fun x y H Q=>∃ p xs i v,x=.ref p∧y=.int i∧SqT K H p xs∧atI xs i=some v∧Q v H
def rIxS:R2:=fun x y H Q=>∃ z i c,x=.str z∧y=.int i∧z.length≤sizeLine∧atI z.cps.toList i=some c∧Q (.str ⟨#[c]⟩) H
theorem ix_list:IxR X (rIxL X.K):=by
  intro value slice pins s σ H x y v u Q I rx ry h hs
  obtain⟨p,xs,i,z,rfl,rfl,hq,he,q⟩:=h
  cases rx
  obtain⟨t,rfl⟩:=ry
  obtain⟨its,r,pl,hz⟩:=I.list hq
  obtain⟨j,h1,h2,h3,h4,h5⟩:=atI_get he
  obtain⟨w,ew,rw'⟩:=r.get h2
  have hl:=r.length
  have hn:=line63
  have fin:EP X pins σ Q w s:=⟨z,H,I,rw',q⟩
  by_cases h0:0≤i
  · have hj:i.toNat=j:=by
      rw[seqIndex_of h0 h5] at h1
      exact Option.some.inj h1
    exact item_listR pl.isList h0 (by omega) (by rw[hj];simpa using ew) fin hs
  · have hj:(i+(its.toArray.size:Int)).toNat=j:=by
      rw[seqIndex_neg (by omega) h4] at h1
      rw[List.size_toArray,← hl]
      exact Option.some.inj h1
    exact subscriptTail_builtinR (x:=w) pl.isList.typeIs slot_list_getitem.lookup
      (wpAny_getItem_list_neg (Q:=fun r s'=>r=w∧EP X pins σ Q r s') pl.isList (by omega) (by rw[List.size_toArray] <;> omega) (by omega) (by rw[hj];simpa using ew) ⟨rfl,fin⟩) hs
theorem ix_tup:IxR X (rIxT X.K):=by
  intro value slice pins s σ H x y v u Q I rx ry h hs
  obtain⟨p,xs,i,z,rfl,rfl,hq,he,q⟩:=h
  cases rx
  obtain⟨t,rfl⟩:=ry
  obtain⟨its,r,pl,hz⟩:=I.tuple hq
  obtain⟨j,h1,h2,h3,h4,h5⟩:=atI_get he
  obtain⟨w,ew,rw'⟩:=r.get h2
  have hl:=r.length
  have hn:=line63
  have fin:EP X pins σ Q w s:=⟨z,H,I,rw',q⟩
  exact subscriptTail_builtinR (x:=w) pl.typeIs slot_tuple_getitem.lookup
    (getItem_tuple (j:=j) (Q:=fun r s'=>r=w∧EP X pins σ Q r s') pl (by omega) (by omega) (by rw[List.size_toArray,← hl];exact h1) (by simpa using ew) ⟨rfl,fin⟩) hs
theorem ix_str:IxR X rIxS:=by
  intro value slice pins s σ H x y v u Q I rx ry h hs
  obtain⟨z,i,c,rfl,rfl,hz,he,q⟩:=h
  obtain⟨t,rfl⟩:=rx
  obtain⟨t',rfl⟩:=ry
  obtain⟨j,h1,h2,h3,h4,h5⟩:=atI_get he
  have hl:z.cps.toList.length=z.length:=by simp[Str.length]
  rw[hl] at h1 h4 h5
  have hn:=line63
  exact tail_any (typeIs_str s z t) slot_str_getitem.lookup (getItem_str (c:=c) (by
    have e1:decide (i < -(2 ^ 63:Int))=false:=decide_eq_false (by omega)
    have e2:decide (i ≥ 2 ^ 63)=false:=decide_eq_false (by omega)
    rw[e1,e2,Bool.or_false]) (by rw[h1];simpa using h2) ⟨.str ⟨#[c]⟩,H,I.tok _,⟨_,rfl⟩,q⟩) hs

theorem mapSeq_set (its:List Value) (n j:Nat) (u:Value):Obj.mapSeq (·.setIfInBounds j u) { cls:=.type "list",data:=.seq its.toArray n }={ cls:=.type "list",data:=.seq (its.set j u).toArray n }:=by
  simp[Obj.mapSeq]
theorem Inv.lst {pins:List (Addr×Obj)} {σ:St} {H:Hp} {s:Shared} {p:Addr} {xs:List V} (I:Inv X pins σ H s) (h:H p=some (.lst xs)) :
    ∃ (its:List Value) (n:Nat),Vals xs its∧s.heap.get? p=some { cls:=.type "list",data:=.seq its.toArray n }∧xs.length≤sizeLine:=by
  obtain⟨z,its,n,r,e⟩:=I.hok p _ h
  exact⟨its,n,r,e,z⟩
theorem Inv.lstUpd {pins:List (Addr×Obj)} {σ:St} {H:Hp} {s:Shared} {p:Addr} {xs ys:List V} {its its':List Value} {n n':Nat} {f:Obj→Obj} (I:Inv X pins σ H s) (h:H p=some (.lst xs))
    (ho:s.heap.get? p=some { cls:=.type "list",data:=.seq its.toArray n }) (hf:f { cls:=.type "list",data:=.seq its.toArray n }={ cls:=.type "list",data:=.seq its'.toArray n' }) (r:Vals ys its') (hz:ys.length≤sizeLine) (t:Nat) :
    Inv X pins σ (upd H p (.lst ys)) { s with heap:=s.heap.update p f,toks:=t }:=by
  have e:(s.heap.update p f).get? p=some { cls:=.type "list",data:=.seq its'.toArray n' }:=by
    rw[Heap.get?_update_self f ho (by rw[hf] <;> rfl),hf]
  refine I.write (x:=p) (e:=p) (by rw[h];trivial) (.inl rfl) (fun b u hb q=>(Heap.get?_update_other _ _ (Ne.symm hb)).trans q) ⟨_,e⟩ ?_
  exact⟨hz,its',n',r,e⟩
def rSetL:V→V→V→Hp→(Hp→Prop)→Prop:=fun o i v H Q=>∃ p xs k j,o=.ref p∧i=.int k∧H p=some (.lst xs)∧ixN xs.length k=some j∧Q (upd H p (.lst (xs.set j v)))
theorem set_list:PSet X rSetL:=by
  intro pins s σ H o i v ov iv u Q I ro ri rv h
  obtain⟨p,xs,k,j,rfl,rfl,hp,hj,q⟩:=h
  cases ro
  obtain⟨t,rfl⟩:=ri
  obtain⟨its,n,r,ho,hz⟩:=I.lst hp
  obtain⟨h1,h2,h3,h4⟩:=ixN_seq hj
  have hl:=r.length
  have hn:=line63
  have I':Inv X pins σ (upd H p (.lst (xs.set j v))) { s with heap:=s.heap.update p (Obj.mapSeq (·.setIfInBounds j u)) } :=
    I.lstUpd hp ho (mapSeq_set its n j u) (r.set rv j) (by rw[List.length_set];exact hz) s.toks
  by_cases h0:0≤k
  · have hk:k.toNat=j:=by
      rw[seqIndex_of h0 h4] at h1
      exact Option.some.inj h1
    exact PySem.W.ki_setAt ho h0 (by omega) (by rw[List.size_toArray,← hl];exact h4) (by rw[hk];exact⟨_,I',q⟩)
  · have hk:(k+(its.toArray.size:Int)).toNat=j:=by
      rw[seqIndex_neg (by omega) h3] at h1
      rw[List.size_toArray,← hl]
      exact Option.some.inj h1
    exact PySem.W.ki_setBack ho (by omega) (by rw[List.size_toArray,← hl];exact h3) (by omega) (by rw[hk];exact⟨_,I',q⟩)

theorem slice_bounds (lo hi:Option Int) (n:Nat):(sliceBounds lo hi none n).1=((HT.sIx n 0 lo:Nat):Int)∧(sliceBounds lo hi none n).2.1=((HT.sIx n n hi:Nat):Int)∧(sliceBounds lo hi none n).2.2=1:=by
  refine⟨?_,?_,rfl⟩
  · cases lo with
    | none=>simp[sliceBounds,HT.sIx]
    | some i =>
      simp only[sliceBounds,HT.sIx,Option.getD_none,show (1:Int) > 0 by decide,if_true]
      by_cases h:i < 0
      · simp only[h,if_true] <;> omega
      · simp only[h,if_false] <;> omega
  · cases hi with
    | none=>simp[sliceBounds,HT.sIx]
    | some i =>
      simp only[sliceBounds,HT.sIx,Option.getD_none,show (1:Int) > 0 by decide,if_true]
      by_cases h:i < 0
      · simp only[h,if_true] <;> omega
      · simp only[h,if_false] <;> omega
theorem slicePick_cut (its:List Value) (lo hi:Option Int):slicePick its.toArray lo hi none=((its.drop (HT.sIx its.length 0 lo)).take (HT.sIx its.length its.length hi-HT.sIx its.length 0 lo)).toArray:=by
  obtain⟨h1,h2,h3⟩:=slice_bounds lo hi its.toArray.size
  unfold slicePick
  rw[h1,h2,h3]
  simp only[sliceRange_one,pick_run,List.size_toArray] <;> rfl
def rSlL (K:PySem.W.Frag):V→Option Int→Option Int→Hp→VK→Prop:=fun x lo hi H Q=>∃ a xs,x=.ref a∧SqL K H a xs∧∀ p,H p=none→Q (.ref p) (upd H p (.lst (cutV xs lo hi)))
theorem sl_list:SlR X (rSlL X.K):=by
  intro pins s σ H x v vl vu lo hi sl Q I rx hs pl pu h
  obtain⟨a,xs,rfl,hx,q⟩:=h
  cases rx
  obtain⟨its,r,ht,hz⟩:=I.list hx
  have hlen:=r.length
  refine⟨"list",_,slot_list_getitem.lookup,ht.isList.typeIs,?_⟩
  refine wpAny_getItem_list_slice ht.isList hs pl pu .none (by simp) ?_ (by rw[List.size_toArray] <;> omega)
  rw[slicePick_cut,← hlen]
  refine⟨.ref s.heap.objs.size,_,I.laid (t':=s.toks) (o:=.lst (cutV xs lo hi)) (fun b ob q=>Heap.get?_push_of_some _ q) (Nat.le_refl _) ?_,rfl,q _ (I.hok.fresh (Nat.le_refl _))⟩
  exact⟨Nat.le_trans (cutV_length xs lo hi) hz,_,0,(r.drop (HT.sIx xs.length 0 lo)).take (HT.sIx xs.length xs.length hi-HT.sIx xs.length 0 lo),Heap.get?_push_size _ rfl⟩

def flatV:V→Bool
  | .non=>true
  | .bl _=>true
  | .int _=>true
  | .str _=>true
  | _=>false
def eqV:V→V→Bool
  | .non,.non=>true
  | .bl a,.bl b=>a == b
  | .bl a,.int b=>(if a then 1 else 0) == b
  | .int a,.bl b=>a == (if b then 1 else 0)
  | .int a,.int b=>a == b
  | .str a,.str b=>a == b
  | _,_=>false
theorem eqAt_V {A:Around} {s:Shared} {y x:V} {u v:Value} (ry:RelV y u) (rx:RelV x v) (fy:flatV y=true) (fx:flatV x=true):SeqAt.EqAt A s u v (eqV y x):=by
  cases y with
  | non =>
    cases ry
    cases x with
    | non=>cases rx;exact SeqAt.EqAt.same _
    | bl b=>cases rx;exact SeqAt.EqAt.none_bool b
    | int b=>obtain⟨t,rfl⟩:=rx;exact SeqAt.EqAt.none_int b t
    | str b=>obtain⟨t,rfl⟩:=rx;exact SeqAt.EqAt.none_str b t
    | _=>exact absurd (show false=true from fx) Bool.false_ne_true
  | bl a =>
    cases ry
    cases x with
    | non=>cases rx;exact SeqAt.EqAt.bool_none a
    | bl b=>cases rx;exact SeqAt.EqAt.bool_bool a b
    | int b=>obtain⟨t,rfl⟩:=rx;exact SeqAt.EqAt.bool_int a b t
    | str b=>obtain⟨t,rfl⟩:=rx;exact SeqAt.EqAt.bool_str a b t
    | _=>exact absurd (show false=true from fx) Bool.false_ne_true
  | int a =>
    obtain⟨t',rfl⟩:=ry
    cases x with
    | non=>cases rx;exact SeqAt.EqAt.int_none a t'
    | bl b=>cases rx;exact SeqAt.EqAt.int_bool a t' b
    | int b=>obtain⟨t,rfl⟩:=rx;exact SeqAt.EqAt.int_int a t' b t
    | str b=>obtain⟨t,rfl⟩:=rx;exact SeqAt.EqAt.int_str a t' b t
    | _=>exact absurd (show false=true from fx) Bool.false_ne_true
  | str a =>
    obtain⟨t',rfl⟩:=ry
    cases x with
    | non=>cases rx;exact SeqAt.EqAt.str_none a t'
    | bl b=>cases rx;exact SeqAt.EqAt.str_bool a t' b
    | int b=>obtain⟨t,rfl⟩:=rx;exact SeqAt.EqAt.str_int a t' b t
    | str b=>obtain⟨t,rfl⟩:=rx;exact SeqAt.EqAt.str_str a t' b t
    | _=>exact absurd (show false=true from fx) Bool.false_ne_true
  | _=>exact absurd (show false=true from fy) Bool.false_ne_true
def eqU (x:V) (u:Value):Bool:=match u with
  | .none=>eqV .non x
  | .bool b=>eqV (.bl b) x
  | .int i _=>eqV (.int i) x
  | .str z _=>eqV (.str z) x
  | _=>false
theorem eqU_of {x y:V} {u:Value} (r:RelV y u) (f:flatV y=true):eqU x u=eqV y x:=by
  cases y with
  | non=>cases r;rfl
  | bl b=>cases r;rfl
  | int i=>obtain⟨t,rfl⟩:=r;rfl
  | str z=>obtain⟨t,rfl⟩:=r;rfl
  | _=>exact absurd (show false=true from f) Bool.false_ne_true
theorem any_eqU {x:V}:∀ {xs:List V} {us:List Value},Vals xs us→xs.all flatV=true→us.any (eqU x)=xs.any fun y=>eqV y x
  | _,_,.nil,_=>rfl
  | y :: xs,u :: us,.cons r t,f=>by
    rw[List.all_cons,Bool.and_eq_true] at f
    rw[List.any_cons,List.any_cons,eqU_of r f.1,any_eqU t f.2]
theorem mem_eqAt {A:Around} {s:Shared} {x:V} {v:Value} (rx:RelV x v) (fx:flatV x=true):∀ {xs:List V} {us:List Value},Vals xs us→xs.all flatV=true→∀ u∈us,SeqAt.EqAt A s u v (eqU x u)
  | _,_,.nil,_=>fun u hu=>by cases hu
  | y :: xs,u :: us,.cons r t,f=>fun u' hu=>by
    rw[List.all_cons,Bool.and_eq_true] at f
    rcases List.mem_cons.mp hu with rfl | hu
    · rw[eqU_of r f.1];exact eqAt_V r rx f.1 fx
    · exact mem_eqAt rx fx t f.2 u' hu
def inV (x:V) (xs:List V):Bool:=xs.any fun y=>eqV y x
def rIn (K:PySem.W.Frag) (neg:Bool):R2:=fun x y H Q=>∃ p xs,y=.ref p∧(SqL K H p xs∨SqT K H p xs)∧flatV x=true∧xs.all flatV=true∧Q (.bl (if neg then !inV x xs else inV x xs)) H
theorem op_in_seq:OpR X (compareOp .In) (rIn X.K false):=by
  intro pins s σ H x y v u Q I rx ry h
  obtain⟨p,xs,rfl,hq,fx,fs,q⟩:=h
  cases ry
  rcases hq with hq | hq
  · obtain⟨its,r,pl,hz⟩:=I.list hq
    refine SeqAt.in_listAt (eqU x) pl.isList (fun w hw=>mem_eqAt rx fx r fs w (by simpa using hw)) ⟨.bl _,H,I,rfl,?_⟩
    rw[show its.toArray.any (eqU x)=its.any (eqU x) by simp,any_eqU r fs]
    exact q
  · obtain⟨its,r,pl,hz⟩:=I.tuple hq
    refine SeqAt.in_tupleAt (eqU x) pl (fun w hw=>mem_eqAt rx fx r fs w (by simpa using hw)) ⟨.bl _,H,I,rfl,?_⟩
    rw[show its.toArray.any (eqU x)=its.any (eqU x) by simp,any_eqU r fs]
    exact q
theorem op_notIn_seq:OpR X (compareOp .NotIn) (rIn X.K true):=by
  intro pins s σ H x y v u Q I rx ry h
  obtain⟨p,xs,rfl,hq,fx,fs,q⟩:=h
  cases ry
  rcases hq with hq | hq
  · obtain⟨its,r,pl,hz⟩:=I.list hq
    refine SeqAt.notIn_listAt (eqU x) pl.isList (fun w hw=>mem_eqAt rx fx r fs w (by simpa using hw)) ⟨.bl _,H,I,rfl,?_⟩
    rw[show its.toArray.any (eqU x)=its.any (eqU x) by simp,any_eqU r fs]
    exact q
  · obtain⟨its,r,pl,hz⟩:=I.tuple hq
    refine SeqAt.notIn_tupleAt (eqU x) pl (fun w hw=>mem_eqAt rx fx r fs w (by simpa using hw)) ⟨.bl _,H,I,rfl,?_⟩
    rw[show its.toArray.any (eqU x)=its.any (eqU x) by simp,any_eqU r fs]
    exact q

theorem call_len_seq:CallR X (.builtin "len") (fun xs H Q=>∃ p ys,xs=[.ref p]∧(SqL X.K H p ys∨SqT X.K H p ys)∧Q (.int ys.length) H):=by
  intro pins s σ H xs us Q I r h
  obtain⟨p,ys,rfl,hq,q⟩:=h
  obtain⟨u,rfl,rx⟩:=vals1 r
  cases rx
  have hn:=line63
  rcases hq with hq | hq
  · obtain⟨its,r',pl,hz⟩:=I.list hq
    have hlen:=r'.length
    exact Calls.call_len_list pl.isList (by simp only[List.size_toArray] <;> omega) ⟨.int ys.length,H,I.tok _,⟨s.toks+1,by rw[List.size_toArray,hlen]⟩,q⟩
  · obtain⟨its,r',pl,hz⟩:=I.tuple hq
    have hlen:=r'.length
    exact len_tuple pl (by simp only[List.size_toArray] <;> omega) ⟨.int ys.length,H,I.tok _,⟨s.toks+1,by rw[List.size_toArray,hlen]⟩,q⟩
theorem call_len_str:CallR X (.builtin "len") (fun xs H Q=>∃ z,xs=[.str z]∧z.length≤sizeLine∧Q (.int z.length) H):=by
  intro pins s σ H xs us Q I r h
  obtain⟨z,rfl,hz,q⟩:=h
  obtain⟨u,rfl,t,rfl⟩:=vals1 r
  have hn:=line63
  exact len_str (by omega) ⟨.int z.length,H,I.tok _,⟨_,rfl⟩,q⟩
theorem call_list_of:CallR X (.type "list") (fun xs H Q=>∃ p ys,xs=[.ref p]∧(SqL X.K H p ys∨SqT X.K H p ys)∧∀ l,H l=none→Q (.ref l) (upd H l (.lst ys))):=by
  intro pins s σ H xs us Q I r h
  obtain⟨p,ys,rfl,hq,q⟩:=h
  obtain⟨u,rfl,rx⟩:=vals1 r
  cases rx
  have fin:∀ (its:List Value),Vals ys its→ys.length≤sizeLine→∀ (h':Heap) (c':Nat),(∀ b o',s.heap.get? b=some o'→h'.get? b=some o') →
      h'.get? s.heap.objs.size=some { cls:=.type "list",dict:=none,data:=.seq its.toArray c',slots:=#[] }→EP X pins σ Q (.ref s.heap.objs.size) { s with heap:=h' }:=fun its r' hz h' c' kp e =>
    ⟨.ref s.heap.objs.size,_,I.laid (t':=s.toks) kp (Nat.le_refl _) (show ObjOk X.prog X.w _ h' _ (.lst ys) from ⟨hz,its,c',r',e⟩),rfl,q _ (I.hok.fresh (Nat.le_refl _))⟩
  rcases hq with hq | hq
  · obtain⟨its,r',pl,hz⟩:=I.list hq
    have hlen:=r'.length
    obtain⟨o,ho,hc,n,hd⟩:=pl.isList
    exact call_list_seq p (.inl rfl) ho hc hd (fun h' c' kp e=>fin its r' hz h' c' kp e) (by simp only[List.size_toArray] <;> omega)
  · obtain⟨its,r',pl,hz⟩:=I.tuple hq
    have hlen:=r'.length
    obtain⟨o,ho,hc,n,hd⟩:=pl
    exact call_list_seq p (.inr rfl) ho hc hd (fun h' c' kp e=>fin its r' hz h' c' kp e) (by simp only[List.size_toArray] <;> omega)
theorem call_tuple_of:CallR X (.type "tuple") (fun xs H Q=>∃ p ys,xs=[.ref p]∧((SqL X.K H p ys∧∀ l,H l=none→Q (.ref l) (upd H l (.tup ys)))∨(SqT X.K H p ys∧Q (.ref p) H))):=by
  intro pins s σ H xs us Q I r h
  obtain⟨p,ys,rfl,h⟩:=h
  obtain⟨u,rfl,rx⟩:=vals1 r
  cases rx
  rcases h with ⟨hq,q⟩ | ⟨hq,q⟩
  · obtain⟨its,r',pl,hz⟩:=I.list hq
    have hlen:=r'.length
    refine call_tuple_list pl.isList (fun h' kp=>?_) (by simp only[List.size_toArray] <;> omega)
    have I1:Inv X pins σ H { s with heap:=h' }:=I.kept (t':=s.toks) kp
    have I2:Inv X pins σ (upd H h'.objs.size (.tup ys)) { s with heap:=h'.push { cls:=.type "tuple",data:=.seq its.toArray } } :=
      I1.laid (t':=s.toks) (fun b o e=>Heap.get?_push_of_some _ e) (Nat.le_refl _) (show ObjOk X.prog X.w _ _ _ (.tup ys) from ⟨hz,its,r',IsTup.new _ _⟩)
    exact⟨.ref h'.objs.size,_,I2,rfl,q _ (I1.hok.fresh (Nat.le_refl _))⟩
  · obtain⟨its,r',pl,hz⟩:=I.tuple hq
    exact call_tuple_same pl ⟨.ref p,H,I,rfl,q⟩

def tyV (K:PySem.W.Frag) (T:String) (x:V) (H:Hp):Prop:=match x with
  | .str _=>T="str"
  | .int _=>T="int"
  | .ref p=>(T="list"∧∃ xs,SqL K H p xs)∨(T="tuple"∧∃ o,K.lookup p=some o∧o.cls=.type "tuple"∧o.dict=none) ∨
      (T="dict"∧((∃ kvs,H p=some (.dK kvs))∨∃ kvs,H p=some (.dT kvs)))∨(T="set"∧∃ S n,H p=some (.set S n))
  | _=>False
theorem tyV_is {pins:List (Addr×Obj)} {σ:St} {H:Hp} {s:Shared} {T:String} {x:V} {v:Value} (I:Inv X pins σ H s) (r:RelV x v) (ty:tyV X.K T x H) :
    s.TypeIs v T∧∀ a,v=.ref a→∃ ob,s.heap.get? a=some ob∧ob.dict=none:=by
  cases x with
  | str z =>
    obtain⟨t,rfl⟩:=r
    cases (show T="str" from ty)
    exact⟨typeIs_str s z t,fun _ e=>nomatch e⟩
  | int i =>
    obtain⟨t,rfl⟩:=r
    cases (show T="int" from ty)
    exact⟨typeIs_int s i t,fun _ e=>nomatch e⟩
  | ref p =>
    cases r
    rcases ty with ⟨rfl,xs,hq⟩ | ⟨rfl,o,hk,hc,hd⟩ | ⟨rfl,hk⟩ | ⟨rfl,S,n,hk⟩
    · obtain⟨its,_,pl,_⟩:=I.list hq
      refine⟨pl.isList.typeIs,fun a e=>?_⟩
      cases e
      obtain⟨o,n,e,c,hd,_⟩:=pl
      exact⟨o,e,hd⟩
    · refine⟨⟨o,I.kIn p o hk,hc⟩,fun a e=>?_⟩
      cases e
      exact⟨o,I.kIn _ o hk,hd⟩
    · have z:∃ o,s.heap.get? p=some o∧o.ExactDict:=by
        rcases hk with ⟨kvs,hk⟩ | ⟨kvs,hk⟩
        · obtain⟨_,_,_,_,o,_,_,e,ex,_⟩:=I.hok p _ hk
          exact⟨o,e,ex⟩
        · obtain⟨_,_,_,_,o,_,_,e,ex,_⟩:=I.hok p _ hk
          exact⟨o,e,ex⟩
      obtain⟨o,e,ex⟩:=z
      refine⟨⟨o,e,ex.1⟩,fun a e2=>?_⟩
      cases e2
      exact⟨o,e,ex.2.1⟩
    · obtain⟨o,_,_,_,e,ex,_⟩:=I.hok p _ hk
      refine⟨⟨o,e,ex.1⟩,fun a e2=>?_⟩
      cases e2
      exact⟨o,e,ex.2.1⟩
  | _=>exact False.elim ty
def tBM (K:PySem.W.Frag) (T:String) (r:V→List V→Hp→VK→Prop) (to:TE) (t:TA):TE:=fun σ H Q=>to σ H fun x H1=>tyV K T x H1∧t σ H1 fun xs H2=>r x xs H2 Q
variable {o e:Expr} {es:List Expr} {to:TE} {t:TA} {name:Str} {apos cpos:Pos} {T id:String} {r:V→List V→Hp→VK→Prop}
theorem pe_bm (pa:PlainAttrs T) (slot:Slot T name id) (hty:typeOf (.builtin id)=pure (.type "method_descriptor")) (hm:MtR X id r) (ho:PE X o to) (ha:PA X (e :: es) t)
    (hbase:attributeBase o name X.env (eval o X.env)=eval o X.env:=by rfl)
    (hfew:((backTo cpos (starEach (e :: es) X.env)).all (fun x=>!x.1) && (backToKw cpos (keywordEach [] X.env)).all (fun x=>x.1.isSome)
      && decide ((e :: es).length+([]:List Keyword).length+(if ([]:List Keyword).isEmpty then 0 else 1) < 30))=true:=by rfl)
    (hline:(apos.endLine == cpos.line)=true:=by rfl) (hs:starEach (e :: es) X.env=(false,eval e X.env) :: starEach es X.env:=by rfl) (hplain:(backTo cpos (starEach es X.env)).any (·.1)=false:=by rfl) :
    PE X (.Call (.Attribute o name apos) (e :: es) [] cpos) (tBM X.K T r to t):=by
  intro pins s σ H Q I h
  refine wpAny_Call_method_late hbase hfew hline rfl (thn (ho pins s σ H _ I h) fun v s1 ⟨x,H1,I1,r1,ty,q1⟩=>?_)
  obtain⟨h1,h2⟩:=tyV_is I1 r1 ty
  refine⟨T,id,pa,slot,hty,h1,h2,?_⟩
  have hA:=ha cpos pins s1 σ H1 _ I1 q1
  rw[hs] at hA ⊢
  refine Calls.callWith_builtin (by show (false || (backTo cpos (starEach es X.env)).any (·.1))=false;rw[hplain] <;> rfl) (Calls.evalArgs_plain ?_)
  exact thn hA fun us s2 ⟨vs,H2,I2,r2,q2⟩=>hm pins s2 σ H2 x vs v us Q I2 r1 r2 q2
end
end L2

namespace L2
open PySem PySem.Spec PyProof.Rows

def MtM (X:Cx) (id:String) (r:V→List V→Hp→VK→Prop):Prop :=
  ∀ (pins:List (Addr×Obj)) (s:Shared) (σ:St) (H:Hp) (x:V) (xs:List V) (v:Value) (us:List Value) (Q:VK),Inv X pins σ H s→RelV x v→Vals xs us→r x xs H Q →
    wpAny (model X.prog X.w) X.A (call (.builtin id) (v :: us)) (EP X pins σ Q) X.xe s

theorem Vals.one:∀ {x:V} {us:List Value},Vals [x] us→∃ u,us=[u]∧RelV x u
  | _,_,.cons r .nil=>⟨_,rfl,r⟩
theorem Vals.rep {xs:List V} {us:List Value} (h:Vals xs us):∀ k:Nat,Vals (List.replicate k xs).flatten (List.replicate k us).flatten
  | 0=>.nil
  | k+1=>by
    rw[List.replicate_succ,List.replicate_succ,List.flatten_cons,List.flatten_cons]
    exact Vals.append h (Vals.rep h k)
theorem foldl_rep (its:List Value):∀ (k:Nat) (acc:List Value),
    List.foldl (fun x1 x2=>x1++x2) acc.toArray (List.replicate k its.toArray)=(acc++(List.replicate k its).flatten).toArray
  | 0,acc=>by simp
  | k+1,acc=>by
    have e:acc.toArray++its.toArray=(acc++its).toArray:=by simp
    have e2:(acc++its)++(List.replicate k its).flatten=acc++(List.replicate (k+1) its).flatten:=by
      rw[List.replicate_succ,List.flatten_cons,List.append_assoc]
    rw[← e2,← foldl_rep its k (acc++its),← e,List.replicate_succ,List.foldl_cons]

section
variable {X:Cx} {pins:List (Addr×Obj)} {σ:St} {H:Hp} {s:Shared} {l b:Addr} {xs ys zs:List V}

theorem Inv.lset {its its':List Value} {n:Nat} {f:Array Value→Array Value} {t':Nat} (I:Inv X pins σ H s) (hH:H l=some (.lst xs))
    (e:s.heap.get? l=some { cls:=.type "list",data:=.seq its.toArray n }) (hf:f its.toArray=its'.toArray) (hv:Vals ys its') (hz:ys.length≤sizeLine) :
    Inv X pins σ (upd H l (.lst ys)) { s with heap:=s.heap.update l (Obj.mapSeq f),toks:=t' }:=by
  have q:=PySem.IsL.update e f
  rw[hf] at q
  refine I.write (x:=l) (e:=l) (by rw[hH];exact trivial) (.inl rfl) (fun b' u hb hu=>(Heap.get?_update_other s.heap (Obj.mapSeq f) (Ne.symm hb)).trans hu) ⟨_,q⟩ ?_
  exact⟨hz,its',_,hv,q⟩
theorem Inv.lnew {its:List Value} {t':Nat} (I:Inv X pins σ H s) (hv:Vals ys its) (hz:ys.length≤sizeLine) :
    Inv X pins σ (upd H s.heap.objs.size (.lst ys)) { s with heap:=s.heap.push { cls:=.type "list",data:=.seq its.toArray },toks:=t' } :=
  I.laid (fun _ _ q=>Heap.get?_push_of_some _ q) (Nat.le_refl _) ⟨hz,its,0,hv,Heap.get?_push_size _ rfl⟩
theorem Inv.fresh (I:Inv X pins σ H s):H s.heap.objs.size=none:=I.hok.fresh (Nat.le_refl _)
theorem Inv.lstM (I:Inv X pins σ H s) (hH:H l=some (.lst xs)):xs.length≤sizeLine∧∃ (its:List Value) (n:Nat),Vals xs its∧xs.length=its.length∧s.heap.get? l=some { cls:=.type "list",data:=.seq its.toArray n }:=by
  obtain⟨z,its,n,r,e⟩:=I.hok l _ hH
  exact⟨z,its,n,r,r.length,e⟩

theorem notLongL {n:Nat} (h:n≤sizeLine):Builtin.List.listTooLong n=false:=by
  unfold Builtin.List.listTooLong
  exact decide_eq_false (by omega)
end

section
variable {X:Cx}

def rAppend:V→List V→Hp→VK→Prop:=fun x vs H Q=>∃ l xs y,x=.ref l∧vs=[y]∧H l=some (.lst xs)∧xs.length < sizeLine∧Q .non (upd H l (.lst (xs++[y])))
theorem mt_append:MtM X "list.append" rAppend:=by
  intro pins s σ H x vs v us Q I rx rv h
  obtain⟨l,xs,y,rfl,rfl,hH,hz,q⟩:=h
  cases rx
  obtain⟨u,rfl,ru⟩:=rv.one
  obtain⟨z,its,n,r,hl,e⟩:=I.lstM hH
  refine call_meets F.slot_list_append ⟨_,e,rfl⟩ F.entry_list_append (F.args_list_append_2 _ _) (PySem.list_append l its.toArray n u (by rw[List.size_toArray];omega)) ⟨e,?_⟩
  refine⟨.non,_,I.lset (its':=its++[u]) hH e (by simp) (r.append (.cons ru .nil)) ?_,rfl,q⟩
  rw[List.length_append,List.length_singleton]
  omega

def rExtend:V→List V→Hp→VK→Prop:=fun x vs H Q=>∃ l b xs zs,x=.ref l∧vs=[.ref b]∧H l=some (.lst xs)∧H b=some (.lst zs)∧xs.length+zs.length≤sizeLine∧Q .non (upd H l (.lst (xs++zs)))
theorem mt_extend:MtM X "list.extend" rExtend:=by
  intro pins s σ H x vs v us Q I rx rv h
  obtain⟨l,b,xs,zs,rfl,rfl,hH,hB,hz,q⟩:=h
  cases rx
  obtain⟨u,rfl,ru⟩:=rv.one
  cases ru
  obtain⟨z,its,n,r,hl,e⟩:=I.lstM hH
  obtain⟨z2,its2,n2,r2,hl2,e2⟩:=I.lstM hB
  have hsz:its.toArray.size+its2.toArray.size≤sizeLine:=by rw[List.size_toArray,List.size_toArray];omega
  have hlong:¬ (!its.toArray.isEmpty && Builtin.List.listTooLong (its.toArray.size+its2.toArray.size))=true:=by
    rw[notLongL hsz,Bool.and_false]
    exact Bool.false_ne_true
  refine call_meets F.slot_list_extend ⟨_,e,rfl⟩ F.entry_list_extend (F.args_list_extend_2 _ _)
    (AutoSeq1.list_extend_list_list_0 l its.toArray n b its2.toArray n2 hlong (by rw[List.size_toArray];omega) (by omega)) ⟨e,e2,?_⟩
  refine⟨.non,_,I.lset (its':=its++its2) hH e (by simp) (r.append r2) ?_,rfl,q⟩
  rw[List.length_append]
  omega





def rCat:R2:=fun x y H Q=>∃ l b xs zs,x=.ref l∧y=.ref b∧H l=some (.lst xs)∧H b=some (.lst zs)∧xs.length+zs.length≤sizeLine∧∀ p,H p=none→Q (.ref p) (upd H p (.lst (xs++zs)))
theorem op_cat:OpR X (binaryOp .Add) rCat:=by
  intro pins s σ H x y v u Q I rx ry h
  obtain⟨l,b,xs,zs,rfl,rfl,hH,hB,hz,q⟩:=h
  cases rx
  cases ry
  obtain⟨z,its,n,r,hl,e⟩:=I.lstM hH
  obtain⟨z2,its2,n2,r2,hl2,e2⟩:=I.lstM hB
  refine PySem.P.add_list e e2 ?_ (by rw[List.size_toArray,List.size_toArray];omega)
  have ea:its.toArray++its2.toArray=(its++its2).toArray:=by simp
  rw[ea]
  exact⟨.ref _,_,I.lnew (t':=s.toks) (r.append r2) (by rw[List.length_append];omega),rfl,q _ I.fresh⟩
def rRep:R2:=fun x y H Q=>∃ l k xs,x=.ref l∧y=.int k∧H l=some (.lst xs)∧-(2 ^ 63)≤k∧k < 2 ^ 63∧xs.length * k.toNat≤sizeLine ∧
  ∀ p,H p=none→Q (.ref p) (upd H p (.lst (List.replicate k.toNat xs).flatten))
theorem len_rep {α:Type} (xs:List α) (k:Nat):(List.replicate k xs).flatten.length=k * xs.length:=by
  induction k with
  | zero=>simp
  | succ k ih=>rw[List.replicate_succ,List.flatten_cons,List.length_append,ih,Nat.succ_mul,Nat.add_comm]
theorem op_rep:OpR X (binaryOp .Mult) rRep:=by
  intro pins s σ H x y v u Q I rx ry h
  obtain⟨l,k,xs,rfl,rfl,hH,h1,h2,hz,q⟩:=h
  cases rx
  obtain⟨t,rfl⟩:=ry
  obtain⟨z,its,n,r,hl,e⟩:=I.lstM hH
  have hlen:its.toArray.size * k.toNat≤sizeLine:=by rw[List.size_toArray,← hl];exact hz
  have hcap:¬ its.toArray.size * k.toNat > (2 ^ 63-1) / 8:=by
    have : (sizeLine:Nat)≤(2 ^ 63-1) / 8:=by decide
    omega
  have hfit:¬ (!Builtin.List.listFitsIndex k)=true:=by
    rw[fitsIndex_both h1 h2]
    exact Bool.false_ne_true
  have hlong:¬ Builtin.List.listTooLong (its.toArray.size * k.toNat)=true:=by
    rw[notLongL hlen]
    exact Bool.false_ne_true
  have hnew:List.foldl (fun x1 x2=>x1++x2) #[] (List.replicate (if its.toArray.isEmpty=true then 0 else k.toNat) its.toArray)=(List.replicate k.toNat its).flatten.toArray:=by
    have f0:∀ m:Nat,List.foldl (fun x1 x2=>x1++x2) #[] (List.replicate m its.toArray)=(List.replicate m its).flatten.toArray:=fun m=>by
      have:=foldl_rep its m []
      rw[List.nil_append] at this
      exact this
    rw[f0]
    cases its with
    | nil=>simp
    | cons a r'=>rw[if_neg (by simp)]
  refine wpAny_binaryOp_repeat_ref (T:="list") (U:="int") (by decide) ⟨_,e,rfl⟩ (fun s'=>typeIs_int s' k t) noFill_list_mul F.fills_int_mul F.slot_int_rmul repeat_list F.slot_int_index.lookup
    (call_meets F.slot_int_rmul (typeIs_int s k t) F.entry_int_rmul (F.args_int_rmul_2 _ _) (int___rmul___int_list k t l its.toArray n)
      ⟨e,rfl,⟨_,e,rfl⟩,call_meets F.slot_list_mul ⟨_,e,rfl⟩ F.entry_list_mul (F.args_list_mul_2 _ _) (AutoListH.list___mul___list_int_3 l its.toArray n k t hfit hcap hlong) ⟨e,?_⟩⟩)
  rw[hnew]
  exact⟨.ref _,_,I.lnew (t':=s.toks) (r.rep k.toNat) (by rw[len_rep,Nat.mul_comm];exact hz),rfl,q _ I.fresh⟩

end

section
variable {prog:Program} {w:World} {A:Around} {E:Value→Shared→Prop} {s:Shared}
end

section
variable {X:Cx}
end
end L2

namespace L2
open PySem PySem.Spec PyProof.Rows

theorem Vals.bls:∀ {bs:List Bool} {us:List Value},Vals (bs.map V.bl) us→us=bs.map Value.bool
  | [],us,h=>by
    rw[List.map_nil] at h
    cases h
    rfl
  | b :: bs,us,h=>by
    rw[List.map_cons] at h
    cases h with
    | cons r t =>
      cases r
      rw[Vals.bls t,List.map_cons]
theorem Vals.ref1 {a:Addr} {us:List Value} (r:Vals [V.ref a] us):us=[Value.ref a]:=by
  cases r with
  | cons r t =>
    cases t
    cases r
    rfl

section
variable {prog:Program} {w:World} {A:Around} {E:Value→Shared→Prop} {s:Shared} {l:Addr} {its:List Value} {ns:List Int} {Q:Value→Shared→Prop}
end

section
variable {X:Cx}

end

section
variable {X:Cx}
end

section
variable {X:Cx}
end

theorem iter_any {prog:Program} {w:World} {A:Around} {E:Value→Shared→Prop} {s:Shared} {l:Addr} {items:Array Value} {Q:Value→Shared→Prop} (hl:s.heap.IsList l items)
    (h:∀ s₂:Shared,s₂={ s with heap:=s.heap.push { cls:=.type "list_iterator",data:=.fields #[.ref l,.int 0 0] } } →
      (s₂.heap.IsListIter s.heap.objs.size l 0∧s₂.heap.IsList l items)→l≠s.heap.objs.size→Q (.ref s.heap.objs.size) s₂):wpAny (model prog w) A (pyIter (.ref l)) Q E s:=by
  have hlt:l < s.heap.objs.size:=by obtain⟨_,e,_⟩:=hl;exact Heap.lt_size e
  exact wpAny_pyIter_list hl (h _ rfl ⟨⟨_,Heap.get?_push_size _ rfl,rfl,rfl⟩,hl.push _⟩ (Nat.ne_of_lt hlt))
theorem truth_bools {prog:Program} {w:World} {A:Around} {bs:List Bool} {its:List Value} (e:its=bs.map Value.bool) :
    TruthOf prog w A (fun i v=>its.toArray[i]?=some v) (fun i=>bs.getD i false):=fun i v s Q E hv hq=>by
  have hv':its[i]?=some v:=by simpa using hv
  rw[e,List.getElem?_map] at hv'
  obtain⟨b,hb,rfl⟩:=Option.map_eq_some_iff.mp hv'
  have hg:bs.getD i false=b:=by rw[List.getD_eq_getElem?_getD,hb] <;> rfl
  have hq':Q (bs.getD i false) s:=hq
  rw[hg] at hq'
  exact wpAny_truthy_bool hq'
theorem any_range:∀ bs:List Bool,(List.range bs.length).any (fun i=>bs.getD i false)=bs.any id
  | []=>rfl
  | b :: bs=>by
    rw[List.length_cons,List.range_succ_eq_map,List.any_cons,List.any_map,List.any_cons,← any_range bs]
    all_goals rfl
theorem all_range:∀ bs:List Bool,(List.range bs.length).all (fun i=>bs.getD i false)=bs.all id
  | []=>rfl
  | b :: bs=>by
    rw[List.length_cons,List.range_succ_eq_map,List.all_cons,List.all_map,List.all_cons,← all_range bs]
    all_goals rfl
section
variable {X:Cx}
def rAny (K:PySem.W.Frag):List V→Hp→VK→Prop:=fun vs H Q=>∃ (a:Addr) (bs:List Bool),vs=[V.ref a]∧SqL K H a (bs.map V.bl)∧Q (.bl (bs.any id)) H
def rAll (K:PySem.W.Frag):List V→Hp→VK→Prop:=fun vs H Q=>∃ (a:Addr) (bs:List Bool),vs=[V.ref a]∧SqL K H a (bs.map V.bl)∧Q (.bl (bs.all id)) H
theorem cr_any (hc:X.calm=true):CallR X (.builtin "any") (rAny X.K):=by
  intro pins s σ H vs us Q I r h
  obtain⟨a,bs,rfl,hs,q⟩:=h
  obtain⟨its,rv,hl,_⟩:=I.list hs
  rw[Vals.ref1 r]
  have hb:=rv.bls
  refine call_any_walk (iter_any hl.isList fun s₂ e2 st hne=>?_)
  subst e2
  refine⟨_,_,_,_,_,_,_,rfl,Walks.list (A:=X.A.in1) (I.ok.hd hc) _ a hne its.toArray,st,truth_bools hb,fun h' tk hk=>?_⟩
  refine⟨.bl _,H,I.kept fun b o eo=>hk b o (fun hmem=>?_) (Heap.get?_push_of_some _ eo),?_,q⟩
  · rcases List.mem_cons.mp hmem with e1 | hmem
    · exact absurd (e1 ▸ Heap.lt_size eo) (Nat.lt_irrefl _)
    · cases hmem
  · show Value.bool _=Value.bool _
    rw[← any_range,hb,List.size_toArray,List.length_map]
theorem cr_all (hc:X.calm=true):CallR X (.builtin "all") (rAll X.K):=by
  intro pins s σ H vs us Q I r h
  obtain⟨a,bs,rfl,hs,q⟩:=h
  obtain⟨its,rv,hl,_⟩:=I.list hs
  rw[Vals.ref1 r]
  have hb:=rv.bls
  refine call_all_walk (iter_any hl.isList fun s₂ e2 st hne=>?_)
  subst e2
  refine⟨_,_,_,_,_,_,_,rfl,Walks.list (A:=X.A.in1) (I.ok.hd hc) _ a hne its.toArray,st,truth_bools hb,fun h' tk hk=>?_⟩
  refine⟨.bl _,H,I.kept fun b o eo=>hk b o (fun hmem=>?_) (Heap.get?_push_of_some _ eo),?_,q⟩
  · rcases List.mem_cons.mp hmem with e1 | hmem
    · exact absurd (e1 ▸ Heap.lt_size eo) (Nat.lt_irrefl _)
    · cases hmem
  · show Value.bool _=Value.bool _
    rw[← all_range,hb,List.size_toArray,List.length_map]
end

mutual
inductive Dp (K:PySem.W.Frag) (H:Hp):V→PyData→Prop
  | non:Dp K H .non .none
  | bl (b:Bool):Dp K H (.bl b) (.bool b)
  | int (i:Int):Dp K H (.int i) (.int i)
  | str (x:Str):Dp K H (.str x) (.str x)
  | lst {a:Addr} {xs:List V} {ds:List PyData}:SqL K H a xs→DpAll K H xs ds→Dp K H (.ref a) (.list ds)
  | tup {a:Addr} {xs:List V} {ds:List PyData}:SqT K H a xs→DpAll K H xs ds→Dp K H (.ref a) (.tuple ds)
inductive DpAll (K:PySem.W.Frag) (H:Hp):List V→List PyData→Prop
  | nil:DpAll K H [] []
  | cons {v:V} {vs:List V} {d:PyData} {ds:List PyData}:Dp K H v d→DpAll K H vs ds→DpAll K H (v :: vs) (d :: ds)
end
section
variable {X:Cx} {pins:List (Addr×Obj)} {σ:St} {H:Hp} {s:Shared}
mutual
theorem Dp.reads (I:Inv X pins σ H s):∀ (d:PyData) (v:V) (u:Value),Dp X.K H v d→RelV v u→∃ as,Reads s.heap u d as
  | .none,_,_,h,r=>by
    cases h
    cases r
    exact⟨_,Reads.none⟩
  | .bool b,_,_,h,r=>by
    cases h
    cases r
    exact⟨_,Reads.bool b⟩
  | .int i,_,_,h,r=>by
    cases h
    obtain⟨t,rfl⟩:=r
    exact⟨_,Reads.int i t⟩
  | .str x,_,_,h,r=>by
    cases h
    obtain⟨t,rfl⟩:=r
    exact⟨_,Reads.str x t⟩
  | .list ds,_,_,h,r=>by
    cases h with
    | lst hs ha =>
      cases r
      obtain⟨its,rv,⟨o,n,ho,hc,_,hd⟩,_⟩:=I.list hs
      obtain⟨as,hr⟩:=Dp.readsAll I ds _ its ha rv
      exact⟨_,Reads.list ho hc hd hr⟩
  | .tuple ds,_,_,h,r=>by
    cases h with
    | tup hs ha =>
      cases r
      obtain⟨its,rv,⟨o,ho,hc,n,hd⟩,_⟩:=I.tuple hs
      obtain⟨as,hr⟩:=Dp.readsAll I ds _ its ha rv
      exact⟨_,Reads.tuple ho hc hd hr⟩
  | .dict _,_,_,h,_=>by cases h
theorem Dp.readsAll (I:Inv X pins σ H s):∀ (ds:List PyData) (vs:List V) (us:List Value),DpAll X.K H vs ds→Vals vs us→∃ as,ReadsAll s.heap us ds as
  | [],_,_,h,r=>by
    cases h
    cases r
    exact⟨_,ReadsAll.nil⟩
  | d :: ds,_,_,h,r=>by
    cases h with
    | cons h1 h2 =>
      cases r with
      | cons r1 r2 =>
        obtain⟨as,q1⟩:=Dp.reads I d _ _ h1 r1
        obtain⟨bs,q2⟩:=Dp.readsAll I ds _ _ h2 r2
        exact⟨_,ReadsAll.cons q1 q2⟩
end
end
section
variable {X:Cx}
def rEqD (K:PySem.W.Frag):R2:=fun x y H Q=>∃ d e,Dp K H x d∧Dp K H y e∧SeqAt.shaped d=true∧SeqAt.shaped e=true∧Q (.bl (PyData.eqv d e)) H
def rNeD (K:PySem.W.Frag):R2:=fun x y H Q=>∃ d e,Dp K H x d∧Dp K H y e∧SeqAt.shaped d=true∧SeqAt.shaped e=true∧Q (.bl (!PyData.eqv d e)) H
theorem op_eqD (hu:X.A.units+64 < cLine):OpR X (compareOp .Eq) (rEqD X.K):=by
  intro pins s σ H x y v u Q I rx ry h
  obtain⟨d,e,hd,he,sd,se,q⟩:=h
  obtain⟨as,r1⟩:=Dp.reads I d x v hd rx
  obtain⟨bs,r2⟩:=Dp.reads I e y u he ry
  exact SeqAt.compareEq_shaped r1 r2 sd se hu ⟨.bl _,H,I,rfl,q⟩
theorem op_neD (hu:X.A.units+64 < cLine):OpR X (compareOp .NotEq) (rNeD X.K):=by
  intro pins s σ H x y v u Q I rx ry h
  obtain⟨d,e,hd,he,sd,se,q⟩:=h
  obtain⟨as,r1⟩:=Dp.reads I d x v hd rx
  obtain⟨bs,r2⟩:=Dp.reads I e y u he ry
  exact SeqAt.compareNe_shaped r1 r2 sd se hu ⟨.bl _,H,I,rfl,q⟩
end
end L2

namespace L2
open PySem PySem.Spec PyProof.Rows
abbrev CellAt (h:Heap) (c:Addr) (v:Option Value):Prop:=h.IsCell c v
def relS (scope sc:Scope):Scope :=
  { scope with names:=scope.names.map fun (n,k)=>if (k == .free && sc.kind == .function && sc.names.lookup n == some .cell) then (n,.cell) else (n,k) }

def cloFrom (cells:List (Str×Addr)):List (Str×NameKind)→List (Str×Addr)→List (Str×Addr)
  | [],acc=>acc
  | (n,k) :: r,acc=>if k == .free then cloFrom cells r ((n,(cells.lookup n).getD 0) :: acc) else cloFrom cells r acc

theorem closure_loop (env:Env) (f:Str×NameKind→List (Str×Addr)→Sem (ForInStep (List (Str×Addr))))
    (hf:∀ n k c,f (n,k) c=if k == .free then (do let a ← cellOf env n;pure (.yield ((n,a) :: c))) else pure (.yield c)) :
    ∀ (names:List (Str×NameKind)) (acc:List (Str×Addr)),(∀ y∈names,y.2=.free→∃ c,env.cells.lookup y.1=some c)→forIn names acc f=pure (cloFrom env.cells names acc)
  | [],acc,_=>by rw[List.forIn_nil];rfl
  | (n,k) :: r,acc,h=>by
    rw[List.forIn_cons,hf]
    have ih:=fun acc=>closure_loop env f hf r acc fun y hy=>h y (List.mem_cons_of_mem _ hy)
    unfold cloFrom
    by_cases hk:(k == NameKind.free)=true
    · rw[if_pos hk,if_pos hk]
      obtain⟨c,hc⟩:=h (n,k) List.mem_cons_self (by simpa using hk)
      have e:cellOf env n=pure c:=by unfold cellOf;rw[hc]
      rw[e]
      have e2:(env.cells.lookup n).getD 0=c:=by rw[hc];rfl
      rw[e2]
      exact ih _
    · rw[if_neg hk,if_neg hk]
      exact ih _
theorem closure_ok {scope:Scope} {env:Env} (h:∀ y∈scope.names,y.2=.free→∃ c,env.cells.lookup y.1=some c):closureFor scope env=pure (cloFrom env.cells scope.names []):=by
  simp only[closureFor]
  rw[closure_loop env _ (fun n k c=>rfl) scope.names [] h]
  rfl

theorem mem_lookup {α:Type}:∀ {l:List (Str×α)} {n:Str} {c:α},(n,c)∈l→∃ c',l.lookup n=some c'
  | (k,v) :: r,n,c,h=>by
    rw[List.lookup_cons]
    cases hb:n == k with
    | true=>exact⟨_,rfl⟩
    | false =>
      rcases List.mem_cons.mp h with e | h
      · cases e;simp at hb
      · exact mem_lookup h

theorem cloFrom_mem {cells:List (Str×Addr)}:∀ {names:List (Str×NameKind)} {acc:List (Str×Addr)} {n:Str} {c:Addr},(n,c)∈cloFrom cells names acc→(n,c)∈acc∨((n,.free)∈names∧c=(cells.lookup n).getD 0)
  | [],_,_,_,h=>.inl h
  | (m,k) :: r,acc,n,c,h=>by
    unfold cloFrom at h
    split at h
    · rename_i hk
      have hk:k=.free:=by simpa using hk
      rcases cloFrom_mem h with h | ⟨h1,h2⟩
      · rcases List.mem_cons.mp h with e | h
        · cases e;exact .inr ⟨hk ▸ List.mem_cons_self,rfl⟩
        · exact .inl h
      · exact .inr ⟨List.mem_cons_of_mem _ h1,h2⟩
    · rcases cloFrom_mem h with h | ⟨h1,h2⟩
      · exact .inl h
      · exact .inr ⟨List.mem_cons_of_mem _ h1,h2⟩
theorem cloFrom_acc {cells:List (Str×Addr)}:∀ {names:List (Str×NameKind)} {acc:List (Str×Addr)} {p:Str×Addr},p∈acc→p∈cloFrom cells names acc
  | [],_,_,h=>h
  | (m,k) :: r,acc,p,h=>by
    unfold cloFrom
    split
    · exact cloFrom_acc (List.mem_cons_of_mem _ h)
    · exact cloFrom_acc h
theorem cloFrom_has {cells:List (Str×Addr)}:∀ {names:List (Str×NameKind)} {acc:List (Str×Addr)} {n:Str},(n,.free)∈names→(n,(cells.lookup n).getD 0)∈cloFrom cells names acc
  | (m,k) :: r,acc,n,h=>by
    unfold cloFrom
    rcases List.mem_cons.mp h with e | h
    · cases e
      exact cloFrom_acc List.mem_cons_self
    · split
      · exact cloFrom_has h
      · exact cloFrom_has h

theorem cells_mem:∀ {names:List (Str×NameKind)} {h:Heap} {acc:List (Str×Addr)} {x:Str} {c:Addr},(x,c)∈cellsFrom h.objs.size names acc →
    (x,c)∈acc∨((x,.cell)∈names∧h.objs.size≤c∧CellAt (pushCells h names) c none)
  | [],_,_,_,_,h=>.inl h
  | (n,k) :: r,h,acc,x,c,hm=>by
    unfold cellsFrom at hm
    unfold pushCells
    split at hm
    · rename_i hk
      rw[if_pos hk]
      have hk:k=.cell:=by simpa using hk
      rw[← Heap.size_push h { cls:=.type "cell",data:=.cell none }] at hm
      rcases cells_mem hm with hm | ⟨h1,h2,h3⟩
      · rcases List.mem_cons.mp hm with e | hm
        · cases e
          exact .inr ⟨hk ▸ List.mem_cons_self,Nat.le_refl _,_,pushCells_keeps r _ _ _ (Heap.get?_push_size _ rfl),rfl⟩
        · exact .inl hm
      · rw[Heap.size_push] at h2
        exact .inr ⟨List.mem_cons_of_mem _ h1,Nat.le_of_succ_le h2,h3⟩
    · rename_i hk
      rw[if_neg hk]
      rcases cells_mem hm with hm | ⟨h1,h2,h3⟩
      · exact .inl hm
      · exact .inr ⟨List.mem_cons_of_mem _ h1,h2,h3⟩
theorem cells_acc:∀ {names:List (Str×NameKind)} {n:Nat} {acc:List (Str×Addr)} {p:Str×Addr},p∈acc→p∈cellsFrom n names acc
  | [],_,_,_,h=>h
  | (m,k) :: r,n,acc,p,h=>by
    unfold cellsFrom
    split
    · exact cells_acc (List.mem_cons_of_mem _ h)
    · exact cells_acc h
theorem cells_has:∀ {names:List (Str×NameKind)} {n:Nat} {acc:List (Str×Addr)} {x:Str},(x,.cell)∈names→∃ c,(x,c)∈cellsFrom n names acc
  | (m,k) :: r,n,acc,x,h=>by
    unfold cellsFrom
    rcases List.mem_cons.mp h with e | h
    · cases e
      exact⟨n,cells_acc List.mem_cons_self⟩
    · split
      · exact cells_has h
      · exact cells_has h
theorem cells_inj:∀ {names:List (Str×NameKind)} {h:Heap} {acc:List (Str×Addr)} {x y:Str} {c:Addr},(∀ p∈acc,p.2 < h.objs.size)→(∀ x y c,(x,c)∈acc→(y,c)∈acc→x=y) →
    (x,c)∈cellsFrom h.objs.size names acc→(y,c)∈cellsFrom h.objs.size names acc→x=y
  | [],_,_,_,_,_,_,hi,h1,h2=>hi _ _ _ h1 h2
  | (n,k) :: r,h,acc,x,y,c,hl,hi,h1,h2=>by
    unfold cellsFrom at h1 h2
    split at h1
    · rename_i hk
      rw[if_pos hk] at h2
      rw[← Heap.size_push h { cls:=.type "cell",data:=.cell none }] at h1 h2
      refine cells_inj (h:=h.push _) (fun p hp=>?_) (fun x y c a b=>?_) h1 h2
      · rw[Heap.size_push]
        rcases List.mem_cons.mp hp with rfl | hp
        · exact Nat.lt_succ_self _
        · exact Nat.lt_succ_of_lt (hl p hp)
      · rcases List.mem_cons.mp a with e | a <;> rcases List.mem_cons.mp b with e' | b
        · cases e;cases e';rfl
        · cases e;exact absurd (hl _ b) (Nat.lt_irrefl _)
        · cases e';exact absurd (hl _ a) (Nat.lt_irrefl _)
        · exact hi _ _ _ a b
    · rename_i hk
      rw[if_neg hk] at h2
      exact cells_inj hl hi h1 h2

theorem newEnv_comp {M:Model} {A:Around} {E:Value→Shared→Prop} {s:Shared} {scope:Scope} {globals:Addr} {closure:List (Str×Addr)} {qual:Str} {func:Option Addr} {code:Value} {around:Env} {builtins:Addr} {Q:Env→Shared→Prop}
    (h:Q (newEnv scope s.heap.objs.size globals (cellsFrom (s.heap.objs.size+1) scope.names closure) qual func code (some around) builtins)
      { s with heap:=pushCells (s.heap.push { cls:=.type "dict",data:=.dict #[] }) scope.names }) :
    wpAny M A (newFunctionEnv scope globals closure [] qual func code (some around) builtins) Q E s:=by
  simp only[newFunctionEnv,Option.isSome_some,if_true]
  refine wpAny_bind (wpAny_alloc ?_)
  refine wpAny_bind (wpAny_layCells _ (fun n k c=>rfl) scope.names closure _ _ ?_)
  rw[show ({ s with heap:=s.heap.push { cls:=.type "dict",data:=.dict #[] } }:Shared).heap.objs.size=s.heap.objs.size+1 from Heap.size_push ..]
  rw[List.forIn_nil]
  exact wpAny_bind (wpAny_pure (wpAny_pure h))

theorem lookup_relS {sc:Scope}:∀ {names:List (Str×NameKind)} {x:Str} {k:NameKind},
    (names.map fun (n,k)=>if (k == NameKind.free && sc.kind == .function && sc.names.lookup n == some .cell) then (n,NameKind.cell) else (n,k)).lookup x=some k →
    ∃ k',names.lookup x=some k'∧(k=k'∨(k'=.free∧k=.cell))
  | [],_,_,h=>by simp at h
  | (n,k₀) :: r,x,k,h=>by
    have ih:=@lookup_relS sc r x k
    have h':List.lookup x ((if (k₀ == NameKind.free && sc.kind == .function && sc.names.lookup n == some .cell)=true then (n,NameKind.cell) else (n,k₀)) :: (r.map _))=some k:=h
    cases hx:x == n with
    | true =>
      simp only[List.lookup_cons,hx]
      by_cases hc:(k₀ == NameKind.free && sc.kind == .function && sc.names.lookup n == some .cell)=true
      · rw[if_pos hc] at h'
        simp only[List.lookup_cons,hx] at h'
        cases h'
        simp only[Bool.and_eq_true,beq_iff_eq] at hc
        exact⟨k₀,rfl,.inr ⟨hc.1.1,rfl⟩⟩
      · rw[if_neg hc] at h'
        simp only[List.lookup_cons,hx] at h'
        cases h'
        exact⟨_,rfl,.inl rfl⟩
    | false =>
      simp only[List.lookup_cons,hx]
      by_cases hc:(k₀ == NameKind.free && sc.kind == .function && sc.names.lookup n == some .cell)=true
      · rw[if_pos hc] at h'
        simp only[List.lookup_cons,hx] at h'
        exact ih h'
      · rw[if_neg hc] at h'
        simp only[List.lookup_cons,hx] at h'
        exact ih h'



structure BlkOk (N:List Str) (sc scope:Scope) (own:List (Str×Nat)):Prop where
  kind:scope.kind=.function
  uniq:∀ y∈scope.names,scope.names.lookup y.1=some y.2
  ix:∀ p∈own,N[p.2]?=some p.1
  free:∀ y∈scope.names,y.2=.free→sc.names.lookup y.1=some .cell∨sc.names.lookup y.1=some .free
  own:∀ y∈scope.names,y.2=.local∨y.2=.cell→y.1∈own.map (·.1)∨y.1∉N
def wipe (σ:St):List Nat→St
  | []=>σ
  | v :: vs=>(wipe σ vs).set v none
theorem wipe_length (σ:St):∀ vs:List Nat,(wipe σ vs).length=σ.length
  | []=>rfl
  | v :: vs=>by unfold wipe;rw[List.length_set,wipe_length σ vs]
theorem wipe_some {σ:St} {i:Nat} {x:V}:∀ {vs:List Nat},(wipe σ vs)[i]?=some (some x)→σ[i]?=some (some x)∧i∉vs
  | [],h=>⟨h,by simp⟩
  | v :: vs,h=>by
    unfold wipe at h
    by_cases hi:v=i
    · subst hi
      by_cases hv:v < (wipe σ vs).length
      · rw[List.getElem?_set_self hv] at h;cases h
      · rw[List.getElem?_eq_none (by simpa using hv)] at h;cases h
    · rw[List.getElem?_set_ne hi] at h
      obtain⟨h1,h2⟩:=wipe_some h
      exact⟨h1,by simp only[List.mem_cons,not_or];exact⟨fun e=>hi e.symm,h2⟩⟩

abbrev Cx.blk (X:Cx) (s:Shared) (H:Hp) (scope:Scope) (cenv:Env) (fp:List Addr):Cx:={ X with s_0:=s,H_0:=H,env:=cenv,outer:=X.stack,ex:=fp,fn:=fun x=>scope.names.lookup x == some .cell,pn:=[],xe:=fun _ _=>False }
section
variable {X:Cx} {pins:List (Addr×Obj)} {σ:St} {H:Hp} {s:Shared}
theorem block_start {scope:Scope} {own:List (Str×Nat)} {fp:List Addr} (I:Inv X pins σ H s) (ok:BlkOk X.N X.env.scope scope own) (hN:X.N.Nodup) (hfp:∀ b∈fp,FpOk X pins H b∧b < s.heap.objs.size) :
    Inv (X.blk s H scope (compEnvC scope (cellsFrom (s.heap.objs.size+1) scope.names (cloFrom X.env.cells scope.names [])) s.heap.objs.size X.env) fp) [] (wipe σ (own.map (·.2))) H { s with heap:=pushCells (s.heap.push { cls:=.type "dict",data:=.dict #[] }) scope.names }:=by
  have hfree:∀ y∈scope.names,y.2=.free→∃ c,X.env.cells.lookup y.1=some c:=fun y hy e=>by
    rcases ok.free y hy e with k | k
    · exact I.ok.has _ (.inl k)
    · exact I.ok.has _ (.inr k)
  generalize hcenv:compEnvC scope (cellsFrom (s.heap.objs.size+1) scope.names (cloFrom X.env.cells scope.names [])) s.heap.objs.size X.env=cenv
  have kp:∀ b o,s.heap.get? b=some o→(pushCells (s.heap.push { cls:=.type "dict",data:=.dict #[] }) scope.names).get? b=some o:=fun b o e=>pushCells_keeps _ _ _ _ (Heap.get?_push_of_some _ e)
  have hL:cenv.locals=s.heap.objs.size:=by rw[← hcenv];rfl
  have hcl:cenv.cells=cellsFrom (s.heap.objs.size+1) scope.names (cloFrom X.env.cells scope.names []):=by rw[← hcenv];rfl
  have hsc:cenv.scope=relS scope X.env.scope:=by rw[← hcenv];rfl
  rw[← Heap.size_push s.heap { cls:=.type "dict",data:=.dict #[] }] at hcl
  have cm:∀ {y c},(y,c)∈cloFrom X.env.cells scope.names []→X.env.cells.lookup y=some c∧c < s.heap.objs.size:=fun {y c} hm=>by
    rcases cloFrom_mem hm with hm | ⟨h1,rfl⟩
    · cases hm
    · obtain⟨c,hc⟩:=hfree _ h1 rfl
      rw[hc]
      obtain⟨w,z⟩:=I.cell _ _ hc
      exact⟨rfl,z.lt⟩
  have mem:∀ {y c},cenv.cells.lookup y=some c→(X.env.cells.lookup y=some c∧c < s.heap.objs.size)∨(s.heap.objs.size+1≤c∧CellAt (pushCells (s.heap.push { cls:=.type "dict",data:=.dict #[] }) scope.names) c none):=fun {y c} e=>by
    rw[hcl] at e
    rcases cells_mem (PySem.mem_of_lookup e) with hm | ⟨_,h2,h3⟩
    · exact .inl (cm hm)
    · rw[Heap.size_push] at h2;exact .inr ⟨h2,h3⟩
  have look:∀ {y},scope.names.lookup y=some .free→∃ c,cenv.cells.lookup y=some c∧X.env.cells.lookup y=some c:=fun {y} hl=>by
    have hy:(y,NameKind.free)∈scope.names:=PySem.mem_of_lookup hl
    obtain⟨c',e'⟩:=mem_lookup (cells_acc (names:=scope.names) (n:=(s.heap.push { cls:=.type "dict",data:=.dict #[] }).objs.size) (cloFrom_has (cells:=X.env.cells) (acc:=[]) hy))
    rw[← hcl] at e'
    refine⟨c',e',?_⟩
    rw[hcl] at e'
    rcases cells_mem (PySem.mem_of_lookup e') with hm | ⟨h1,_,_⟩
    · exact (cm hm).1
    · have:=ok.uniq _ h1
      rw[hl] at this;cases this
  have okB:(X.blk s H scope cenv fp).Ok:=by
    refine⟨I.ok.mod,by show cenv.scope.kind=_;rw[hsc];exact ok.kind,by show cenv.globals=_;rw[← hcenv];exact I.ok.glob,by show cenv.builtins=_;rw[← hcenv];exact I.ok.blt,by show s.heap.objs.size≤cenv.locals;rw[hL];exact Nat.le_refl _,
      fun y z c e1 e2=>?_,fun y hy=>?_,fun y c z e=>?_,I.ok.hd,I.ok.frames,.inl rfl,fun b hb=>⟨?_,fun y c e z=>?_⟩,I.bs,Nat.le_trans I.ok.bsz I.sz,fun b o e hb=>?_,fun b hb z=>?_,I.stack,I.stkFree⟩
    · have e1:cenv.cells.lookup y=some c:=e1
      have e2:cenv.cells.lookup z=some c:=e2
      rw[hcl] at e1 e2
      refine cells_inj (fun p hp=>?_) (fun y z c a b=>I.ok.inj y z c (cm a).1 (cm b).1) (PySem.mem_of_lookup e1) (PySem.mem_of_lookup e2)
      rw[Heap.size_push]
      exact Nat.lt_succ_of_lt (cm (y:=p.1) (c:=p.2) hp).2
    · show ∃ c,cenv.cells.lookup y=some c
      have key:∀ k,cenv.kindOf y=some k→(k=.cell∨k=.free)→∃ c,cenv.cells.lookup y=some c:=fun k hk hk'=>by
        unfold Env.kindOf at hk
        rw[hsc] at hk
        obtain⟨k',e,r⟩:=lookup_relS hk
        have : k'=.cell∨k'=.free:=by
          rcases r with rfl | ⟨rfl,_⟩
          · exact hk'
          · exact .inr rfl
        rcases this with rfl | rfl
        · obtain⟨c,hm⟩:=cells_has (n:=(s.heap.push { cls:=.type "dict",data:=.dict #[] }).objs.size) (acc:=cloFrom X.env.cells scope.names []) (PySem.mem_of_lookup e)
          obtain⟨c',e'⟩:=mem_lookup hm
          exact⟨c',by rw[hcl];exact e'⟩
        · obtain⟨c,h1,_⟩:=look e
          exact⟨c,h1⟩
      rcases hy with hy | hy
      · exact key _ hy (.inl rfl)
      · exact key _ hy (.inr rfl)
    · have z:(scope.names.lookup y == some NameKind.cell)=true:=z
      have z:scope.names.lookup y=some .cell:=by simpa using z
      have e:cenv.cells.lookup y=some c:=e
      rw[hcl] at e
      rcases cells_mem (PySem.mem_of_lookup e) with hm | ⟨_,h2,_⟩
      · rcases cloFrom_mem hm with hm | ⟨h1,_⟩
        · cases hm
        · have q:=ok.uniq _ h1
          rw[z] at q;cases q
      · rw[Heap.size_push] at h2
        exact Nat.le_of_succ_le h2
    · show b≠cenv.locals
      rw[hL];exact Nat.ne_of_lt (hfp b hb).2
    · have e:cenv.cells.lookup y=some c:=e
      rcases mem e with ⟨h1,_⟩ | ⟨h1,_⟩
      · exact (hfp b hb).1.2.2.2.2.1 y c h1 z
      · have h2:s.heap.objs.size+1≤b:=by rw[← z];exact h1
        exact absurd (Nat.lt_of_lt_of_le (hfp b hb).2 (Nat.le_of_succ_le h2)) (Nat.lt_irrefl _)
    · rcases (hfp b hb).1.2.2.2.1 with z | z
      · exact I.ok.noex b o e z
      · exact absurd (Nat.lt_of_lt_of_le (Heap.lt_size e) (Nat.le_trans I.ok.bsz z)) (Nat.lt_irrefl _)
    · rcases List.mem_cons.mp (I.stkSub b z) with z | z
      · exact (hfp b hb).1.2.1 z
      · exact (hfp b hb).1.2.2.1 z
  refine⟨okB,rfl,I.bare,Un.kept kp,⟨fun _=>none,?_,fun i y av e1 e2 e3=>?_⟩,fun y c e=>?_,?_,fun y c e=>?_,fun p hp=>?_,I.hok.kept kp,by rw[wipe_length];exact I.len⟩
  · show Heap.Ns _ cenv.locals _
    rw[hL]
    exact Heap.Ns.keeps (Heap.Ns.new ..) fun b o e=>pushCells_keeps _ _ _ _ e
  · obtain⟨e2,hne⟩:=wipe_some e2
    have hfr:scope.names.lookup y=some .free∧(cenv.kindOf y=some .cell∨cenv.kindOf y=some .free):=by
      have key:∀ k,cenv.scope.names.lookup y=some k→k=.local∨k=.cell∨k=.free→scope.names.lookup y=some .free∧(cenv.kindOf y=some .cell∨cenv.kindOf y=some .free):=fun k hk hk'=>by
        have hk0:=hk
        rw[hsc] at hk
        obtain⟨k',e,r⟩:=lookup_relS hk
        have no:¬ (k'=.local∨k'=.cell):=fun hh=>by
          rcases ok.own _ (PySem.mem_of_lookup e) hh with e' | e'
          · obtain⟨p,hp,hpy⟩:=List.mem_map.mp e'
            have e3:=ok.ix p hp
            have : p.1=y:=hpy
            rw[this] at e3
            exact hne (List.mem_map.mpr ⟨p,hp,nodup_ix hN e3 e1⟩)
          · exact e' (List.mem_of_getElem? e1)
        rcases r with rfl | ⟨rfl,rfl⟩
        · rcases hk' with rfl | rfl | rfl
          · exact absurd (.inl rfl) no
          · exact absurd (.inr rfl) no
          · exact⟨e,.inr hk0⟩
        · exact⟨e,.inl hk0⟩
      have e3:Vis cenv.scope y:=e3
      rcases e3 with e3 | e3 | e3
      · exact key _ e3 (.inl rfl)
      · exact key _ e3 (.inr (.inl rfl))
      · exact key _ e3 (.inr (.inr rfl))
    obtain⟨m,hn,hl⟩:=I.loc
    have hvis:Vis X.env.scope y:=(ok.free _ (PySem.mem_of_lookup hfr.1) rfl).elim (fun k=>.inr (.inl k)) (fun k=>.inr (.inr k))
    obtain⟨w,r,q⟩:=hl i y av e1 e2 hvis
    refine⟨w,r,.inr ⟨hfr.2,?_⟩⟩
    obtain⟨c,h1,h2⟩:=look hfr.1
    rcases q with ⟨k,_⟩ | ⟨_,c',e',z⟩
    · have k:X.env.scope.names.lookup y=some .local:=k
      rcases ok.free _ (PySem.mem_of_lookup hfr.1) rfl with k' | k' <;> rw[show X.env.scope.names.lookup y=_ from k'] at k <;> cases k
    · rw[h2] at e';cases e'
      exact⟨c,h1,z.keeps kp⟩
  · have e:cenv.cells.lookup y=some c:=e
    rcases mem e with ⟨h1,_⟩ | ⟨_,z⟩
    · obtain⟨w,z⟩:=I.cell y c h1
      exact⟨w,z.keeps kp⟩
    · exact⟨_,z⟩
  · show H cenv.locals=none
    rw[hL];exact I.hok.fresh (Nat.le_refl _)
  · have e:cenv.cells.lookup y=some c:=e
    rcases mem e with ⟨h1,_⟩ | ⟨h1,_⟩
    · exact I.freeC y c h1
    · exact I.hok.fresh (Nat.le_of_succ_le h1)
  · exact absurd (show p∈([]:List (Addr×Obj))++[] from hp) (by simp)

theorem app_ok {E:Value→Shared→Prop} {D:Addr} {xs:List V} {y:V} {v:Value} {Q:Value→Shared→Prop} (I:Inv X pins σ H s) (hD:H D=some (.lst xs)) (hz:xs.length < sizeLine) (r:RelV y v)
    (h:∀ s',Inv X pins σ (upd H D (.lst (xs++[y]))) s'→Q .none s'):wpAny (model X.prog X.w) X.A (call (.builtin "list.append") [.ref D,v]) Q E s:=by
  obtain⟨hz',its,n,ri,e⟩:=I.hok D _ hD
  have hl:=ri.length
  refine append_at (hsz:=by rw[List.size_toArray];omega) e fun h' sb ho'=>?_
  refine h { s with heap:=h' } (I.write (t':=s.toks) (by rw[hD];trivial) (.inl rfl) (fun b u hb q=>(sb.2 b hb).trans q) ⟨_,ho'⟩ ⟨by rw[List.length_append];exact hz,its++[v],n+1,ri.append (.cons r .nil),?_⟩)
  rw[ho']
  simp

def PTs (X:Cx) (ifs:List Expr) (t:TT):Prop :=
  ∀ (pins:List (Addr×Obj)) (s:Shared) (σ:St) (H:Hp) (Q:Bool→Hp→Prop),Inv X pins σ H s→t σ H Q →
    wpAny (model X.prog X.w) X.A (forIn ifs true fun c r=>if r=true then do let ok ← isTrue c X.env (eval c X.env);pure (ForInStep.yield ok) else pure (ForInStep.yield r)) (TP X pins σ Q) X.xe s
def tYes:TT:=fun _ H Q=>Q true H
theorem pts_nil:PTs X [] tYes:=fun _ _ _ H _ I h=>wpAny_tests_nil ⟨H,I,h⟩
theorem pts_one {c:Expr} {t:TT} (h:PT X c t):PTs X [c] t:=fun pins s σ H Q I hw=>wpAny_tests_one (h pins s σ H Q I hw)
end

theorem thnF {α:Type} {t:Sem α} {Q Q':α→Shared→Prop} {M:Model} {A:Around} {E:Value→Shared→Prop} {s:Shared} (h:wpAny M A t Q (fun _ _=>False) s) (hQ:∀ a s,Q a s→Q' a s):wpAny M A t Q' E s:=wpAny_mono h hQ fun _ _ z=>False.elim z

theorem compLoop_any {prog:Program} {w:World} {A:Around} {R:Result→Shared→Prop} {s:Shared} {elt target iter:Expr} {ifs:List Expr} {scope:Scope} {pos:Pos} {it acc:Value} {env:Env} (I:Nat→Shared→Prop)
    (turn:∀ n s,I n s→wpAny (model prog w) A (pyNext it) (fun r s₁=>match r with
      | none=>R (.ok .next) s₁
      | some v=>wpAny (model prog w) A (letOwnedTupleGo target it v) (fun _ s₁'=>wpAny (model prog w) A (assign target env v) (fun _ s₂ =>
          wpAny (model prog w) A (forIn ifs true fun c r=>if r=true then do let ok ← isTrue c env (eval c env);pure (ForInStep.yield ok) else pure (ForInStep.yield r)) (fun ok s₃ =>
            if ok=true then wpAny (model prog w) A (eval elt env) (fun x s₄ =>
              wpAny (model prog w) A (call (.builtin "list.append") [acc,x]) (fun _ s₅=>∃ m,m < n∧I m s₅) (notedBy (model prog w) A env fun e s'=>R (.error e) s') s₄) (notedBy (model prog w) A env fun e s'=>R (.error e) s') s₃
            else ∃ m,m < n∧I m s₃) (notedBy (model prog w) A env fun e s'=>R (.error e) s') s₂) (notedBy (model prog w) A env fun e s'=>R (.error e) s') s₁') (notedBy (model prog w) A env fun e s'=>R (.error e) s') s₁) (notedBy (model prog w) A env fun e s'=>R (.error e) s') s)
    (n:Nat) (h:I n s) :
    codeAny (model prog w) A (.compLoop (.ListComp elt [⟨target,iter,ifs,0⟩] scope pos) 0 it acc env) R s:=by
  refine codeAny_loop rfl I (fun n s hI=>?_) n h
  show wpAny _ A ((compTurn (.ListComp elt [⟨target,iter,ifs,0⟩] scope pos) 0 it acc env).onRaise (fun x=>do noteFrame x env;theTreesLotGoes x)) _ _ s
  refine wpAny_noted ?_
  rw[compTurn_list]
  refine wpAny_bind (wpAny_standAt (wpAny_bind (wpAny_mono (turn n s hI) (fun r s₁ h₁=>?_) fun _ _ h'=>h')))
  cases r with
  | none=>exact wpAny_pure h₁
  | some v =>
    refine wpAny_bind (wpAny_mono h₁ (fun _ s₁' h₁'=>?_) fun _ _ h'=>h')
    refine wpAny_bind (wpAny_mono h₁' (fun _ s₂ h₂=>wpAny_bind (wpAny_mono h₂ (fun ok s₃ h₃=>?_) fun _ _ h'=>h')) fun _ _ h'=>h')
    cases ok with
    | false=>exact wpAny_pure ⟨rfl,h₃⟩
    | true =>
      exact wpAny_bind (wpAny_bind (wpAny_mono h₃ (fun x s₄ h₄=>wpAny_bind (wpAny_mono h₄ (fun _ s₅ h₅=>wpAny_pure (wpAny_pure ⟨rfl,h₅⟩)) fun _ _ h'=>h')) fun _ _ h'=>h'))

section
variable {X:Cx}
def tLc (wi:TI) (g:TG) (tt:TT) (te:TE) (vs:List Nat):TE:=fun σ H Q=>wi σ H fun J H1=>∀ D,H1 D=none→∃ W:Nat→Nat→Hp→Prop,(∃ m,W 0 m (upd H1 D (.lst [])))∧∀ i m H,W i m H →
  (J.stop i H∧Q (.ref D) H)∨(J.go i H∧∃ Nx:Hp→Prop,(∀ H',Nx H'→∃ m',m' < m∧W (i+1) m' H')∧∀ x H',J.yld i H x H'→g x (wipe σ vs) H' fun σ2 H2=>wipe σ2 vs=wipe σ vs∧tt σ2 H2 fun b H3 =>
    if b=true then te σ2 H3 fun y H4=>∃ acc,H4 D=some (.lst acc)∧acc.length < sizeLine∧Nx (upd H4 D (.lst (acc++[y]))) else Nx H3)
theorem lc_core {pins:List (Addr×Obj)} {s:Shared} {σ:St} {H:Hp} {Q:VK} {elt tg iter:Expr} {ifs:List Expr} {scope:Scope} {own:List (Str×Nat)} {pos pos':Pos} {wi:TI} {g:TG} {tt:TT} {te:TE} {use:Option (Value→Sem Unit)} {Qf:Value→Shared→Prop}
    (hc:X.calm=true) (hN:X.N.Nodup) (I:Inv X pins σ H s) (hi:PI X tg iter wi) (ok:BlkOk X.N X.env.scope scope own)
    (hg:∀ (s:Shared) (H:Hp) (C:Addr) (cl:List (Str×Addr)) (fp:List Addr),PG (X.blk s H scope (compEnvC scope cl C X.env) fp) tg g) (ht:∀ (s:Shared) (H:Hp) (C:Addr) (cl:List (Str×Addr)) (fp:List Addr),PTs (X.blk s H scope (compEnvC scope cl C X.env) fp) ifs tt)
    (he:∀ (s:Shared) (H:Hp) (C:Addr) (cl:List (Str×Addr)) (fp:List Addr),PE (X.blk s H scope (compEnvC scope cl C X.env) fp) elt te) (hs:∀ x,foldedSetIterable iter X.env x=pure x)
    (h:tLc wi g tt te (own.map (·.2)) σ H Q)
    (hRR:∀ D C s' m H',Inv X pins σ H' s'→Q (.ref D) H'→s'.heap.Ns C m→FpOk X pins H' C→compPost (model X.prog X.w) X.A X.xe use Qf (.ref D) C (.ok .next) s') :
    wpAny (model X.prog X.w) X.A (comprehension (.ListComp elt [⟨tg,iter,ifs,0⟩] scope pos) scope X.env pos' (newList []) false (eval iter X.env) use) Qf X.xe s:=by
  have hfree:∀ y∈scope.names,y.2=.free→∃ c,X.env.cells.lookup y.1=some c:=fun y hy e=>by
    rcases ok.free y hy e with k | k
    · exact I.ok.has _ (.inl k)
    · exact I.ok.has _ (.inr k)
  refine wpAny_comprehension_free (use:=use) rfl hs (closure_ok hfree) ok.kind (fun y hy e=>by rw[ok.uniq y hy,e])
    (thn (hi pins s σ H _ I h) fun xv s1 hx=>thn hx fun itv s2 h2=>?_)
  obtain⟨it,fp,tn,J,H2,e,I2,T,st2,f2,q⟩:=h2
  subst e
  refine wpAny_newObj_type (newEnv_comp ?_) (by show 0≤sizeLine;decide)
  generalize hD:s2.heap.objs.size=D
  have hDn:H2 D=none:=I2.hok.fresh (Nat.le_of_eq hD)
  obtain⟨W,⟨m0,w0⟩,turn⟩:=q D hDn
  generalize hs3:({ s2 with heap:=s2.heap.push { cls:=.type "list",data:=.seq ([]:List Value).toArray } }:Shared)=s3
  have I3:Inv X pins σ (upd H2 D (.lst [])) s3:=by
    rw[← hs3]
    refine I2.laid (t':=s2.toks) (fun b o e=>Heap.get?_push_of_some _ e) (Nat.le_of_eq hD) ⟨Nat.zero_le _,[],0,.nil,?_⟩
    rw[← hD]
    exact Heap.get?_push_size _ rfl
  have h3:s3.heap=s2.heap.push { cls:=.type "list",data:=.seq ([]:List Value).toArray }:=by rw[← hs3]
  have sz:∀ b∈fp,b < s2.heap.objs.size:=fun b hb=>by
    obtain⟨o,e,_⟩:=T.obj _ _ st2 b hb
    exact Heap.lt_size e
  have f3:∀ b∈fp,FpOk X pins (upd H2 D (.lst [])) b∧b < s3.heap.objs.size:=fun b hb=>by
    have hlt:=sz b hb
    refine⟨⟨?_,(f2 b hb).2⟩,by rw[h3,Heap.size_push];exact Nat.lt_succ_of_lt hlt⟩
    rw[upd_ne (by rw[← hD];exact Nat.ne_of_lt hlt)]
    exact (f2 b hb).1
  have st3:tn 0 s3.heap:=T.keep _ _ _ st2 fun b _ o e=>by rw[h3];exact Heap.get?_push_of_some _ e
  have I4:=block_start I3 ok hN f3
  have pg:=hg s3 (upd H2 D (.lst [])) s3.heap.objs.size (cellsFrom (s3.heap.objs.size+1) scope.names (cloFrom X.env.cells scope.names [])) fp
  have pt:=ht s3 (upd H2 D (.lst [])) s3.heap.objs.size (cellsFrom (s3.heap.objs.size+1) scope.names (cloFrom X.env.cells scope.names [])) fp
  have pe:=he s3 (upd H2 D (.lst [])) s3.heap.objs.size (cellsFrom (s3.heap.objs.size+1) scope.names (cloFrom X.env.cells scope.names [])) fp
  show codeAny _ _ (.compStart (.ListComp elt [⟨tg,iter,ifs,0⟩] scope pos) 0 (.ref it) (.ref D) (compEnvC scope (cellsFrom (s3.heap.objs.size+1) scope.names (cloFrom X.env.cells scope.names [])) s3.heap.objs.size X.env)) (compPost (model X.prog X.w) X.A X.xe use Qf (.ref D) s3.heap.objs.size) { s3 with heap:=pushCells (s3.heap.push { cls:=.type "dict",data:=.dict #[] }) scope.names }
  have nfp:∀ b∈fp,(upd H2 D (.lst [])) b=none:=fun b hb=>(f3 b hb).1.1
  generalize hce:compEnvC scope (cellsFrom (s3.heap.objs.size+1) scope.names (cloFrom X.env.cells scope.names [])) s3.heap.objs.size X.env=ce at I4 pg pt pe ⊢
  have cL:ce.locals=s3.heap.objs.size:=by subst hce;rfl
  generalize hH3:upd H2 D (.lst [])=H3 at I3 I4 pg pt pe w0 nfp f3
  generalize hs4:({ s3 with heap:=pushCells (s3.heap.push { cls:=.type "dict",data:=.dict #[] }) scope.names }:Shared)=s4 at I4 ⊢
  have st4:tn 0 s4.heap:=T.keep _ _ _ st3 fun b _ o e=>by rw[← hs4];exact pushCells_keeps _ _ _ _ (Heap.get?_push_of_some _ e)
  have stat:∀ {σ':St} {H':Hp} {s':Shared},Inv (X.blk s3 H3 scope ce fp) [] σ' H' s'→(∀ b∈fp,H' b=none)→∀ b∈fp,FpOk (X.blk s3 H3 scope ce fp) [] H' b:=fun {σ' H' s'} I' hn b hb =>
    ⟨hn b hb,(I'.ok.exf b hb).1,I'.ok.exfs b hb,.inl hb,fun x c e=>(I'.ok.exf b hb).2 x c e,fun p hp=>absurd (show p∈([]:List (Addr×Obj))++[] from hp) (by simp)⟩
  have loop:codeAny (model X.prog X.w) X.A (.compLoop (.ListComp elt [⟨tg,iter,ifs,0⟩] scope pos) 0 (.ref it) (.ref D) ce) (compPost (model X.prog X.w) X.A X.xe use Qf (.ref D) s3.heap.objs.size) s4:=by
    refine compLoop_any (fun n s'=>∃ i H',Inv (X.blk s3 H3 scope ce fp) [] (wipe σ (own.map (·.2))) H' s'∧tn i s'.heap∧(∀ b∈fp,H' b=none)∧W i n H') ?_ m0 ⟨0,H3,I4,st4,nfp,w0⟩
    rintro n s5 ⟨i,H5,I5,st5,n5,w5⟩
    rcases turn i n H5 w5 with ⟨stop,qq⟩ | ⟨go,Nx,hNx,step⟩
    · have td:=T.done (X.blk s3 H3 scope ce fp) rfl rfl rfl hc i [] s5 _ H5 (fun _ _=>False) I5 (stat I5 n5) st5 stop
      refine thnF td fun r s6 ⟨hr,I6⟩=>?_
      subst hr
      have I7:Inv X pins σ H5 s6:=I3.call' (ch:=fp) I6.os I6.base I6.hok I6.bare fun b hb=>⟨(f3 b hb).1.2.2.2.1,(f3 b hb).1.2.1,(f3 b hb).1.2.2.2.2.1,(f3 b hb).1.2.2.2.2.2⟩
      have nC:H5 s3.heap.objs.size=none:=by
        have z:H5 ce.locals=none:=I6.free
        rw[cL] at z
        exact z
      obtain⟨m,hn,_⟩:=I6.loc
      have hn:s6.heap.Ns ce.locals m:=hn
      rw[cL] at hn
      exact hRR D s3.heap.objs.size s6 m H5 I7 qq hn (I3.fpOk (Nat.le_refl _) nC)
    · have ti:=T.item (X.blk s3 H3 scope ce fp) rfl rfl rfl hc i [] s5 _ H5 (fun _ _=>False) I5 (stat I5 n5) st5 go
      refine thnF ti fun r s6 ⟨u,hr,h6⟩=>?_
      subst hr
      refine thnF h6 fun _ s7 ⟨x,H7,I7,r7,y7,st7,n7⟩=>?_
      have I7':=I7.pinned (stat I7 n7) (T.obj _ _ st7)
      refine thnF (pg _ s7 _ H7 x u _ I7' r7 (step x H7 y7)) fun _ s8 ⟨σ8,H8,I8,hw8,q8⟩=>?_
      refine thnF (pt _ s8 σ8 H8 _ I8 q8) fun b s9 ⟨H9,I9,q9⟩=>?_
      have fin:∀ {s':Shared} {H':Hp},Inv (X.blk s3 H3 scope ce fp) ([]++pinsAt fp s7.heap) σ8 H' s'→Nx H'→∃ m,m < n∧∃ i H',Inv (X.blk s3 H3 scope ce fp) [] (wipe σ (own.map (·.2))) H' s'∧tn i s'.heap∧(∀ b∈fp,H' b=none)∧W i m H':=fun {s' H'} I' nx=>by
        obtain⟨m',hm,w'⟩:=hNx H' nx
        have pin':∀ b∈fp,∀ o,s7.heap.get? b=some o→s'.heap.get? b=some o∧H' b=none:=fun b hb o e =>
          let z:=I'.pin (b,o) (List.mem_append_right _ (List.mem_append_right _ (mem_pinsAt hb e)))
          ⟨z.1,z.2.1⟩
        have hl:(wipe σ (own.map (·.2))).length=σ8.length:=by rw[← hw8,wipe_length]
        refine⟨m',hm,i+1,H',(I'.unpinned (pins:=[])).weak hl (fun j v e=>?_),T.keep _ _ _ st7 fun b hb o e=>(pin' b hb o e).1,fun b hb=>?_,w'⟩
        · rw[← hw8] at e
          exact (wipe_some e).1
        · obtain⟨o,e,_⟩:=T.obj _ _ st7 b hb
          exact (pin' b hb o e).2
      cases b with
      | false =>
        simp only[Bool.false_eq_true,if_false] at q9 ⊢
        exact fin I9 q9
      | true =>
        simp only[if_true] at q9 ⊢
        refine thnF (pe _ s9 σ8 H9 _ I9 q9) fun z s10 ⟨yv,H10,I10,r10,acc,hD10,hz10,nx⟩=>?_
        exact app_ok (X:=X.blk s3 H3 scope ce fp) I10 hD10 hz10 r10 fun s11 I11=>fin I11 nx
  exact codeAny_compStart_list loop (T.self X.A 0 _ _ _ st4 loop)
theorem pe_lc {elt tg iter:Expr} {ifs:List Expr} {scope:Scope} {own:List (Str×Nat)} {pos:Pos} {wi:TI} {g:TG} {tt:TT} {te:TE} (hc:X.calm=true) (hN:X.N.Nodup) (hi:PI X tg iter wi) (ok:BlkOk X.N X.env.scope scope own)
    (hg:∀ (s:Shared) (H:Hp) (C:Addr) (cl:List (Str×Addr)) (fp:List Addr),PG (X.blk s H scope (compEnvC scope cl C X.env) fp) tg g) (ht:∀ (s:Shared) (H:Hp) (C:Addr) (cl:List (Str×Addr)) (fp:List Addr),PTs (X.blk s H scope (compEnvC scope cl C X.env) fp) ifs tt)
    (he:∀ (s:Shared) (H:Hp) (C:Addr) (cl:List (Str×Addr)) (fp:List Addr),PE (X.blk s H scope (compEnvC scope cl C X.env) fp) elt te) (hs:∀ x,foldedSetIterable iter X.env x=pure x:=by intro _;rfl) :
    PE X (.ListComp elt [⟨tg,iter,ifs,0⟩] scope pos) (tLc wi g tt te (own.map (·.2))):=by
  intro pins s σ H Q I h
  rw[eval_ListComp]
  refine lc_core hc hN I hi ok hg ht he hs h fun D C s' m H' I' q hn f=>⟨m,hn,fun h'' sb=>?_⟩
  obtain⟨f0,f1,f2,f3,f4,f5⟩:=f
  exact⟨.ref D,H',I'.turned (t':=s'.toks) (fun b o hb e=>(sb.2 b hb).trans e) f0 f1 f3 f4 f5,rfl,q⟩
theorem ps_setLc {i:Nat} {y:Str} {py:Pos} {elt tg iter:Expr} {ifs:List Expr} {scope:Scope} {own:List (Str×Nat)} {pos spos:Pos} {wi:TI} {g:TG} {tt:TT} {te:TE} (hc:X.calm=true) (hN:X.N.Nodup) (hy:X.N[i]?=some y) (hyl:X.env.scope.names.lookup y=some .local)
    (hsw:swapsWith (.ListComp elt [⟨tg,iter,ifs,0⟩] scope pos) (some (.Name y py)) spos.line X.env=pure true) (hi:PI X tg iter wi) (ok:BlkOk X.N X.env.scope scope own)
    (hg:∀ (s:Shared) (H:Hp) (C:Addr) (cl:List (Str×Addr)) (fp:List Addr),PG (X.blk s H scope (compEnvC scope cl C X.env) fp) tg g) (ht:∀ (s:Shared) (H:Hp) (C:Addr) (cl:List (Str×Addr)) (fp:List Addr),PTs (X.blk s H scope (compEnvC scope cl C X.env) fp) ifs tt)
    (he:∀ (s:Shared) (H:Hp) (C:Addr) (cl:List (Str×Addr)) (fp:List Addr),PE (X.blk s H scope (compEnvC scope cl C X.env) fp) elt te) (hs:∀ x,foldedSetIterable iter X.env x=pure x:=by intro _;rfl) :
    PS X (.Assign [.Name y py] (.ListComp elt [⟨tg,iter,ifs,0⟩] scope pos) spos) (tAsg (tLc wi g tt te (own.map (·.2))) (gName i)):=by
  intro pins s σ H D I h
  rw[exec_Assign_Name_used _ _ _ _ hsw]
  refine wpAny_bind (wpAny_standAt (wpAny_bind ?_))
  show wpAny _ X.A (do let _ ← comprehension (.ListComp elt [⟨tg,iter,ifs,0⟩] scope pos) scope X.env (firstIterPos [⟨tg,iter,ifs,0⟩] pos) (newList []) false (eval iter X.env) (some (assign (.Name y py) X.env))) _ _ s
  have h:tLc wi g tt te (own.map (·.2)) σ H (fun x H1=>gName i x σ H1 D.nx):=h
  refine wpAny_bind (thn (lc_core (Qf:=fun _ s'=>SP X pins D .next s') hc hN I hi ok hg ht he hs h fun L C s' m H' I' q hn f=>?_) fun _ s' hq=>wpAny_pure (wpAny_pure hq))
  show wpAny _ _ (assign (.Name y py) X.env (.ref L)) _ _ _
  refine wpAny_assign_Name (store_ok2 (v:=V.ref L) I' hN hy (.inl hyl) rfl (fun s2 I2 ⟨a,sb,ha⟩=>?_) (.inr hyl))
  obtain⟨f0,f1,f2,f3,f4,f5⟩:=f
  have haC:C≠a:=by
    rcases ha with z | z
    · rw[z];exact f1
    · exact fun e=>f4 y a z e.symm
  refine⟨m,hn.sameBut sb haC,fun h3 sb3=>?_⟩
  exact⟨_,H',I2.turned (t':=s2.toks) (fun b o hb e=>(sb3.2 b hb).trans e) f0 f1 f3 f4 f5,q⟩
theorem sw_true {elt:Expr} {gs:List Comprehension} {scope:Scope} {pos py:Pos} {y:Str} {l:Nat} {env:Env} (hk:env.scope.kind=.function) (hy:env.scope.names.lookup y=some .local) (hl:(py.line == pos.line)=true)
    (ha:(scope.names.any fun (n,k)=>n == y && (k == .local || k == .cell))=false):swapsWith (.ListComp elt gs scope pos) (some (.Name y py)) l env=pure true:=by
  have ky:env.kindOf y=some .local:=hy
  have hb:env.blockKind=.function:=by unfold Env.blockKind;rw[hk];rfl
  unfold swapsWith
  simp only[hb,ky,ha,Expr.pos,hl]
  rfl
end

def blkC (N:List Str) (sc scope:Scope) (own:List (Str×Nat)):Bool :=
  (match scope.kind with | .function=>true | _=>false) && (scope.names.all fun y=>decide (scope.names.lookup y.1=some y.2)) && (own.all fun p=>decide (N[p.2]?=some p.1)) &&
    (scope.names.all fun y=>match y.2 with
      | .free=>(match sc.names.lookup y.1 with | some .cell=>true | some .free=>true | _=>false)
      | .local=>decide (y.1∈own.map (·.1)) || decide (y.1∉N)
      | .cell=>decide (y.1∈own.map (·.1)) || decide (y.1∉N)
      | _=>true)
theorem blkOk_by {N:List Str} {sc scope:Scope} {own:List (Str×Nat)} (h:blkC N sc scope own=true):BlkOk N sc scope own:=by
  unfold blkC at h
  simp only[Bool.and_eq_true,List.all_eq_true,decide_eq_true_eq] at h
  obtain⟨⟨⟨h1,h2⟩,h3⟩,h4⟩:=h
  refine⟨?_,h2,h3,fun y hy e=>?_,fun y hy e=>?_⟩
  · split at h1
    · assumption
    · cases h1
  · have q:=h4 y hy
    simp only[e] at q
    split at q <;> first | exact .inl (by assumption) | exact .inr (by assumption) | cases q
  · have q:=h4 y hy
    rcases e with e | e <;> (simp only[e,Bool.or_eq_true,decide_eq_true_eq] at q;exact q)
end L2

namespace L2
open PySem PySem.Spec PyProof.Rows


section
variable {prog:Program} {w:World} {A:Around} {R:Result→Shared→Prop} {s:Shared} {elt t0 i0 t1 i1:Expr} {ifs0 ifs1:List Expr} {scope:Scope} {pos:Pos} {it acc:Value} {env:Env}
end

section
variable {X:Cx}
end
end L2

namespace L2
open PySem PySem.Spec PyProof.Rows

section
variable {κ:Type} [DecidableEq κ]



theorem KV.length {kvs:List (κ×V)} {vs:List (κ×Value)} (r:KV kvs vs):kvs.length=vs.length:=Paired.length r
end


theorem kV_is {P:Program} {w:World} {k:Key} {u:Value} (r:RelV (kV k) u):(mixKind P w).is k u=true:=by
  cases k with
  | inl i=>obtain⟨t,e⟩:=(show ∃ t,u=Value.int i t from r);subst e;exact mixKind_int P w i t
  | inr x=>obtain⟨t,e⟩:=(show ∃ t,u=Value.str x t from r);subst e;exact mixKind_str P w x t
theorem items_are {P:Program} {w:World}:∀ {ks:List Key} {us:List Value},Vals (ks.map kV) us→ItemsAre (mixKind P w) ks us
  | [],_,r=>by rw[List.map_nil] at r;cases r;exact .nil
  | k :: ks,_,r=>by
    rw[List.map_cons] at r
    cases r with
    | cons h t=>exact .cons (kV_is h) (items_are t)

abbrev KT (H:Hp):List (List Key×V)→List (List Key×Addr×Value)→Prop:=Paired fun p q=>p.1=q.1∧H q.2.1=some (.tup (p.1.map kV))∧RelV p.2 q.2.2

section
variable {P:Program} {w:World} {H:Hp} {h:Heap} {a:Addr}
theorem rd_of {u:HO} (ok:HOk P w H h) (e:Rd H a u):ObjOk P w H h a u:=e.ok ok
theorem dk_rd {kvs:List (Key×V)} (ok:HOk P w H h) (e:Rd H a (.dK kvs)):kvs.length≤sizeLine∧(a == sysModules)=false∧∃ vs,KV kvs vs∧h.DictOf (mixKind P w) a vs :=
  show ObjOk P w H h a (.dK kvs) from rd_of ok e
theorem key_of {ks:List Key} (ok:HOk P w H h) (e:H a=some (.tup (ks.map kV))):(tupleKind (mixKind P w)).is h ks a:=by
  obtain⟨_,its,r,o,h1,h2,n,h3⟩:=(show ObjOk P w H h a (.tup (ks.map kV)) from ok a _ e)
  exact⟨o,its.toArray,n,h1,h2,h3,by simpa using items_are r⟩
theorem dt_rd {kvs:List (List Key×V)} (ok:HOk P w H h) (e:Rd H a (.dT kvs)):kvs.length≤sizeLine∧(a == sysModules)=false ∧
    ∃ xs,KT H kvs xs∧h.DictOfH (tupleKind (mixKind P w)) a xs:=by
  obtain⟨z,y,xs,r,o,es,ep,h1,h2,h3,h4,h5⟩:=(show ObjOk P w H h a (.dT kvs) from rd_of ok e)
  refine⟨z,y,xs,r,o,es,ep,h1,h2,h3,h4,fun x hx=>?_,h5⟩
  have all:∀ {l:List (List Key×V)} {m:List (List Key×Addr×Value)},KT H l m→∀ x∈m,(tupleKind (mixKind P w)).is h x.1 x.2.1:=by
    intro l m q
    induction q with
    | nil=>intro x hx;exact nomatch hx
    | @cons p q ps qs hq t ih =>
      intro x hx
      rcases List.mem_cons.mp hx with e | hx
      · subst e
        exact key_of ok (by rw[← hq.1];exact hq.2.1)
      · exact ih x hx
  exact all r x hx
end



section
variable {X:Cx} {pins:List (Addr×Obj)} {σ:St} {H:Hp} {s:Shared} {a:Addr} {y v:V} {u r:Value} {o:Option V} {A:Around} {E:Value→Shared→Prop}


end

section
variable {X:Cx} {pins:List (Addr×Obj)} {σ:St} {H:Hp} {s:Shared} {a:Addr} {kvs:List (Key×V)} {k:Key} {u:Value} {A:Around} {E:Value→Shared→Prop}
end





section
variable {X:Cx} {o i e value:Expr} {pos pos' tpos:Pos} {td ty tv:TE}
end


section
variable {X:Cx} {pos:Pos}
end




structure M1 (X:Cx) (o:Expr) (m:Str) (apos:Pos) (e:Expr) (cpos:Pos):Prop where
  base:attributeBase o m X.env (eval o X.env)=eval o X.env
  few:((backTo cpos (starEach [e] X.env)).all (fun x=>!x.1) && (backToKw cpos (keywordEach [] X.env)).all (fun x=>x.1.isSome)
    && decide (([e]:List Expr).length+([]:List Keyword).length+(if ([]:List Keyword).isEmpty then 0 else 1) < 30))=true
  line:(apos.endLine == cpos.line)=true
  trees:backTo cpos (starEach [e] X.env)=[(false,eval e X.env)]
structure M2 (X:Cx) (o:Expr) (m:Str) (apos:Pos) (e f:Expr) (cpos:Pos):Prop where
  base:attributeBase o m X.env (eval o X.env)=eval o X.env
  few:((backTo cpos (starEach [e,f] X.env)).all (fun x=>!x.1) && (backToKw cpos (keywordEach [] X.env)).all (fun x=>x.1.isSome)
    && decide (([e,f]:List Expr).length+([]:List Keyword).length+(if ([]:List Keyword).isEmpty then 0 else 1) < 30))=true
  line:(apos.endLine == cpos.line)=true
  trees:backTo cpos (starEach [e,f] X.env)=[(false,eval e X.env),(false,eval f X.env)]

def IsD (H:Hp) (a:Addr):Prop:=(∃ kvs,Rd H a (.dK kvs))∨∃ kvs,Rd H a (.dT kvs)
theorem isD_at {X:Cx} {pins:List (Addr×Obj)} {σ:St} {H:Hp} {s:Shared} {a:Addr} (I:Inv X pins σ H s) (d:IsD H a) :
    s.TypeIs (.ref a) "dict"∧(∀ b,Value.ref a=.ref b→∃ ob,s.heap.get? b=some ob∧ob.dict=none)∧(a == sysModules)=false:=by
  rcases d with ⟨kvs,e⟩ | ⟨kvs,e⟩
  · obtain⟨_,hd,vs,_,dd⟩:=dk_rd I.hok e
    refine⟨dd.typeIs,fun b q=>?_,hd⟩
    cases q
    obtain⟨ob,_,_,h1,h2,_⟩:=dd
    exact⟨ob,h1,h2.2.1⟩
  · obtain⟨_,hd,xs,_,dd⟩:=dt_rd I.hok e
    refine⟨dd.typeIs,fun b q=>?_,hd⟩
    cases q
    obtain⟨ob,_,_,h1,h2,_⟩:=dd
    exact⟨ob,h1,h2.2.1⟩

section
variable {X:Cx} {pins:List (Addr×Obj)} {σ:St} {H:Hp} {s:Shared} {a:Addr} {y d:V} {u r:Value} {o:Option V} {A:Around} {E:Value→Shared→Prop}
end

section
variable {X:Cx} {o e f:Expr} {apos cpos:Pos} {td ty tx:TE}
end

section
variable {X:Cx} {pins:List (Addr×Obj)} {σ:St} {H:Hp} {s:Shared} {a:Addr} {kvs:List (Key×V)} {A:Around} {E:Value→Shared→Prop}
end


section
variable {X:Cx} {pins:List (Addr×Obj)} {σ:St} {H:Hp} {s:Shared} {a:Addr} {y:V} {u:Value} {A:Around} {E:Value→Shared→Prop}
end
end L2

namespace L2
open PySem PySem.Spec PyProof.Rows


section
variable {prog:Program} {w:World} {A:Around} {E:Value→Shared→Prop}


end

section
variable {X:Cx}
end
end L2

namespace L2
open PySem PySem.Spec PyProof.Rows

theorem boot_reversed5:bootBuiltins "reversed"=some (.type "reversed"):=by decide +kernel

section
variable {X:Cx} {pins:List (Addr×Obj)} {σ:St} {H:Hp} {s:Shared} {h':Heap}
theorem Inv.turnedNew {t':Nat} {ch:List Addr} {T:Addr} {ob:HO} (I:Inv X pins σ H s) (k:∀ b o,b∉ch→s.heap.get? b=some o→h'.get? b=some o) (hf:∀ b∈ch,FpOk X pins H b) (hT:s.heap.objs.size≤T)
    (new:ObjOk X.prog X.w (upd H T ob) h' T ob):Inv X pins σ (upd H T ob) { s with heap:=h',toks:=t' }:=by
  have hn:H T=none:=I.hok.fresh hT
  have nit:∀ b u,H b=some u→b∉ch:=fun b u e z=>by
    have q:=(hf b z).1
    rw[q] at e;cases e
  refine I.step (g':=s.gens) (d':=s.drawn) (ch:=ch) (fun b hb=>⟨(hf b hb).2.2.2.1,(hf b hb).2.1,(hf b hb).2.2.2.2.1,(hf b hb).2.2.2.2.2⟩) (fun b o _ _ hc e _=>k b o hc e) (fun b o _ _ hc e _=>⟨o.slots,k b o hc e⟩)
    (fun b o _ e n=>?_) (fun b o hc e=>⟨o,k b o hc e⟩) (fun b xs e=>?_) (fun b o u e=>?_) (fun b ps e=>⟨#[],?_⟩) (fun m hm=>?_) (fun b u e=>?_) I.bare
  · rw[upd_ne (Nat.ne_of_lt (Nat.lt_of_lt_of_le (Heap.lt_size e) hT))];exact n
  · rw[upd_ne (ne_of_none e hn)];exact e
  · rw[upd_ne (ne_of_none e hn)];exact e
  · rw[upd_ne (ne_of_none e hn),e];simp
  · obtain⟨o,es,ep,ho,r⟩:=hm
    exact⟨o,es,ep,k _ o (fun z=>(hf _ z).2.1 rfl) ho,r⟩
  · by_cases hb:b=T
    · subst hb
      rw[upd_same] at e
      cases e
      exact new
    · rw[upd_ne hb] at e
      refine (I.hok b u e).stay (fun c v hc q=>k c v ?_ q) (fun c q=>by rw[upd_ne (ne_of_none q hn)];exact q) fun c xs q=>by rw[upd_ne (ne_of_none q hn)];exact q
      rcases hc with z | z
      · rw[z];exact nit b u e
      · exact nit c _ z

end
section
variable {X:Cx}

theorem pi_one {tg:Expr} {pins:List (Addr×Obj)} {σ:St} {H:Hp} {s:Shared} {R:It→Hp→Prop} {J:It} {tn:Nat→Heap→Prop} {tk:Nat} (I:Inv X pins σ H s) (o:Obj)
    (T:Turn X.prog X.w X.K tg J [s.heap.objs.size] s.heap.objs.size tn) (st:tn 0 (s.heap.push o)) (q:R J H):PIE X pins σ tg R (.ref s.heap.objs.size) { s with heap:=s.heap.push o,toks:=tk }:=by
  refine⟨s.heap.objs.size,[s.heap.objs.size],tn,J,H,rfl,I.kept fun b ob e=>Heap.get?_push_of_some _ e,T,st,fun b hb=>?_,q⟩
  have e:b=s.heap.objs.size:=by simpa using hb
  subst e
  exact I.fpOk (Nat.le_refl _) (I.hok.fresh (Nat.le_refl _))
end

def Itc (lo c:Int) (n:Nat):It:=⟨fun i _=>i < n,fun i H x H'=>H'=H∧x=.int (lo+(i:Nat) * c),fun i _=>n≤i⟩
theorem turn_rangeC {P:Program} {w:World} {K:PySem.W.Frag} {tg:Expr} (it:Addr) (lo c:Int) (n:Nat):Turn P w K tg (Itc lo c n) [it] it (fun i h=>IsRangeIter h it (lo+(i:Nat) * c) ((n:Int)-(i:Nat)) c) where
  mem:=by simp
  obj:=fun i h st b hb=>by
    have e:b=it:=by simpa using hb
    subst e
    exact⟨_,st,fun v z=>nomatch z⟩
  keep:=fun i h h' st k=>k it (by simp) _ st
  item:=by
    intro X hP hw hK hc i pins s σ H E I hf st hg
    subst hP hw hK
    obtain⟨f0,f1,f2,f3,f4,f5⟩:=hf it (by simp)
    have W:=Walks.range (prog:=X.prog) (w:=X.w) (I.ok.hd hc) it lo c n
    refine W.item i s _ _ hg st fun v h' tk hv st' kk=>?_
    obtain⟨t,rfl⟩:=hv
    have I1:Inv X pins σ H { s with heap:=h',toks:=tk }:=I.turned (fun b o hb e=>kk b o (by simpa using hb) e) f0 f1 f3 f4 f5
    exact⟨_,rfl,go_of (s:={ s with heap:=h',toks:=tk }) (n:="range_iterator") st' rfl rfl (by decide) ⟨.int (lo+(i:Nat) * c),H,I1,⟨t,rfl⟩,⟨rfl,rfl⟩,st',fun b hb=>(hf b hb).1⟩⟩
  done:=by
    intro X hP hw hK hc i pins s σ H E I hf st hg
    subst hP hw hK
    obtain⟨f0,f1,f2,f3,f4,f5⟩:=hf it (by simp)
    exact wpAny_pyNext_range_end (I.ok.hd hc) st (by have : n≤i:=hg;omega) fun h' eb=>⟨rfl,I.turned (t':=s.toks) (fun b o hb e=>eb b o hb e) f0 f1 f3 f4 f5⟩
  self:=fun A i s Q E st h=>wpAny_pyIter_rangeiter st h
section
variable {X:Cx} {tg:Expr}
end
theorem for_rangeC {lo c:Int} {n:Nat} {g:TG} {tb:TS} {D:Ends} {σ:St} {H:Hp} (Pv:Nat→St→Hp→Prop) (h0:Pv 0 σ H)
    (hs:∀ i σ H,i < n→Pv i σ H→g (.int (lo+(i:Nat) * c)) σ H fun σ2 H2=>tb { D with nx:=Pv (i+1),ct:=Pv (i+1),bk:=D.nx } σ2 H2) (hd:∀ σ H,Pv n σ H→D.nx σ H) :
    ∃ W:Nat→Nat→St→Hp→Prop,(∃ m,W 0 m σ H)∧∀ i m σ H,W i m σ H →
      ((Itc lo c n).stop i H∧D.nx σ H)∨((Itc lo c n).go i H∧∃ N:St→Hp→Prop,(∀ σ' H',N σ' H'→∃ m',m' < m∧W (i+1) m' σ' H')∧∀ x H',(Itc lo c n).yld i H x H'→g x σ H' fun σ2 H2=>tb { D with nx:=N,ct:=N,bk:=D.nx } σ2 H2):=by
  refine⟨fun i m σ H=>m=n-i∧i≤n∧Pv i σ H,⟨n,by simp,Nat.zero_le _,h0⟩,?_⟩
  rintro i m σ H ⟨rfl,hi,p⟩
  by_cases hlt:i < n
  · refine .inr ⟨hlt,Pv (i+1),fun σ' H' p'=>⟨n-(i+1),by omega,rfl,hlt,p'⟩,fun x H' y=>?_⟩
    obtain⟨e,y⟩:=y
    subst e y
    exact hs i σ _ hlt p
  · have e:i=n:=by omega
    subst e
    exact .inl ⟨Nat.le_refl _,hd σ H p⟩

section
variable {X:Cx} {tg:Expr}
end

def Its (x:Str):It:=⟨fun i _=>i < x.cps.size,fun i H v H'=>H'=H∧∃ c,x.cps[i]?=some c∧v=.str ⟨#[c]⟩,fun i _=>x.cps.size≤i⟩
theorem turn_str {P:Program} {w:World} {K:PySem.W.Frag} {tg:Expr} (it:Addr) (x:Str) (t:Tok) (ty:String) (hty:ty="str_ascii_iterator"∨ty="str_iterator") :
    Turn P w K tg (Its x) [it] it (fun i h=>h.IsStrIter it ty x t i) where
  mem:=by simp
  obj:=fun i h st b hb=>by
    have e:b=it:=by simpa using hb
    subst e
    obtain⟨o,e,c,d⟩:=st
    exact⟨o,e,fun v z=>by rw[d] at z;cases z⟩
  keep:=fun i h h' st k=>let ⟨o,ho,r⟩:=st;⟨o,k it (by simp) o ho,r⟩
  item:=by
    intro X hP hw hK hc i pins s σ H E I hf st hg
    subst hP hw hK
    obtain⟨f0,f1,f2,f3,f4,f5⟩:=hf it (by simp)
    have W:Walks X.prog X.w X.A it [it] [it] x.cps.size (SignAt x) (fun i h=>h.IsStrIter it ty x t i):=by
      rcases hty with e | e
      · rw[e];exact Walks.strAscii (I.ok.hd hc) it x t
      · rw[e];exact Walks.strWide (I.ok.hd hc) it x t
    have hno:["enumerate","zip","dict_itemiterator","dict_reverseitemiterator","odict_iterator","itertools.zip_longest","itertools.pairwise"].contains ty=false:=by
      rcases hty with e | e
      · rw[e];decide
      · rw[e];decide
    refine W.item i s _ _ hg st fun v h' tk hv st' kk=>?_
    obtain⟨c,u,hcx,rfl⟩:=hv
    have I1:Inv X pins σ H { s with heap:=h',toks:=tk }:=I.turned (fun b o hb e=>kk b o (by simpa using hb) e) f0 f1 f3 f4 f5
    obtain⟨oi,e,cc,dd⟩:=id st'
    exact⟨_,rfl,go_of (s:={ s with heap:=h',toks:=tk }) e cc dd hno ⟨.str ⟨#[c]⟩,H,I1,⟨u,rfl⟩,⟨rfl,c,hcx,rfl⟩,st',fun b hb=>(hf b hb).1⟩⟩
  done:=by
    intro X hP hw hK hc i pins s σ H E I hf st hg
    subst hP hw hK
    obtain⟨f0,f1,f2,f3,f4,f5⟩:=hf it (by simp)
    have hx:x.cps[i]?=none:=Array.getElem?_eq_none hg
    rcases hty with e | e
    · rw[e] at st
      exact wpAny_pyNext_ascii_end (I.ok.hd hc) st hx fun h' eb=>⟨rfl,I.turned (t':=s.toks) (fun b o hb e=>eb b o hb e) f0 f1 f3 f4 f5⟩
    · rw[e] at st
      exact wpAny_pyNext_wide_end (I.ok.hd hc) st hx fun h' eb=>⟨rfl,I.turned (t':=s.toks) (fun b o hb e=>eb b o hb e) f0 f1 f3 f4 f5⟩
  self:=fun A i s Q E st h=>by
    rcases hty with e | e
    · rw[e] at st;exact wpAny_pyIter_striter_ascii st h
    · rw[e] at st;exact wpAny_pyIter_striter_wide st h
def iStr (te:TE):TI:=fun σ H R=>te σ H fun v H1=>∃ x,v=.str x∧R (Its x) H1
theorem pi_str {X:Cx} {tg e:Expr} {te:TE} (he:PE X e te):PI X tg e (iStr te):=by
  intro pins s σ H R I h
  refine thn (he pins s σ H _ I h) fun v s1 ⟨y,H1,I1,r1,x,ex,q⟩=>?_
  subst ex
  obtain⟨t,rfl⟩:=r1
  cases ha:x.cps.all (· < 128)
  · exact wpAny_pyIter_wide ha (pi_one (tk:=s1.toks) I1 _ (turn_str _ x t "str_iterator" (.inr rfl)) ⟨_,Heap.get?_push_size _ rfl,rfl,rfl⟩ q)
  · exact wpAny_pyIter_ascii ha (pi_one (tk:=s1.toks) I1 _ (turn_str _ x t "str_ascii_iterator" (.inl rfl)) ⟨_,Heap.get?_push_size _ rfl,rfl,rfl⟩ q)

section
variable {prog:Program} {w:World} {A:Around} {E:Value→Shared→Prop} {s:Shared}
end

section
variable {X:Cx} {pins:List (Addr×Obj)} {σ:St} {H:Hp} {s:Shared} {d:Addr} {o:Obj}
end

section
variable {P:Program} {w:World} {K:PySem.W.Frag} {tg:Expr} {d:Addr} {o:Obj} {es:Array DictEntry} {ep:Nat}
end

section
variable {X:Cx} {tg e:Expr} {td:TE} {apos cpos:Pos}
end

def Ite (K:PySem.W.Frag) (a:Addr):It :=
  ⟨fun i H=>∃ (xs:List V) (x:V),SqL K H a xs∧xs[i]?=some x,fun i H v H'=>∃ T x,v=.ref T∧H T=none∧H'=upd H T (.tup [.int (i:Nat),x])∧∀ xs,SqL K H a xs→xs[i]?=some x,fun i H=>∃ xs:List V,SqL K H a xs∧xs.length≤i⟩
theorem turn_enum {P:Program} {w:World} {K:PySem.W.Frag} {elts:List Expr} {kk:Nat} {tpos:Pos} (a e it:Addr) :
    Turn P w K (.Tuple elts kk tpos) (Ite K a) [e,it] e (fun i h=>(∃ old,IsEnum h e it ((i:Nat):Int) old)∧h.IsListIter it a i∧e≠it) where
  mem:=by simp
  obj:=fun i h st b hb=>by
    obtain⟨⟨old,he⟩,⟨o,ho,hc,hd⟩,_⟩:=st
    have e':b=e∨b=it:=by simpa using hb
    rcases e' with z | z
    · rw[z];exact⟨_,he,fun v q=>nomatch q⟩
    · rw[z];exact⟨o,ho,fun v q=>by rw[hd] at q;cases q⟩
  keep:=fun i h h' st k=>let ⟨⟨old,he⟩,hi,hne⟩:=st;⟨⟨old,k e (by simp) _ he⟩,hi.at fun o q=>k it (by simp) o q,hne⟩
  item:=by
    intro X hP hw hK hc i pins s σ H E I hf st hg
    subst hP hw hK
    obtain⟨⟨old,he⟩,hit,hne⟩:=st
    obtain⟨xs,x,hq,hx⟩:=hg
    obtain⟨its,rv,p,hz⟩:=I.list hq
    obtain⟨u,hu,ru⟩:=rv.get hx
    have hel:e < s.heap.objs.size:=Heap.lt_size he
    have hil:it < s.heap.objs.size:=by obtain⟨_,q,_⟩:=hit;exact Heap.lt_size q
    refine wpAny_pyNext_enum_item he hit p.isList (x:=u) (by simpa using hu) hne fun h' ho hit' hT hsz hk=>?_
    refine⟨_,rfl,wpAny_letOwnedTupleGo_enum (s:={ s with heap:=h',toks:=s.toks+1 }) ho fun h'' he' sb=>?_⟩
    have hT2:h''.get? s.heap.objs.size=some { cls:=.type "tuple",data:=.seq #[.int i s.toks,u] }:=(sb.2 _ (Nat.ne_of_gt hel)).trans hT
    have new:ObjOk X.prog X.w (upd H s.heap.objs.size (.tup [.int (i:Nat),x])) h'' s.heap.objs.size (.tup [.int (i:Nat),x]) :=
      ⟨by show 2≤sizeLine;decide,[.int i s.toks,u],.cons ⟨_,rfl⟩ (.cons ru .nil),⟨_,hT2,rfl,_,rfl⟩⟩
    have I1:Inv X pins σ (upd H s.heap.objs.size (.tup [.int (i:Nat),x])) { s with heap:=h'',toks:=s.toks+1 } :=
      I.turnedNew (ch:=[e,it]) (fun b ob hb q=>(sb.2 b (fun z=>hb (by simp[z]))).trans (hk b ob (fun z=>hb (by simp[z])) (fun z=>hb (by simp[z])) q)) hf (Nat.le_refl _) new
    refine⟨.ref s.heap.objs.size,_,I1,rfl,⟨_,x,rfl,I.hok.fresh (Nat.le_refl _),rfl,fun ys hy=>by rw[I.list_inj hy hq];exact hx⟩,⟨⟨u,?_⟩,hit'.at fun o q=>(sb.2 it (Ne.symm hne)).trans q,hne⟩,fun b hb=>?_⟩
    · have e1:((i+1:Nat):Int)=(i:Int)+1:=by omega
      rw[e1];exact he'
    · have hb':b < s.heap.objs.size:=by
        have e':b=e∨b=it:=by simpa using hb
        rcases e' with z | z
        · rw[z];exact hel
        · rw[z];exact hil
      rw[upd_ne (Nat.ne_of_lt hb')]
      exact (hf b hb).1
  done:=by
    intro X hP hw hK hc i pins s σ H E I hf st hg
    subst hP hw hK
    obtain⟨⟨old,he⟩,hit,hne⟩:=st
    obtain⟨xs,hq,hx⟩:=hg
    obtain⟨its,rv,p,hz⟩:=I.list hq
    obtain⟨f0,f1,f2,f3,f4,f5⟩:=hf it (by simp)
    have hl:=rv.length
    exact wpAny_pyNext_enum_end (I.ok.hd hc) he hit p.isList (by simp;omega) fun h' eb=>⟨rfl,I.turned (t':=s.toks) (fun b o hb q=>eb b o hb q) f0 f1 f3 f4 f5⟩
  self:=fun A i s Q E st h=>let ⟨⟨_,he⟩,_⟩:=st;wpAny_pyIter_enum he h
def iEnum (K:PySem.W.Frag) (ta:TA):TI:=fun σ H R=>ta σ H fun vs H1=>∃ a xs,vs=[.ref a]∧SqL K H1 a xs∧R (Ite K a) H1
theorem pi_enum {X:Cx} {e:Expr} {ta:TA} {p pos tpos:Pos} {elts:List Expr} {kk:Nat} (hg:Gl X "enumerate") (hm:X.mg "enumerate"=none) (ha:PA X [e] ta) (hs:starEach [e] X.env=[(false,eval e X.env)]:=by rfl) :
    PI X (.Tuple elts kk tpos) (.Call (.Name "enumerate" p) [e] [] pos) (iEnum X.K ta):=by
  intro pins s σ H R I h
  refine Call_ (ld_blt I hg hm boot_enumerate (PyProof.Rows.callWith_type1 (thn (ha pos pins s σ H _ I h) fun us s1 ⟨vs,H1,I1,r1,q1⟩=>?_) hs rfl))
  obtain⟨a,xs,ex,hq,q⟩:=q1
  subst ex
  cases r1 with
  | cons r rr =>
    cases rr
    cases r
    obtain⟨its,rv,p',hz⟩:=I1.list hq
    refine call_enumerate_list p'.isList fun h' he hit hsz hk=>wpAny_pyIter_enum he ?_
    have I2:Inv X pins σ H1 { s1 with heap:=h' }:=I1.kept (t':=s1.toks) hk
    refine⟨s1.heap.objs.size+1,[s1.heap.objs.size+1,s1.heap.objs.size],_,_,H1,rfl,I2,turn_enum a (s1.heap.objs.size+1) s1.heap.objs.size,⟨⟨.none,he⟩,hit,Nat.succ_ne_self _⟩,fun b hb=>?_,q⟩
    have e':b=s1.heap.objs.size+1∨b=s1.heap.objs.size:=by simpa using hb
    have hle:s1.heap.objs.size≤b:=by
      rcases e' with z | z
      · rw[z];exact Nat.le_add_right _ _
      · rw[z];exact Nat.le_refl _
    exact I1.fpOk hle (I1.hok.fresh hle)
end L2

section
namespace Bits
open PySem PyProof.Rows








end Bits
end

section
namespace TL
open PySem PySem.Builtin PySem.Builtin.Str PySem.StrLaws

abbrev tl (x:Str):List Nat:=x.cps.toList
theorem len_tl (x:Str):x.length=(tl x).length:=by simp[tl,Str.length]
theorem ext_tl {x y:Str} (h:tl x=tl y):x=y:=Str.ext' (Array.toList_inj.mp h)
theorem tl_append (x y:Str):tl (x++y)=tl x++tl y:=by
  show (x++y).cps.toList=_
  rw[Str.cps_append,Array.toList_append]
theorem map_tl_inj:∀ {l m:List Str},l.map tl=m.map tl→l=m
  | [],[],_=>rfl
  | [],_ :: _,h=>by simp at h
  | _ :: _,[],h=>by simp at h
  | x :: l,y :: m,h=>by
    rw[List.map_cons,List.map_cons] at h
    injection h with h1 h2
    rw[ext_tl h1,map_tl_inj h2]

def pre (S l:List Nat):Bool:=l.take S.length == S
def spl (S:List Nat):Nat→List Nat→List Nat→List (List Nat)
  | _,acc,[]=>[acc]
  | 0,acc,c :: r=>if pre S (c :: r)=true then acc :: spl S (S.length-1) [] r else spl S 0 (acc++[c]) r
  | k+1,acc,_ :: r=>spl S k acc r
def par (S:List Nat):List Nat→List Nat→Option (List Nat×List Nat)
  | _,[]=>none
  | acc,c :: r=>if pre S (c :: r)=true then some (acc,(c :: r).drop S.length) else par S (acc++[c]) r

theorem spl_nil (S:List Nat) (k:Nat) (acc:List Nat):spl S k acc []=[acc]:=by cases k <;> rfl
theorem spl_hit {S acc r:List Nat} {c:Nat} (h:pre S (c :: r)=true):spl S 0 acc (c :: r)=acc :: spl S (S.length-1) [] r:=by
  show (if pre S (c :: r)=true then acc :: spl S (S.length-1) [] r else spl S 0 (acc++[c]) r)=_
  rw[if_pos h]
theorem spl_miss {S acc r:List Nat} {c:Nat} (h:pre S (c :: r)=false):spl S 0 acc (c :: r)=spl S 0 (acc++[c]) r:=by
  show (if pre S (c :: r)=true then acc :: spl S (S.length-1) [] r else spl S 0 (acc++[c]) r)=_
  rw[if_neg (by rw[h];exact Bool.false_ne_true)]
theorem spl_pass (S:List Nat):∀ (k:Nat) (acc l:List Nat),spl S k acc l=spl S 0 acc (l.drop k)
  | 0,_,_=>by rw[List.drop_zero]
  | k+1,acc,[]=>by rw[List.drop_nil,spl_nil,spl_nil]
  | k+1,acc,c :: r=>by
    show spl S k acc r=spl S 0 acc (r.drop k)
    exact spl_pass S k acc r
theorem par_hit {S acc r:List Nat} {c:Nat} (h:pre S (c :: r)=true):par S acc (c :: r)=some (acc,(c :: r).drop S.length):=by
  show (if pre S (c :: r)=true then some (acc,(c :: r).drop S.length) else par S (acc++[c]) r)=_
  rw[if_pos h]
theorem par_miss {S acc r:List Nat} {c:Nat} (h:pre S (c :: r)=false):par S acc (c :: r)=par S (acc++[c]) r:=by
  show (if pre S (c :: r)=true then some (acc,(c :: r).drop S.length) else par S (acc++[c]) r)=_
  rw[if_neg (by rw[h];exact Bool.false_ne_true)]

theorem pre_nil {S:List Nat} (hS:S≠[]):pre S []=false:=by
  cases S with
  | nil=>exact absurd rfl hS
  | cons s S=>rfl
theorem pre_of_head {s c:Nat} (S r:List Nat) (h:c≠s):pre (s :: S) (c :: r)=false:=by
  cases hp:pre (s :: S) (c :: r) with
  | false=>rfl
  | true =>
    have e:(c :: r).take (s :: S).length=s :: S:=eq_of_beq hp
    rw[List.length_cons,List.take_succ_cons] at e
    injection e with e1 e2
    exact absurd e1 h
theorem pre_self (S r:List Nat):pre S (S++r)=true:=by
  show ((S++r).take S.length == S)=true
  have e:(S++r).take S.length=S:=List.take_left
  rw[e] <;> exact beq_self_eq_true S

theorem getElem_drop_cons {L:List Nat} {a:Nat} (h:a < L.length):∃ c,L.drop a=c :: L.drop (a+1):=⟨L[a],List.drop_eq_getElem_cons h⟩
theorem spl_run (S L:List Nat):∀ (m a:Nat) (acc:List Nat),a+m≤L.length→(∀ k,a≤k→k < a+m→pre S (L.drop k)=false) →
    spl S 0 acc (L.drop a)=spl S 0 (acc++(L.drop a).take m) (L.drop (a+m))
  | 0,a,acc,_,_=>by rw[List.take_zero,List.append_nil,Nat.add_zero]
  | m+1,a,acc,h,hn=>by
    have hlt:a < L.length:=by omega
    obtain⟨c,e⟩:=getElem_drop_cons hlt
    have h0:=hn a (Nat.le_refl _) (by omega)
    have ih:=spl_run S L m (a+1) (acc++[c]) (by omega) (fun k h1 h2=>hn k (by omega) (by omega))
    have e2:a+1+m=a+(m+1):=by omega
    rw[e2] at ih
    rw[e] at h0
    rw[e,spl_miss h0,ih,List.take_succ_cons,List.append_assoc] <;> rfl
theorem par_run (S L:List Nat):∀ (m a:Nat) (acc:List Nat),a+m≤L.length→(∀ k,a≤k→k < a+m→pre S (L.drop k)=false) →
    par S acc (L.drop a)=par S (acc++(L.drop a).take m) (L.drop (a+m))
  | 0,a,acc,_,_=>by rw[List.take_zero,List.append_nil,Nat.add_zero]
  | m+1,a,acc,h,hn=>by
    have hlt:a < L.length:=by omega
    obtain⟨c,e⟩:=getElem_drop_cons hlt
    have h0:=hn a (Nat.le_refl _) (by omega)
    have ih:=par_run S L m (a+1) (acc++[c]) (by omega) (fun k h1 h2=>hn k (by omega) (by omega))
    have e2:a+1+m=a+(m+1):=by omega
    rw[e2] at ih
    rw[e] at h0
    rw[e,par_miss h0,ih,List.take_succ_cons,List.append_assoc] <;> rfl
theorem drop_two (L:List Nat) (a b:Nat):(L.drop a).drop b=L.drop (a+b):=by
  first
    | rw[List.drop_drop]
    | rw[List.drop_drop,Nat.add_comm]
theorem spl_at {S L:List Nat} (hS:S≠[]) {c:Nat} {acc:List Nat} (h:pre S (L.drop c)=true):spl S 0 acc (L.drop c)=acc :: spl S 0 [] (L.drop (c+S.length)):=by
  rw[← drop_two]
  cases e:L.drop c with
  | nil=>rw[e,pre_nil hS] at h;cases h
  | cons d r =>
    rw[e] at h
    rw[spl_hit h,spl_pass]
    cases S with
    | nil=>exact absurd rfl hS
    | cons s S=>rfl
theorem par_at {S L:List Nat} (hS:S≠[]) {c:Nat} {acc:List Nat} (h:pre S (L.drop c)=true):par S acc (L.drop c)=some (acc,L.drop (c+S.length)):=by
  rw[← drop_two]
  cases e:L.drop c with
  | nil=>rw[e,pre_nil hS] at h;cases h
  | cons d r =>
    rw[e] at h
    rw[par_hit h]

theorem at_iff {x y:Str} (hy:tl y≠[]) (i:Nat):At x y x.length i↔pre (tl y) ((tl x).drop i)=true:=by
  have hx:=len_tl x
  have hl:=len_tl y
  constructor
  · intro h
    have h2:=h.2
    rw[subAt_eq,hl] at h2
    exact h2
  · intro h
    have e:((tl x).drop i).take (tl y).length=tl y:=eq_of_beq h
    have e1:=congrArg List.length e
    rw[List.length_take,List.length_drop] at e1
    have e2:0 < (tl y).length:=List.length_pos_iff.mpr hy
    refine⟨by omega,?_⟩
    rw[subAt_eq,hl]
    exact h
theorem no_at {x y:Str} (hy:tl y≠[]) {i:Nat} (h:¬ At x y x.length i):pre (tl y) ((tl x).drop i)=false:=by
  cases hp:pre (tl y) ((tl x).drop i) with
  | false=>rfl
  | true=>exact absurd ((at_iff hy i).mpr hp) h
theorem len1 {y:Str} (hy:tl y≠[]):1≤y.length:=by
  have e2:0 < (tl y).length:=List.length_pos_iff.mpr hy
  rw[len_tl y]
  exact e2
theorem tl_strSub (x:Str) (i j:Nat):tl (strSub x i j)=((tl x).drop i).take (j-i):=strSub_toList x i j
theorem tl_strSub_end (x:Str) (i:Nat):tl (strSub x i x.length)=(tl x).drop i:=by
  rw[tl_strSub,len_tl x]
  exact List.take_of_length_le (by rw[List.length_drop] <;> omega)

theorem parts_spl {x y:Str} (hy:tl y≠[]):∀ (cuts:List Nat) (a f:Nat),a≤(tl x).length→ChainG x y x.length a cuts f→(∀ k,f≤k→¬ At x y x.length k) →
    (partsFrom x y.length a cuts).map tl=spl (tl y) 0 [] ((tl x).drop a)
  | [],a,f,ha,h,hn=>by
    have e:f=a:=h
    subst e
    show [tl (strSub x f x.length)]=_
    have run:=spl_run (tl y) (tl x) ((tl x).length-f) f [] (by omega) (fun k h1 _=>no_at hy (hn k h1))
    have e2:f+((tl x).length-f)=(tl x).length:=by omega
    rw[e2,List.drop_length,spl_nil,List.nil_append,List.take_of_length_le (by rw[List.length_drop] <;> omega)] at run
    rw[run,tl_strSub_end]
  | c :: r,a,f,ha,h,hn=>by
    obtain⟨h1,h2,h3,h4⟩:=h
    have hc:c+y.length≤x.length:=h2.1
    have hx:=len_tl x
    have hl:=len_tl y
    have ih:=parts_spl hy r (c+y.length) f (by omega) h4 hn
    show tl (strSub x a c) :: (partsFrom x y.length (c+y.length) r).map tl=_
    have run:=spl_run (tl y) (tl x) (c-a) a [] (by omega) (fun k k1 k2=>no_at hy (h3 k k1 (by omega)))
    have e2:a+(c-a)=c:=by omega
    rw[e2,List.nil_append,spl_at hy ((at_iff hy c).mp h2)] at run
    rw[run,ih,tl_strSub,hl]

theorem split_spl (x y:Str) (hy:tl y≠[]) (hk:¬ Builtin.Str.strKind x < Builtin.Str.strKind y):(Txt.split x y).map tl=spl (tl y) 0 [] (tl x):=by
  obtain⟨f,g,hn⟩:=occ_tight x y (len1 hy)
  have key:=parts_spl hy _ 0 f (Nat.zero_le _) g hn
  rw[List.drop_zero] at key
  have none_case:occurrences x y 0 x.length (x.length+1)=[]→[x].map tl=spl (tl y) 0 [] (tl x):=fun ho=>by
    rw[ho] at key
    rw[← key]
    show [tl x]=[tl (strSub x 0 x.length)]
    rw[sub_whole]
  unfold Txt.split
  by_cases h1:(decide (x.length < y.length) || decide (Builtin.Str.strKind x < Builtin.Str.strKind y))=true
  · rw[if_pos h1]
    have hlt:x.length < y.length:=by
      simp only[Bool.or_eq_true,decide_eq_true_eq] at h1
      rcases h1 with h | h
      · exact h
      · exact absurd h hk
    refine none_case ?_
    cases ho:occurrences x y 0 x.length (x.length+1) with
    | nil=>rfl
    | cons c r =>
      rw[ho] at g
      have hc:c+y.length≤x.length:=g.2.1.1
      omega
  · rw[if_neg h1]
    by_cases h2:(occurrences x y 0 x.length (x.length+1)).isEmpty=true
    · rw[if_pos h2]
      exact none_case (List.isEmpty_iff.mp h2)
    · rw[if_neg h2,partsBetween_eq]
      exact key
theorem kind_ok {x y:Str} (h:y.cps.all (· < 256)=true):¬ Builtin.Str.strKind x < Builtin.Str.strKind y:=by
  have e:Builtin.Str.strKind y=1:=by unfold PySem.Builtin.Str.strKind;rw[if_pos h]
  rw[e]
  unfold PySem.Builtin.Str.strKind
  split
  · omega
  · split <;> omega

theorem partition_par (x y:Str) (hy:tl y≠[]) :
    Txt.partition x y=(match par (tl y) [] (tl x) with | some (a,b)=>(⟨a.toArray⟩,y,⟨b.toArray⟩) | none=>(x,Str.empty,Str.empty)):=by
  have hx:=len_tl x
  have hl:=len_tl y
  rcases PyProof.Rows.partition_whole x y with ⟨e,hn⟩ | ⟨i,e,hi,hn⟩
  · have run:=par_run (tl y) (tl x) (tl x).length 0 [] (by omega) (fun k _ _=>no_at hy (hn k))
    rw[List.drop_zero,Nat.zero_add,List.drop_length] at run
    rw[e,run] <;> rfl
  · have hb:i+y.length≤x.length:=hi.1
    have run:=par_run (tl y) (tl x) i 0 [] (by omega) (fun k _ k2=>no_at hy (hn k (by omega)))
    rw[List.drop_zero,Nat.zero_add,List.nil_append,par_at hy ((at_iff hy i).mp hi)] at run
    rw[e,run]
    have e1:strSub x 0 i=⟨((tl x).take i).toArray⟩:=ext_tl (by rw[tl_strSub,List.drop_zero,Nat.sub_zero])
    have e2:strSub x (i+y.length) x.length=⟨((tl x).drop (i+(tl y).length)).toArray⟩:=ext_tl (by rw[tl_strSub_end,hl])
    rw[e1,e2] <;> rfl

theorem spl_part {S p rest acc:List Nat} (hS:S≠[]) (h:∀ i,i < p.length→pre S ((p++(S++rest)).drop i)=false) :
    spl S 0 acc (p++(S++rest))=(acc++p) :: spl S 0 [] rest:=by
  have run:=spl_run S (p++(S++rest)) p.length 0 acc (by rw[List.length_append];omega) (fun k _ k2=>h k (by omega))
  have ed:(p++(S++rest)).drop p.length=S++rest:=List.drop_left
  rw[List.drop_zero,Nat.zero_add,List.take_left] at run
  rw[run,spl_at hS (by rw[ed];exact pre_self S rest),← drop_two,ed,List.drop_left]
theorem spl_last {S p acc:List Nat} (h:∀ i,i < p.length→pre S (p.drop i)=false):spl S 0 acc p=[acc++p]:=by
  have run:=spl_run S p p.length 0 acc (by omega) (fun k _ k2=>h k (by omega))
  rw[List.drop_zero,Nat.zero_add,List.drop_length,spl_nil,List.take_length] at run
  exact run
theorem free_of {s:Nat} {S p q:List Nat} (h:s∉p):∀ i,i < p.length→pre (s :: S) ((p++q).drop i)=false:=fun i hi=>by
  have hlt:i < (p++q).length:=by rw[List.length_append];omega
  have e:(p++q).drop i=(p++q)[i] :: (p++q).drop (i+1):=List.drop_eq_getElem_cons hlt
  rw[e]
  refine pre_of_head _ _ fun z=>h ?_
  have e1:(p++q)[i]=p[i]:=List.getElem_append_left hi
  rw[← z,e1]
  exact List.getElem_mem hi
theorem spl_part1 {s:Nat} {S p rest acc:List Nat} (h:s∉p):spl (s :: S) 0 acc (p++(s :: S++rest))=(acc++p) :: spl (s :: S) 0 [] rest :=
  spl_part (by simp) (free_of h)
theorem spl_last1 {s:Nat} {S p acc:List Nat} (h:s∉p):spl (s :: S) 0 acc p=[acc++p]:=spl_last fun i hi=>by
  have z:=free_of (S:=S) (q:=[]) h i hi
  rw[List.append_nil] at z
  exact z

def joinL (S:List Nat):List (List Nat)→List Nat
  | []=>[]
  | [p]=>p
  | p :: q :: r=>p++(S++joinL S (q :: r))
theorem tl_join (y:Str):∀ parts:List Str,tl (Str.join y parts)=joinL (tl y) (parts.map tl)
  | []=>rfl
  | [_]=>rfl
  | x :: z :: r=>by
    show tl (x++y++Str.join y (z :: r))=tl x++(tl y++joinL (tl y) ((z :: r).map tl))
    rw[tl_append,tl_append,tl_join y (z :: r),List.append_assoc]
theorem spl_join {s:Nat} {S:List Nat}:∀ {parts:List (List Nat)},parts≠[]→(∀ p∈parts,s∉p)→spl (s :: S) 0 [] (joinL (s :: S) parts)=parts
  | [],h,_=>absurd rfl h
  | [p],_,hp=>by
    show spl (s :: S) 0 [] p=[p]
    rw[spl_last1 (hp p (List.mem_singleton.mpr rfl)),List.nil_append]
  | p :: q :: r,_,hp=>by
    show spl (s :: S) 0 [] (p++(s :: S++joinL (s :: S) (q :: r)))=p :: q :: r
    rw[spl_part1 (hp p (List.mem_cons_self ..)),List.nil_append,spl_join (by simp) fun z hz=>hp z (List.mem_cons_of_mem _ hz)]
theorem join_eq (y:Str) (parts:List Str):Txt.join y parts=Str.join y parts:=glued_eq_join y parts
theorem split_join {y:Str} {s:Nat} {S:List Nat} (ey:tl y=s :: S) (hk:y.cps.all (· < 256)=true) {parts:List Str} (hne:parts≠[]) (hp:∀ p∈parts,s∉tl p) :
    Txt.split (Txt.join y parts) y=parts:=by
  refine map_tl_inj ?_
  rw[split_spl _ y (by rw[ey];simp) (kind_ok hk),join_eq,tl_join,ey]
  refine spl_join (fun e=>hne (List.map_eq_nil_iff.mp e)) fun p h=>?_
  obtain⟨z,hz,rfl⟩:=List.mem_map.mp h
  exact hp z hz

def numL (n:Nat):List Nat:=(Nat.toDigits 10 n).map Char.toNat
theorem tl_num (n:Nat):tl (Str.ofString (toString ((n:Nat):Int)))=numL n:=PySem.W.KIN.signs_num n
theorem digitChar_nat:∀ d:Nat,d < 10→(Nat.digitChar d).toNat=48+d:=by decide
theorem numL_lt {n:Nat} (h:n < 10):numL n=[48+n]:=by
  unfold numL
  rw[Nat.toDigits_of_lt_base h]
  show [(Nat.digitChar n).toNat]=_
  rw[digitChar_nat n h]
theorem numL_step {n:Nat} (h:10≤n):numL n=numL (n / 10)++[48+n % 10]:=by
  have hm:n % 10 < 10:=Nat.mod_lt n (by decide)
  have t:Nat.toDigits 10 (n / 10)++Nat.toDigits 10 (n % 10)=Nat.toDigits 10 (10 * (n / 10)+n % 10):=Nat.toDigits_append_toDigits (by decide) (by omega) hm
  rw[Nat.div_add_mod] at t
  show (Nat.toDigits 10 n).map Char.toNat=_
  rw[← t,List.map_append,Nat.toDigits_of_lt_base hm]
  show (Nat.toDigits 10 (n / 10)).map Char.toNat++[(Nat.digitChar (n % 10)).toNat]=_
  rw[digitChar_nat _ hm] <;> rfl
theorem numL_digits (n:Nat):NumText.AllDigits (numL n):=by
  induction n using Nat.strongRecOn with
  | _ n ih =>
    by_cases h:n < 10
    · rw[numL_lt h]
      intro c hc
      rw[List.mem_singleton.mp hc]
      omega
    · rw[numL_step (by omega)]
      intro c hc
      rcases List.mem_append.mp hc with hc | hc
      · exact ih (n / 10) (by omega) c hc
      · have hm:n % 10 < 10:=Nat.mod_lt n (by decide)
        rw[List.mem_singleton.mp hc]
        omega
theorem numL_ne (n:Nat):numL n≠[]:=by
  by_cases h:n < 10
  · rw[numL_lt h]
    simp
  · rw[numL_step (by omega)]
    simp
theorem numL_val (n:Nat):NumText.digitsVal (numL n)=n:=PySem.W.KIN.val_back n
theorem int_num {n:Nat} (h:(numL n).length≤4300):intText? (Str.ofString (toString ((n:Nat):Int)))=some (n:Int):=by
  have e:=intText_digits (x:=Str.ofString (toString ((n:Nat):Int))) (by rw[show (Str.ofString (toString ((n:Nat):Int))).cps.toList=numL n from tl_num n];exact numL_digits n)
    (by rw[show (Str.ofString (toString ((n:Nat):Int))).cps.toList=numL n from tl_num n];exact numL_ne n) (by rw[len_tl,tl_num];exact h)
  rw[show (Str.ofString (toString ((n:Nat):Int))).cps.toList=numL n from tl_num n,numL_val] at e
  exact e

end TL
end

namespace L2
open PySem PySem.Spec PyProof.Rows


theorem vals_strs:∀ l:List (Str×Tok),Vals ((l.map (·.1)).map V.str) (strValues l)
  | []=>.nil
  | p :: r=>.cons ⟨p.2,rfl⟩ (vals_strs r)
theorem strs_of_vals:∀ {ys:List Str} {us:List Value},Vals (ys.map V.str) us→StrsAre us ys
  | [],_,.nil=>.nil
  | y :: ys,_,.cons r t=>by
    obtain⟨k,rfl⟩:=r
    exact .cons y k (strs_of_vals t)

def rNewStrs (ys:List Str):Hp→VK→Prop:=fun H Q=>∀ p,H p=none→Q (.ref p) (upd H p (.lst (ys.map V.str)))

section
variable {X:Cx} {pins:List (Addr×Obj)} {σ:St} {H:Hp} {s:Shared} {Q:VK}
theorem laid_strs {l:List (Str×Tok)} {ys:List Str} {k:Nat} (I:Inv X pins σ H s) (e:l.map (·.1)=ys) (hz:ys.length≤sizeLine) (h:rNewStrs ys H Q) :
    EP X pins σ Q (.ref s.heap.objs.size) { s with toks:=k,heap:=s.heap.push { cls:=.type "list",data:=.seq (strValues l).toArray } }:=by
  have hp:=I.hok.fresh (Nat.le_refl _)
  refine⟨.ref s.heap.objs.size,upd H s.heap.objs.size (.lst (ys.map V.str)),I.laid (fun b u q=>Heap.get?_push_of_some _ q) (Nat.le_refl _) ⟨by rw[List.length_map];exact hz,strValues l,_,?_,Heap.get?_push_size _ rfl⟩,rfl,h _ hp⟩
  rw[← e]
  exact vals_strs l
theorem laid_parts {x y z:Str} {t u v:Tok} {k:Nat} (I:Inv X pins σ H s) (h:∀ p,H p=none→Q (.ref p) (upd H p (.tup [.str x,.str y,.str z]))) :
    EP X pins σ Q (.ref s.heap.objs.size) { s with toks:=k,heap:=s.heap.push { cls:=.type "tuple",data:=.seq [Value.str x t,.str y u,.str z v].toArray } }:=by
  have hp:=I.hok.fresh (Nat.le_refl _)
  exact⟨.ref s.heap.objs.size,upd H s.heap.objs.size (.tup [.str x,.str y,.str z]),I.laid (fun b u q=>Heap.get?_push_of_some _ q) (Nat.le_refl _)
    ⟨by show 3≤sizeLine;decide,[Value.str x t,.str y u,.str z v],.cons ⟨t,rfl⟩ (.cons ⟨u,rfl⟩ (.cons ⟨v,rfl⟩ .nil)),_,Heap.get?_push_size _ rfl,rfl,_,rfl⟩,rfl,h _ hp⟩
end

section
variable {X:Cx}

theorem mt_split:MtR X "str.split" (fun x xs H Q=>∃ a b,x=.str a∧xs=[.str b]∧(b.length == 0)=false∧a.length+2≤sizeLine∧rNewStrs (Txt.split a b) H Q):=by
  intro pins s σ H x xs v us Q I rx rs h
  obtain⟨a,b,rfl,rfl,hb,hz,h⟩:=h
  obtain⟨t,rfl⟩:=rx
  cases rs with
  | cons r1 rs =>
    cases rs
    obtain⟨u,rfl⟩:=r1
    have hl:(Txt.split a b).length≤sizeLine:=Nat.le_trans (PyProof.Rows.split_le a b) hz
    have hn:(Builtin.Str.partsBetween a (Builtin.Str.occurrences a b 0 a.length (a.length+1)) b.length).length≤sizeLine:=by
      have e1:=StrLaws.occ_length_le a b 0 a.length (a.length+1)
      rw[length_partsBetween];omega
    cases h1:(decide (a.length < b.length) || decide (Builtin.Str.strKind a < Builtin.Str.strKind b))
    · cases hf:(Builtin.Str.occurrences a b 0 a.length (a.length+1)).isEmpty
      · refine call_meets F.slot_str_split (typeIs_str _ _ _) F.entry_str_split (F.args_str_split_2 _ _) (meets_str_split_sep a b t u h1 hb hf (by omega) hn) ?_
        show EP X pins σ Q (.ref s.heap.objs.size) { s with toks:=_,heap:=s.heap.push { cls:=.type "list",data:=.seq (strsFrom s.toks (Builtin.Str.partsBetween a (Builtin.Str.occurrences a b 0 a.length (a.length+1)) b.length)).toArray } }
        rw[strsFrom_eq]
        exact laid_strs (ys:=Txt.split a b) I ((numbered_texts _ _).trans ((if_neg (ne_true_of_eq_false h1)).trans (if_neg (ne_true_of_eq_false hf))).symm) hl h
      · refine call_meets F.slot_str_split (typeIs_str _ _ _) F.entry_str_split (F.args_str_split_2 _ _) (meets_str_split_not_found a b t u h1 hb hf) ?_
        exact laid_strs (l:=[(a,t)]) (ys:=Txt.split a b) (k:=s.toks) I ((if_neg (ne_true_of_eq_false h1)).trans (if_pos hf)).symm hl h
    · refine call_meets F.slot_str_split (typeIs_str _ _ _) F.entry_str_split (F.args_str_split_2 _ _) (meets_str_split_cannot_occur a b t u h1) ?_
      exact laid_strs (l:=[(a,t)]) (ys:=Txt.split a b) (k:=s.toks) I (if_pos h1).symm hl h


theorem mt_partition:MtR X "str.partition" (fun x xs H Q=>∃ a b,x=.str a∧xs=[.str b]∧(b.length == 0)=false∧a.length≤sizeLine ∧
    ∀ p,H p=none→Q (.ref p) (upd H p (.tup [.str (Txt.partition a b).1,.str (Txt.partition a b).2.1,.str (Txt.partition a b).2.2]))):=by
  intro pins s σ H x xs v us Q I rx rs h
  obtain⟨a,b,rfl,rfl,hb,hz,h⟩:=h
  obtain⟨t,rfl⟩:=rx
  cases rs with
  | cons r1 rs =>
    cases rs
    obtain⟨u,rfl⟩:=r1
    refine call_meets F.slot_str_partition (typeIs_str _ _ _) F.entry_str_partition (F.args_str_partition_2 _ _) (meets_str_partition a b t u hb hz) ?_
    unfold Txt.partition at h
    revert h
    cases Builtin.Str.occurrences a b 0 a.length 1 with
    | nil=>intro h;exact laid_parts I h
    | cons i r=>intro h;exact laid_parts I h

theorem mt_join:MtR X "str.join" (fun x xs H Q=>∃ a p,∃ ys:List Str,x=.str a∧xs=[.ref p]∧(SqL X.K H p (ys.map V.str)∨SqT X.K H p (ys.map V.str)) ∧
    (ys.map (·.length)).sum+ys.length * a.length≤16777216∧Q (.str (Txt.join a ys)) H):=by
  intro pins s σ H x xs v us Q I rx rs h
  obtain⟨a,p,ys,rfl,rfl,hp,hz,h⟩:=h
  obtain⟨t,rfl⟩:=rx
  cases rs with
  | cons r1 rs =>
    cases rs
    cases r1
    rcases hp with hp | hp
    · obtain⟨its,r,⟨o,n,ho,hc,_,hd⟩,_⟩:=I.list hp
      exact PyProof.Rows.join_list (items:=its.toArray) ⟨o,ho,hc,n,hd⟩ (by rw[List.toList_toArray];exact strs_of_vals r) hz fun t' k=>⟨.str _,H,I.tok k,⟨t',rfl⟩,h⟩
    · obtain⟨its,r,ht,_⟩:=I.tuple hp
      exact PyProof.Rows.join_tuple (items:=its.toArray) ht (by rw[List.toList_toArray];exact strs_of_vals r) hz fun t' k=>⟨.str _,H,I.tok k,⟨t',rfl⟩,h⟩



theorem call_int_str:CallR X (.type "int") (fun xs H Q=>∃ a n,xs=[.str a]∧PySem.intText? a=some n∧a.length≤640∧Q (.int n) H):=by
  intro pins s σ H xs us Q I rs h
  obtain⟨a,n,rfl,hn,hl,h⟩:=h
  cases rs with
  | cons r1 rs =>
    cases rs
    obtain⟨t,rfl⟩:=r1
    exact PySem.W.KIN.call_text hn hl ⟨.int n,H,I.tok _,⟨_,rfl⟩,h⟩
end

section
variable {X:Cx} {o e:Expr} {to te:TE}

end
end L2

namespace L2
open PySem PySem.Spec PyProof.Rows

section
variable {X:Cx}
theorem op_in_sign:OpR X (compareOp .In) (fun x y H Q=>∃ (c:Nat) (z:Str),x=.str ⟨#[c]⟩∧y=.str z∧Q (.bl (decide (c∈z.cps.toList))) H):=by
  intro pins s σ H x y v u Q I rx ry h
  obtain⟨c,z,rfl,rfl,q⟩:=h
  obtain⟨t,rfl⟩:=rx
  obtain⟨t',rfl⟩:=ry
  exact PyProof.Rows.in_str (fin_bl I q (PySem.StrLaws.found_one z c).symm)
end



end L2

namespace Att
open PySem PySem.W PySem.Calls PyProof.Rows

theorem ints_of_wellAll {P:Params} {h:Heap}:∀ (ns:List Int) (vs:List Value),WellAll P h vs (ns.map WData.int)→IntsAre vs ns:=by
  intro ns
  induction ns with
  | nil =>
    intro vs w
    rw[List.map_nil] at w
    cases w
    exact .nil
  | cons n ns ih =>
    intro vs w
    rw[List.map_cons] at w
    cases w with
    | cons a b =>
      cases a
      exact .cons _ _ (ih _ b)

theorem script_of {l:OpenLaw} {n:Nat} (hn:l.most=some n) {P:Params} {h:Heap} {args:List WData} {vals:List Value}
    (hpre:l.row.toRowW.claim.pre args=true) (hwl:WellAll P h vals args) :
    ∃ a vs ns,vals=[Value.ref a]∧args=[WData.list (ns.map WData.int)]∧h.get? a=some { cls:=.type "list",data:=.seq vs.toArray }∧IntsAre vs ns∧ns.length≤n:=by
  have hsh:WShape.hasAll [] args [.list .int]=true:=(pre_splitW hpre).1
  have hc:l.pre.holds [] { args:=args }=true:=(pre_splitW hpre).2
  obtain⟨d,r,rfl,h1,h2⟩:=hasAllW_cons hsh
  obtain rfl:=hasAllW_nil h2
  obtain⟨xs,rfl,h3⟩:=hasW_list h1
  obtain⟨ns,rfl⟩:=items_int h3
  have hlen:ns.length≤n:=by
    unfold OpenLaw.pre at hc
    have h4:(WTm.not (.lt (.lit (.int (n:Int))) (.len (.arg 0)))).holds [] { args:=[.list (ns.map .int)] }=true:=by
      have h4:=(holds_andW hc).1
      rw[hn] at h4
      exact h4
    have h5:=condW_of h4 (w_not (w_lt w_lit (w_len_list (w_arg rfl))))
    rw[List.length_map] at h5
    refine Nat.le_of_not_lt fun q=>?_
    have q':(n:Int) < ((ns.length:Nat):Int):=by omega
    first
      | (rw[decide_eq_true q'] at h5;exact absurd h5 (by decide))
      | (simp at h5;omega)
  cases hwl with
  | cons w1 w2 =>
    cases w2
    cases w1 with
    | list ho hall=>exact⟨_,_,ns,rfl,rfl,ho,ints_of_wellAll ns _ hall,hlen⟩

theorem post_true (l:OpenLaw) (args:List WData):l.row.toRowW.claim.post args (.bool true) args=true :=
  postW_of (r:=l.row.toRowW) (X:=(true == true))
    (show WShape.has [] (.bool true) .bool=true by first | rfl | decide | simp[WShape.has,WShape.arms,WShape.armsAll])
    (show (WTm.eq .res (.lit (.bool true))).value [] { args:=args,res:=some (.bool true),after:=args }=some (.bool (true == true)) from w_eq_bool (w_res rfl) w_lit) rfl


theorem attach_call {l:OpenLaw} {n:Nat} {q:Program} {loose:List Str} {XP:(Str→Option Value)→Heap→Prop} {YP:World→Heap→Prop} {d:DefRec}
    (hn:l.most=some n) (hdf:d.params.defaults=[])
    (call:∀ (w:World) (s₀ s₁:Shared) (mg mb:Str→Option Value) (fa:Addr) (o:Obj) (pm cd doc:Value) (a:Addr) (vs:List Value) (ns:List Int),
      Ground q loose [] XP w s₀ mg mb s₁.heap→YP w s₁.heap →
      s₁.heap.get? fa=some o→o.data=.func (docDef d.name d.params d.body d.scope pm cd doc)→s₁.heap.CodeRec cd d.name→mg d.name=some (.ref fa) →
      s₁.heap.get? a=some { cls:=.type "list",data:=.seq vs.toArray }→IntsAre vs ns→ns.length≤n→s₁.gens=#[] →
      codeAny (model l.prog w) callerA (.call (.ref fa) ⟨[.ref a],[]⟩) (fun r s'=>r=.ok (.ret (.bool true))∧OldK s₁.heap s'.heap∧s'.os=s₁.os∧AllBare s'.gens) s₁) :
    WalkO q loose XP YP l.row.toRowW d [] (fun f vs=>PySem.call f vs):=by
  intro w s₀ s₁ mg mb G Y fa o pm cd doc dV kV ho hd hcd hD hmg hg args vals as hpre hlay hrd hwl hlo
  obtain rfl:dV=.none:=Dflts.none hD hdf
  obtain rfl:kV=.none:=Dflts.noKw hD
  obtain⟨a,vs,ns,rfl,rfl,hobj,hints,hlen⟩:=script_of hn hpre hwl
  refine enter_call (codeAny_mono (call w s₀ s₁ mg mb fa o pm cd doc a vs ns G Y ho (fd_plain hd) hcd hmg hobj hints hlen hg) fun r s' hq=>?_)
  obtain⟨rfl,h2,h3,h4⟩:=hq
  exact⟨.inl ⟨.bool true,.bool true,[],rfl,fun _=>rfl,.bool true,post_true l _,fun _=>⟨List.Pairwise.nil,fun _ hm=>(nomatch hm)⟩⟩,h2,h3,h4⟩


section
variable {prog:Program} {w:World} {A:Around} {E:Value→Shared→Prop} {s:Shared} {K:Frag}






end
end Att

namespace L2
open PySem PySem.Spec PyProof.Rows

theorem vals_ints:∀ {vs:List Value} {ns:List Int},IntsAre vs ns→Vals (ns.map V.int) vs
  | _,_,.nil=>.nil
  | _,_,.cons n t h=>.cons ⟨t,rfl⟩ (vals_ints h)


end L2

namespace L2
open PySem PySem.Spec PyProof.Rows

abbrev KOf {K:PySem.W.Frag} {h:Heap} (_:K.In h):PySem.W.Frag:=K

end L2


namespace L2
open PySem PySem.Spec PyProof.Rows

def inClass (s:Stmt) (j:Nat):Stmt:=match s with
  | .ClassDef _ _ _ body _ _ _ _ _ _ _=>body.getD j (.Pass ⟨0,0,0,0⟩)
  | _=>.Pass ⟨0,0,0,0⟩
def defArgs (s:Stmt):Arguments:=match s with
  | .FunctionDef _ a _ _ _ _ _ _ _ _=>a
  | _=>{ posonlyargs:=[],args:=[],vararg:=none,kwonlyargs:=[],kw_defaults:=[],kwarg:=none,defaults:=[] }
def defBody (s:Stmt):List Stmt:=match s with
  | .FunctionDef _ _ b _ _ _ _ _ _ _=>b
  | _=>[]
def defScope (s:Stmt):Scope:=match s with
  | .FunctionDef _ _ _ _ _ _ sc _ _ _=>sc
  | _=>{ kind:=.function,names:=[],isGenerator:=false,isCoroutine:=false }

abbrev CX0:CXT:=fun _ _ _ _ _ _=>False
abbrev E0:XK:=fun _ _ _=>False
theorem pass0 {X:Cx}:Passes CX0 X E0:=fun _ _ _ _ _ _ _ h=>h.elim

structure Fun (K:PySem.W.Frag) (x qual:Str) (st:Stmt) (f:Addr) (fd:FuncData):Prop where
  ex:∃ (oc:Value) (od:Option Addr) (kV doc pm:Value) (an:Option Addr) (cdv ct:Value) (osl:Array (Option Value)),
    fd=PySem.W.fnOf x qual (defArgs st) (defBody st) (defScope st) .none kV doc pm an cdv ct∧K.lookup f=some ⟨oc,od,.func fd,osl⟩∧PySem.W.codeIn K cdv qual=true
  kp:PySem.W.keepIn K (.ref f)=true
section
variable {P:Program} {w:World} {K:PySem.W.Frag} {mg:Str→Option Value} {base:Heap}
theorem Fun.ok {x qual:Str} {st:Stmt} {f:Addr} {fd:FuncData} {N ps:List Str} {k:Nat} {sp:Sp} (F:Fun K x qual st f fd) (S:FnScope N ps (defScope st)) (len:∀ vs H Q E,sp vs H Q E→vs.length=ps.length)
    (hbody:∀ (cdv:Value) (A:Around) (outer:List Env) (s:Shared) (H:Hp) (vs:List V) (Q:VK) (E:XK),Room k (A.deeper (envOfC qual (defScope st) s.heap.objs.size f cdv))→sp vs H Q E →
      ∃ t,PSs (cxOf CX0 P w K mg base N qual (defScope st) f cdv A outer s H E).nox (defBody st) t∧t { nx:=fun _ H'=>Q .non H',rt:=Q } (start N vs) H):FnOk P w K mg base CX0 (k+1) f fd ps sp:=by
  obtain⟨oc,od,kV,doc,pm,an,cdv,ct,osl,rfl,lk,hcd⟩:=F.ex
  refine fn_of lk hcd S len fun A outer s H vs Q E hr hsp=>?_
  obtain⟨t,h,q⟩:=hbody cdv A outer s H vs Q E hr hsp
  exact⟨t,h.nox,q⟩
theorem Fun.binds {x qual:Str} {st:Stmt} {f:Addr} {fd:FuncData} {ps:List Str} (F:Fun K x qual st f fd)
    (h:∀ (kV doc pm:Value) (an:Option Addr) (cdv ct:Value) (us:List Value),us.length=ps.length→bindArgs (PySem.W.fnOf x qual (defArgs st) (defBody st) (defScope st) .none kV doc pm an cdv ct) ⟨us,[]⟩=pure (ps.zip us)):Binds K fd ps []:=by
  obtain⟨oc,od,kV,doc,pm,an,cdv,ct,osl,rfl,lk,hcd⟩:=F.ex
  exact .all (h kV doc pm an cdv ct)
theorem fun_mk {x qual:Str} {st:Stmt} {f:Addr} {oc:Value} {od an:Option Addr} {osl:Array (Option Value)} {kV doc pm cdv ct:Value} (l:K.lookup f=some ⟨oc,od,.func (PySem.W.fnOf x qual (defArgs st) (defBody st) (defScope st) .none kV doc pm an cdv ct),osl⟩)
    (c:PySem.W.codeIn K cdv qual=true) (k:PySem.W.keepIn K (.ref f)=true):Fun K x qual st f (PySem.W.fnOf x qual (defArgs st) (defBody st) (defScope st) .none kV doc pm an cdv ct):=⟨⟨oc,od,kV,doc,pm,an,cdv,ct,osl,rfl,l,c⟩,k⟩
end

section
variable {X:Cx}
theorem pv (i:Nat) {x:Str} {pos:Pos} (hN:X.N[i]?=some x:=by rfl) (hv:Vis X.env.scope x:=by first | exact Or.inl rfl | exact Or.inr (Or.inl rfl) | exact Or.inr (Or.inr rfl)) (hd:(x == ("__debug__":Str))=false:=by decide)
    (hcd:(x == ("__classdict__":Str))=false:=by decide):PE X (.Name x pos) (tVar i):=pe_var hN hv hd hcd
end

theorem iteF {A B:Prop} (h:B):if false=true then A else B:=by
  rw[if_neg Bool.false_ne_true]
  exact h
theorem iteT {A B:Prop} (h:A):if true=true then A else B:=by
  rw[if_pos rfl]
  exact h

def Same (H H':Hp):Prop:=∀ b o,H b=some o→H' b=some o
theorem Same.refl (H:Hp):Same H H:=fun _ _ h=>h
theorem Same.trans {H H1 H2:Hp} (a:Same H H1) (b:Same H1 H2):Same H H2:=fun c o h=>b c o (a c o h)
theorem Same.free {H H':Hp} (e:Same H H') {l:Addr} (h:H' l=Option.none):H l=Option.none:=by
  cases q:H l with
  | none=>rfl
  | some o =>
    rw[e l o q] at h
    cases h
theorem Same.seq {K:PySem.W.Frag} {H H':Hp} {a:Addr} {xs:List V} (e:Same H H') (h:SqL K H a xs):SqL K H' a xs:=by
  rcases h with (h | ⟨o,h⟩) | h
  · exact .inl (.inl (e _ _ h))
  · exact .inl (.inr ⟨o,e _ _ h⟩)
  · exact .inr h

section
variable {κ:Type} [DecidableEq κ]
end
end L2

end
namespace Ev
noncomputable section
open PySem PySem.Spec L2
section
inductive A where
  | non | bl (b:Bool) | int (i:Int) | str (cs:List Nat) | ref (n:Nat)
  | res (k r:Nat)
inductive AK where
  | int (i:Int) | str (cs:List Nat)
inductive O where
  | lst (xs:List A) | tup (xs:List A) | dic (kvs:List (AK×A)) | ins (c:Nat) (fs:List (Nat×A))
  | stat (xs:List A) | rl (xs:List A)
  | set (ks:List AK)
  | fdic (kvs:List (AK×A)) | tab (ln co:Nat) (q:Option Nat) | code (ql:List Nat)
  | tabs (es:List (Nat×Nat×Nat))
def O.live:O→Bool
  | .stat _=>false
  | .rl _=>false
  | _=>true
def natsB:List Nat→List Nat→Bool
  | [],[]=>true
  | a :: r,b :: s=>match Nat.beq a b with
    | true=>natsB r s
    | false=>false
  | _,_=>false
inductive Tr where
  | nil | leaf (k:Nat) (o:O) | node (m:Nat) (l r:Tr)
namespace Tr
def get (t:Tr):Nat→Option O:=@Tr.rec (fun _=>Nat→Option O) (fun _=>none) (fun k o i=>@Bool.rec (fun _=>Option O) none (some o) (Nat.beq i k)) (fun m _ _ gl gr i=>@Bool.rec (fun _=>Option O) (gr i) (gl i) (Nat.ble i m)) t
def set (d:Nat):Nat→Tr→Nat→O→Option Tr:=@Nat.rec (fun _=>Nat→Tr→Nat→O→Option Tr)
  (fun _ t i x=>@Tr.rec (fun _=>Option Tr) (some (.leaf i x)) (fun k _=>@Bool.rec (fun _=>Option Tr) none (some (.leaf k x)) (Nat.beq i k)) (fun _ _ _ _ _=>none) t)
  (fun d ih lo t i x=>@Tr.rec (fun _=>Option Tr)
    (@Bool.rec (fun _=>Option Tr) (@Option.rec Tr (fun _=>Option Tr) none (fun r=>some (.node (lo+(2 ^ d-1)) .nil r)) (ih (lo+2 ^ d) .nil i x)) (@Option.rec Tr (fun _=>Option Tr) none (fun l=>some (.node (lo+(2 ^ d-1)) l .nil)) (ih lo .nil i x)) (Nat.ble i (lo+(2 ^ d-1))))
    (fun _ _=>none)
    (fun m l r _ _=>@Bool.rec (fun _=>Option Tr) (@Option.rec Tr (fun _=>Option Tr) none (fun r'=>some (.node m l r')) (ih (lo+2 ^ d) r i x)) (@Option.rec Tr (fun _=>Option Tr) none (fun l'=>some (.node m l' r)) (ih lo l i x)) (Nat.ble i m)) t) d
theorem beq_eq (a b:Nat):Nat.beq a b=decide (a=b):=by
  by_cases h:a=b
  · subst h;rw[Nat.beq_refl,decide_eq_true rfl]
  · rw[decide_eq_false h]
    cases e:Nat.beq a b with
    | false=>rfl
    | true=>exact absurd (Nat.eq_of_beq_eq_true e) h
end Tr
structure Hs where
  t:Tr
  n:Nat
def Hs.get (h:Hs) (i:Nat):Option O:=h.t.get i
def Hs.put (h:Hs) (i:Nat) (o:O):Option Hs:=@Option.rec Tr (fun _=>Option Hs) none (fun t=>some ⟨t,h.n⟩) (Tr.set 12 0 h.t i o)
def Hs.new (h:Hs) (o:O):Option Hs:=@Option.rec Tr (fun _=>Option Hs) none (fun t=>some ⟨t,h.n+1⟩) (Tr.set 12 0 h.t h.n o)
structure Cf where
  P:Program
  w:World
  K:PySem.W.Frag
  cl:Nat→Addr
  fn:Nat→Str
  inj:∀ i j,fn i=fn j→i=j
  st:List Addr
  lk:Addr→Obj
def VR (ρ:List Addr):A→V→Prop
  | .non,x=>x=.non
  | .bl b,x=>x=.bl b
  | .int i,x=>x=.int i
  | .str cs,x=>x=.str ⟨cs.toArray⟩
  | .ref n,x=>∃ a,ρ[n]?=some a∧x=.ref a
  | .res k r,x=>∃ m:Int,x=.int m∧0 < k∧k < 1000000∧m % (k:Int)=(r:Int)
abbrev VRs (ρ:List Addr):List A→List V→Prop:=Paired (VR ρ)
def kOf:AK→Key
  | .int i=>.inl i
  | .str cs=>.inr ⟨cs.toArray⟩
abbrev KRs (ρ:List Addr):List (AK×A)→List (Key×V)→Prop:=Paired fun p q=>q.1=kOf p.1∧VR ρ p.2 q.2
abbrev FRs (C:Cf) (ρ:List Addr):List (Nat×A)→List (Str×V)→Prop:=Paired fun p q=>q.1=C.fn p.1∧VR ρ p.2 q.2
def inK (ks:List Key) (k:Key):Bool:=ks.any fun j=>decide (j=k)
def SetK (P:Program) (w:World) (a:Addr) (ks:List Key):HO:=.ext fun h=>h.SetOf (mixKind P w) a (inK ks) ks.length
def CodeK (c:Addr) (q:Str):HO:=.ext fun h=>h.CodeRec (.ref c) q
def trips:List (Nat×Nat×Nat)→List Addr→List Value
  | e :: r,a :: as=>rawInt e.1 :: rawInt e.2.1 :: .ref a :: trips r as
  | _,_=>[]
def HOR (C:Cf) (ρ:List Addr) (a:Addr):O→HO→Prop
  | .lst xs,u=>∃ ys,VRs ρ xs ys∧u=.lst ys
  | .tup xs,u=>∃ ys,VRs ρ xs ys∧u=.tup ys
  | .dic kvs,u=>∃ zs,KRs ρ kvs zs∧u=.dK zs
  | .ins c fs,u=>∃ dx,∃ zs,FRs C ρ fs zs∧u=.ins (C.cl c) dx zs
  | .set ks,u=>u=SetK C.P C.w a (ks.map kOf)
  | .fdic kvs,u=>∃ zs,KRs ρ kvs zs∧u=.frz (C.lk a) (.dK zs)
  | .tab _ _ none,u=>u=.tbl #[]
  | .tab ln co (some n),u=>∃ c,ρ[n]?=some c∧u=.tbl #[rawInt ln,rawInt co,.ref c]
  | .code ql,u=>u=CodeK a ⟨ql.toArray⟩
  | .tabs es,u=>∃ cs,Paired (fun e c=>ρ[e.2.2]?=some c) es cs∧u=.tbl (trips es cs).toArray
  | .stat _,_=>False
  | .rl _,_=>False
def KTup (K:PySem.W.Frag) (a:Addr) (ys:List V):Prop:=∃ (o:Obj) (its:Array Value) (n:Nat),K.lookup a=some o∧o.cls=.type "tuple"∧o.data=.seq its n∧its.size≤sizeLine∧Vals ys its.toList
def KLst (K:PySem.W.Frag) (a:Addr) (ys:List V):Prop:=∃ (o:Obj) (its:Array Value) (n:Nat),K.lookup a=some o∧o.cls=.type "list"∧o.dict=none∧o.data=.seq its n∧its.size≤sizeLine∧Vals ys its.toList
def SOR (C:Cf) (ρ:List Addr) (H:Hp) (a:Addr):O→Prop
  | .stat xs=>∃ ys,VRs ρ xs ys∧KTup C.K a ys
  | .rl xs=>∃ ys,VRs ρ xs ys∧(KLst C.K a ys∨∃ ob,H a=some (.frz ob (.lst ys)))
  | _=>False
def OR (C:Cf) (ρ:List Addr) (H:Hp) (a:Addr) (o:O):Prop:=(∃ u,H a=some u∧HOR C ρ a o u)∨SOR C ρ H a o
structure HR (C:Cf) (ρ:List Addr) (h:Hs) (H:Hp):Prop where
  pre:C.st <+: ρ
  len:ρ.length=h.n
  inj:∀ (i j:Nat) o u a,h.get i=some o→h.get j=some u→o.live=true→u.live=true→ρ[i]?=some a→ρ[j]?=some a→i=j
  ob:∀ (i:Nat) o,h.get i=some o→∃ a,ρ[i]?=some a∧OR C ρ H a o
def LR (ρ:List Addr) (loc:List (Option A)) (σ:St):Prop :=
  loc.length=σ.length∧∀ (i:Nat) v,loc[i]?=some (some v)→∃ x,σ[i]?=some (some x)∧VR ρ v x
theorem pre_get {ρ ρ':List Addr} (p:ρ <+: ρ') {n:Nat} {a:Addr} (h:ρ[n]?=some a):ρ'[n]?=some a:=by
  obtain⟨l,rfl⟩:=p
  rw[List.getElem?_append_left (List.getElem?_eq_some_iff.mp h).1];exact h
theorem VR.mono {ρ ρ':List Addr} (p:ρ <+: ρ'):∀ {v:A} {x:V},VR ρ v x→VR ρ' v x
  | .non,_,h=>h
  | .bl _,_,h=>h
  | .int _,_,h=>h
  | .str _,_,h=>h
  | .ref n,_,⟨a,h1,h2⟩=>⟨a,pre_get p h1,h2⟩
  | .res _ _,_,h=>h
theorem LR.mono {ρ ρ':List Addr} (p:ρ <+: ρ') {loc:List (Option A)} {σ:St} (h:LR ρ loc σ):LR ρ' loc σ :=
  ⟨h.1,fun i v e=>let ⟨x,h1,h2⟩:=h.2 i v e;⟨x,h1,h2.mono p⟩⟩
theorem SOR.dead {C:Cf} {ρ:List Addr} {H:Hp} {a:Addr}:∀ {o:O},SOR C ρ H a o→o.live=false
  | .stat _,_=>rfl
  | .rl _,_=>rfl
  | .lst _,h=>h.elim
  | .tup _,h=>h.elim
  | .dic _,h=>h.elim
  | .ins _ _,h=>h.elim
  | .set _,h=>h.elim
  | .fdic _,h=>h.elim
  | .tab _ _ _,h=>h.elim
  | .code _,h=>h.elim
  | .tabs _,h=>h.elim
theorem OR.lives {C:Cf} {ρ:List Addr} {H:Hp} {a:Addr} {o:O} (h:OR C ρ H a o) (l:o.live=true):∃ u,H a=some u∧HOR C ρ a o u:=by
  rcases h with h | h
  · exact h
  · rw[h.dead] at l;cases l
section
variable {C:Cf} {ρ:List Addr} {h h':Hs} {H:Hp}
end
end
inductive Tg where
  | nm (i:Nat) | tp (is:List Nat)
inductive Ar where
  | p (i:Nat) | k (j:Nat) | d (i:Nat)
structure Ly where
  np:Nat
  nk:Nat
  ar:List Ar
  ds:List A
mutual
inductive E where
  | callK (f:Nat) (es ks:List E) (y:Ly)
  | mcallK (c f:Nat) (o:E) (es ks:List E) (y:Ly)
  | mkK (c f:Nat) (es ks:List E) (y:Ly)
  | var (i:Nat)
  | con (a:A)
  | un (f:Nat) (a:E)
  | bin (f:Nat) (a b:E)
  | chain (f g:Nat) (a b c:E)
  | prim (f:Nat) (es:List E)
  | cond (c a b:E)
  | and (a b:E)
  | or (a b:E)
  | tup (es:List E)
  | lst (es:List E)
  | call (f:Nat) (es:List E)
  | mcall (c f:Nat) (o:E) (es:List E)
  | mk (c f:Nat) (es:List E)
  | fld (a:E) (k:Nat)
  | slice (f:Nat) (a:E) (lo hi:Option E)
  | meth (f:Nat) (a:E) (es:List E)
  | lc (tg:Tg) (it:It) (t:Option E) (elt:E) (own:List Nat)
  | sc (tg:Tg) (it:It) (t:Option E) (elt:E) (own:List Nat)
  | star (a:E)
  | dnew | dsp (k v:E) | dc (tg:Tg) (it:It) (t:Option E) (k v:E) (own:List Nat) | lvals (a:E)
  | maxK (a:E) (k tb ln co:Nat) (ql:List Nat) | sort0 (a:E) (tb ln co:Nat) (ql:List Nat)
  | join (es:List E)
  | told (c:E) (tb ln co:Nat) (ql ix:List Nat) (b bx:E) (z:List Nat)
  | eqO (neg:Bool) (c f:Nat) (a b:E)
inductive It where
  | seq (e:E)
  | rng1 (es:List E)
  | rng2 (es:List E)
  | str (e:E)
  | enum (es:List E)
  | rgd (es:List E)
  | vals (e:E)
  | items (e:E)
end
inductive S where
  | expr (e:E)
  | set (tg:Tg) (e:E)
  | aug (i f:Nat) (e:E)
  | ret (e:E)
  | ret0
  | ite (c:E) (a b:List S)
  | fset (o:E) (k:Nat) (v:E)
  | faug (o:E) (k f:Nat) (v:E)
  | loop (tg:Tg) (it:It) (body:List S)
  | whl (c:E) (body:List S)
  | brk | cnt | pass | never
  | iset (f:Nat) (o i v:E)
  | par (is:List Nat) (es:List E)
  | lock (e:E) (s:S)
  | tryf (body fin:List S)
  | tryr (pre:List S) (e:E) (fin:List S)
structure Xc where
  c:Nat
  fs:List (Nat×A)
inductive R (α:Type) where
  | ok (a:α) (h:Hs) | ex (x:Xc) (h:Hs) | no
def R.bind {α β:Type} (r:R α) (k:α→Hs→R β):R β:=@R.rec α (fun _=>R β) (fun a h=>k a h) (fun x h=>.ex x h) .no r
abbrev Lo:=List (Option A)
inductive RS where
  | nx (l:Lo) (h:Hs) | rt (a:A) (h:Hs) | bk (l:Lo) (h:Hs) | ct (l:Lo) (h:Hs) | ex (x:Xc) (h:Hs) | no
def R.st {α:Type} (r:R α) (k:α→Hs→RS):RS:=@R.rec α (fun _=>RS) (fun a h=>k a h) (fun x h=>.ex x h) .no r
def nth {α:Type} (l:List α):Nat→Option α:=@List.rec α (fun _=>Nat→Option α) (fun _=>none) (fun a _ ih i=>@Nat.rec (fun _=>Option α) (some a) (fun i _=>ih i) i) l
def setNth (l:Lo):Nat→A→Option Lo:=@List.rec (Option A) (fun _=>Nat→A→Option Lo) (fun _ _=>none) (fun a r ih i v=>@Nat.rec (fun _=>Option Lo) (some (some v :: r)) (fun i _=>@Option.rec Lo (fun _=>Option Lo) none (fun r'=>some (a :: r')) (ih i v)) i) l
def nf {α:Type} (n:Nat) (k:Nat→α):α:=match n with
  | 0=>k 0
  | m+1=>k (m+1)
def zf {α:Type} (i:Int) (k:Int→α):α:=match i with
  | .ofNat n=>nf n fun m=>k (.ofNat m)
  | .negSucc n=>nf n fun m=>k (.negSucc m)
structure Fd where
  np:Nat
  nl:Nat
  body:List S
inductive Sc where
  | seqL (n:Nat) | seqT (n:Nat) | rng (lo:Int) (n:Nat) | str (cs:List Nat) | enum (n:Nat) | rgd (n:Nat)
  | dvals (n:Nat) (kvs:List (AK×A)) | ditems (n:Nat) (kvs:List (AK×A))
structure Ev where
  e:E→Lo→Hs→R A
  es:List E→Lo→Hs→R (List A)
  i:It→Lo→Hs→R Sc
  s:S→Lo→Hs→RS
  ss:List S→Lo→Hs→RS
  c:Nat→List A→Hs→R A
  fr:Nat→Sc→Tg→List S→Lo→Hs→RS
  lc:Nat→Sc→Tg→Option E→E→Nat→Lo→Hs→R A
  sc:Nat→Sc→Tg→Option E→E→Nat→Lo→Hs→R A
  dc:Nat→Sc→Tg→Option E→E→E→Nat→Lo→Hs→R A
structure Pr where
  un:Nat→A→Hs→R A
  bin:Nat→A→A→Hs→R A
  prim:Nat→List A→Hs→R A
  meth:Nat→A→List A→Hs→R A
  iset:Nat→A→A→A→Hs→Option Hs
  sl:Nat→A→Option Int→Option Int→Hs→R A
  fs:Nat→Option Fd
  ty:Nat→A→Hs→Bool
  fc:Nat→Nat→Bool
def none_ev:Ev:=⟨fun _ _ _=>.no,fun _ _ _=>.no,fun _ _ _=>.no,fun _ _ _=>.no,fun _ _ _=>.no,fun _ _ _=>.no,fun _ _ _ _ _ _=>.no,fun _ _ _ _ _ _ _ _=>.no,fun _ _ _ _ _ _ _ _=>.no,fun _ _ _ _ _ _ _ _ _=>.no⟩
def shortB {α:Type} (xs:List α):Bool:=Nat.blt xs.length 16777216
def mkTup (h:Hs) (xs:List A):R A:=match shortB xs with
  | true=>match h.new (.tup xs) with
    | some h'=>.ok (.ref h.n) h'
    | none=>.no
  | false=>.no
def mkLst (h:Hs) (xs:List A):R A:=match shortB xs with
  | true=>match h.new (.lst xs) with
    | some h'=>.ok (.ref h.n) h'
    | none=>.no
  | false=>.no
def app (h:Hs) (D:Nat) (y:A):Option Hs:=match h.get D with
  | some (.lst acc)=>match shortB acc with
    | true=>h.put D (.lst (acc++[y]))
    | false=>none
  | _=>none
def look (l:List (Nat×A)):Nat→Option A:=@List.rec (Nat×A) (fun _=>Nat→Option A) (fun _=>none) (fun p _ ih k=>@Bool.rec (fun _=>Option A) (ih k) (some p.2) (Nat.beq p.1 k)) l
def putFs:List (Nat×A)→Nat→A→List (Nat×A)
  | [],k,v=>[(k,v)]
  | p :: r,k,v=>match Nat.beq p.1 k with
    | true=>(p.1,v) :: r
    | false=>p :: putFs r k v
def getFld (P:Pr) (h:Hs) (a:A) (k:Nat):R A:=match a with
  | .ref n=>match h.get n with
    | some (.ins c fs)=>match P.fc c k with
      | true=>match look fs k with
        | some v=>.ok v h
        | none=>.no
      | false=>.no
    | _=>.no
  | _=>.no
def setFld (P:Pr) (h:Hs) (a:A) (k:Nat) (v:A):Option Hs:=match a with
  | .ref n=>match h.get n with
    | some (.ins c fs)=>match P.fc c k with
      | true=>match Nat.blt fs.length 1000 with
        | true=>h.put n (.ins c (putFs fs k v))
        | false=>none
      | false=>none
    | _=>none
  | _=>none
def faugEnd (h:Hs) (n c k:Nat) (z:A) (l:Lo):RS:=match h.get n with
  | some (.ins c2 fs)=>match Nat.beq c c2 with
    | true=>match Nat.blt fs.length 1000 with
      | true=>match h.put n (.ins c (putFs fs k z)) with
        | some h4=>.nx l h4
        | none=>.no
      | false=>.no
    | false=>.no
  | _=>.no
def pad:Nat→Lo
  | 0=>[]
  | n+1=>none :: pad n
def lenB {α:Type}:List α→Nat→Bool
  | [],0=>true
  | _ :: r,n+1=>lenB r n
  | _,_=>false
def entry:List A→Nat→Nat→Option Lo
  | [],np,nl=>match np with
    | 0=>some (pad nl)
    | _+1=>none
  | v :: r,np,nl=>match np,nl with
    | np+1,nl+1=>match entry r np nl with
      | some l=>some (some v :: l)
      | none=>none
    | _,_=>none
def setAll:Lo→List Nat→List A→Option Lo
  | l,[],[]=>some l
  | l,i :: is,v :: vs=>match setNth l i v with
    | some l'=>setAll l' is vs
    | none=>none
  | _,_,_=>none
def wipeL (l:Lo):List Nat→Lo
  | []=>l
  | v :: vs=>(wipeL l vs).set v none
inductive Nx where
  | yl (v:A) (h:Hs) | stop | no
def tupAt (h:Hs) (n:Nat):Option (List A):=match h.get n with
  | some (.tup xs)=>some xs
  | some (.stat xs)=>some xs
  | _=>none
def lstAt (h:Hs) (n:Nat):Option (List A):=match h.get n with
  | some (.lst xs)=>some xs
  | some (.rl xs)=>some xs
  | _=>none
def setT (tg:Tg) (v:A) (l:Lo) (h:Hs):Option Lo:=match tg with
  | .nm i=>setNth l i v
  | .tp is=>(match v with
    | .ref n=>match tupAt h n with
      | some vs=>setAll l is vs
      | none=>none
    | _=>none)
def keyA:A→Option AK
  | .int i=>some (.int i)
  | .str cs=>some (.str cs)
  | _=>none
def eqAK:AK→AK→Bool
  | .int i,.int j=>W.Z.eqB i j
  | .str a,.str b=>natsB a b
  | _,_=>false
def eqA1:A→A→Bool
  | .non,.non=>true
  | .bl a,.bl b=>match a,b with
    | true,true=>true
    | false,false=>true
    | _,_=>false
  | .int i,.int j=>W.Z.eqB i j
  | .str a,.str b=>natsB a b
  | .ref a,.ref b=>Nat.beq a b
  | _,_=>false
def kvsB:List (AK×A)→List (AK×A)→Bool
  | [],[]=>true
  | p :: r,q :: s=>match eqAK p.1 q.1 with
    | true=>match eqA1 p.2 q.2 with
      | true=>kvsB r s
      | false=>false
    | false=>false
  | _,_=>false
def dicAt (h:Hs) (n:Nat):Option (List (AK×A)):=match h.get n with
  | some (.dic k)=>some k
  | some (.fdic k)=>some k
  | _=>none
def lookK:List (AK×A)→AK→Option A
  | [],_=>none
  | p :: r,k=>match eqAK p.1 k with
    | true=>some p.2
    | false=>lookK r k
def anyK:List (AK×A)→AK→Bool
  | [],_=>false
  | p :: r,k=>match eqAK p.1 k with
    | true=>true
    | false=>anyK r k
def mapK:List (AK×A)→AK→A→List (AK×A)
  | [],_,_=>[]
  | p :: r,k,v=>match eqAK p.1 k with
    | true=>(p.1,v) :: mapK r k v
    | false=>p :: mapK r k v
def putKv (kvs:List (AK×A)) (k:AK) (v:A):List (AK×A):=match anyK kvs k with
  | true=>mapK kvs k v
  | false=>kvs++[(k,v)]
def putD (h:Hs) (D:Nat) (x y:A):Option Hs:=match h.get D with
  | some (.dic acc)=>match keyA x with
    | some k=>match Nat.blt acc.length 4096 with
      | true=>h.put D (.dic (putKv acc k y))
      | false=>none
    | none=>none
  | _=>none
def keyV:AK→A
  | .int i=>.int i
  | .str cs=>.str cs
def touch (h:Hs) (tb ln co:Nat) (ql:List Nat):Option Hs:=match h.get tb with
  | some (.tab _ _ none)=>match h.new (.code ql) with
    | some h1=>h1.put tb (.tab ln co (some h.n))
    | none=>none
  | some (.tab l2 c2 (some n))=>match Nat.beq ln l2 with
    | true=>match Nat.beq co c2 with
      | true=>match h.get n with
        | some (.code q2)=>match natsB ql q2 with
          | true=>some h
          | false=>none
        | _=>none
      | false=>none
    | false=>none
  | _=>none
def findT (ln co:Nat):List (Nat×Nat×Nat)→Option Nat
  | []=>none
  | e :: r=>match Nat.beq ln e.1 with
    | true=>match Nat.beq co e.2.1 with
      | true=>some e.2.2
      | false=>findT ln co r
    | false=>findT ln co r
def touchG (h:Hs) (tb ln co:Nat) (ql:List Nat):Option Hs:=match h.get tb with
  | some (.tabs es)=>match findT ln co es with
    | some n=>match h.get n with
      | some (.code q2)=>match natsB ql q2 with
        | true=>some h
        | false=>none
      | _=>none
    | none=>match h.new (.code ql) with
      | some h1=>h1.put tb (.tabs (es++[(ln,co,h.n)]))
      | none=>none
  | _=>none
def caps (l:Lo):List Nat→Option Lo
  | []=>some []
  | i :: r=>match nth l i with
    | some (some v)=>match caps l r with
      | some vs=>some (some v :: vs)
      | none=>none
    | _=>none
def keysF (P:Pr) (h:Hs) (k:Nat):List A→Option (List Int)
  | []=>some []
  | v :: r=>match v with
    | .ref n=>match h.get n with
      | some (.ins c fs)=>match P.fc c k with
        | true=>match look fs k with
          | some (.int i)=>match keysF P h k r with
            | some ks=>some (i :: ks)
            | none=>none
          | _=>none
        | false=>none
      | _=>none
    | _=>none
def ltZ:Int→Int→Bool:=W.Z.ltB
def pickA:A→Int→List A→List Int→A
  | b,_,[],_=>b
  | b,_,_ :: _,[]=>b
  | b,kb,x :: r,k :: ks=>match ltZ kb k with
    | true=>pickA x k r ks
    | false=>pickA b kb r ks
def pickA0:List A→List Int→A
  | x :: r,k :: ks=>pickA x k r ks
  | _,_=>.non
def dvals:List (AK×A)→List A
  | []=>[]
  | p :: r=>p.2 :: dvals r
def next (sc:Sc) (i:Nat) (h:Hs):Nx:=match sc with
  | .seqL n=>match lstAt h n with
    | some xs=>match nth xs i with
      | some v=>.yl v h
      | none=>.stop
    | none=>.no
  | .seqT n=>match tupAt h n with
    | some xs=>match nth xs i with
      | some v=>.yl v h
      | none=>.stop
    | none=>.no
  | .rng lo n=>match Nat.blt i n with
    | true=>zf (lo+i) fun k=>.yl (.int k) h
    | false=>.stop
  | .rgd n=>match Nat.blt i n with
    | true=>nf (n-1-i) fun k=>.yl (.int (.ofNat k)) h
    | false=>.stop
  | .str cs=>match nth cs i with
    | some c=>.yl (.str [c]) h
    | none=>.stop
  | .enum n=>match lstAt h n with
    | some xs=>match nth xs i with
      | some v=>match h.new (.tup [.int (.ofNat i),v]) with
        | some h'=>.yl (.ref h.n) h'
        | none=>.no
      | none=>.stop
    | none=>.no
  | .dvals n kvs=>match h.get n with
    | some (.fdic k2)=>match kvsB kvs k2 with
      | true=>match nth kvs i with
        | some p=>.yl p.2 h
        | none=>.stop
      | false=>.no
    | _=>.no
  | .ditems n kvs=>match h.get n with
    | some (.fdic k2)=>match kvsB kvs k2 with
      | true=>match nth kvs i with
        | some p=>match h.new (.tup [keyV p.1,p.2]) with
          | some h'=>.yl (.ref h.n) h'
          | none=>.no
        | none=>.stop
      | false=>.no
    | _=>.no
def optE (r:Ev) (e:Option E) (l:Lo) (h:Hs) (k:Option Int→Hs→R A):R A:=match e with
  | none=>k none h
  | some e=>(r.e e l h).bind fun v h1=>match v with
    | .int i=>k (some i) h1
    | _=>.no
def smallB (i:Int):Bool:=match i with
  | .ofNat n=>Nat.blt n 4611686018427387904
  | .negSucc n=>Nat.blt n 4611686018427387904
def arr {α:Type} (d:α) (cs us ws:List α):List Ar→List α
  | []=>[]
  | .p i :: r=>((nth us i).getD d) :: arr d cs us ws r
  | .k j :: r=>((nth ws j).getD d) :: arr d cs us ws r
  | .d i :: r=>((nth cs i).getD d) :: arr d cs us ws r
def layA (y:Ly) (vs zs:List A):Option (List A):=match lenB vs y.np with
  | true=>match lenB zs y.nk with
    | true=>some (arr .non y.ds vs zs y.ar)
    | false=>none
  | false=>none
def inAK (k:AK):List AK→Bool
  | []=>false
  | j :: r=>match eqAK j k with
    | true=>true
    | false=>inAK k r
def addS (h:Hs) (D:Nat) (y:A):Option Hs:=match h.get D with
  | some (.set ks)=>match keyA y with
    | some k=>match Nat.blt (ks.length+1) 4096 with
      | true=>match inAK k ks with
        | true=>h.put D (.set ks)
        | false=>h.put D (.set (ks++[k]))
      | false=>none
    | none=>none
  | _=>none
def seqIt (h:Hs) (v:A):Option (List A):=match v with
  | .ref n=>match lstAt h n with
    | some xs=>some xs
    | none=>tupAt h n
  | _=>none
def thawH (h:Hs) (n:Nat):Option Hs:=match h.get n with
  | some (.fdic kvs)=>h.put n (.dic kvs)
  | _=>none
def RS.thaw (r:RS) (n:Nat):RS:=match r with
  | .nx l h=>match thawH h n with
    | some h'=>.nx l h'
    | none=>.no
  | .rt a h=>match thawH h n with
    | some h'=>.rt a h'
    | none=>.no
  | .bk l h=>match thawH h n with
    | some h'=>.bk l h'
    | none=>.no
  | .ct l h=>match thawH h n with
    | some h'=>.ct l h'
    | none=>.no
  | .ex _ _=>.no
  | .no=>.no
def step (P:Pr) (r:Ev):Ev where
  e:=fun ir l h=>match ir with
    | .var i=>match nth l i with
      | some (some v)=>.ok v h
      | _=>.no
    | .con a=>.ok a h
    | .un f a=>(r.e a l h).bind fun v h1=>P.un f v h1
    | .bin f a b=>(r.e a l h).bind fun v h1=>(r.e b l h1).bind fun w h2=>P.bin f v w h2
    | .chain f g a b c=>(r.e a l h).bind fun v h1=>(r.e b l h1).bind fun w h2=>(P.bin f v w h2).bind fun z h3=>match z with
      | .bl true=>(r.e c l h3).bind fun u h4=>P.bin g w u h4
      | .bl false=>.ok (.bl false) h3
      | _=>.no
    | .prim f es=>(r.es es l h).bind fun vs h1=>P.prim f vs h1
    | .cond c a b=>(r.e c l h).bind fun v h1=>match v with
      | .bl true=>r.e a l h1
      | .bl false=>r.e b l h1
      | _=>.no
    | .and a b=>(r.e a l h).bind fun v h1=>match v with
      | .bl true=>r.e b l h1
      | .bl false=>.ok (.bl false) h1
      | _=>.no
    | .or a b=>(r.e a l h).bind fun v h1=>match v with
      | .bl true=>.ok (.bl true) h1
      | .bl false=>r.e b l h1
      | _=>.no
    | .tup es=>(r.es es l h).bind fun vs h1=>mkTup h1 vs
    | .lst es=>(r.es es l h).bind fun vs h1=>mkLst h1 vs
    | .call f es=>(r.es es l h).bind fun vs h1=>r.c f vs h1
    | .fld a k=>(r.e a l h).bind fun v h1=>getFld P h1 v k
    | .meth f a es=>(r.e a l h).bind fun v h1=>match P.ty f v h1 with
      | true=>(r.es es l h1).bind fun vs h2=>P.meth f v vs h2
      | false=>.no
    | .slice f a lo hi=>(r.e a l h).bind fun v h1=>optE r lo l h1 fun i h2=>optE r hi l h2 fun j h3=>P.sl f v i j h3
    | .mcall c f o es=>(r.e o l h).bind fun v h1=>match v with
      | .ref n=>match h1.get n with
        | some (.ins c' fs)=>match Nat.beq c c' with
          | true=>(r.es es l h1).bind fun vs h2=>r.c f (v :: vs) h2
          | false=>.no
        | _=>.no
      | _=>.no
    | .callK f es ks y=>(r.es es l h).bind fun vs h1=>(r.es ks l h1).bind fun zs h2=>match layA y vs zs with
      | some as=>r.c f as h2
      | none=>.no
    | .mcallK c f o es ks y=>(r.e o l h).bind fun v h1=>match v with
      | .ref n=>match h1.get n with
        | some (.ins c' fs)=>match Nat.beq c c' with
          | true=>(r.es es l h1).bind fun vs h2=>(r.es ks l h2).bind fun zs h3=>match layA y (v :: vs) zs with
            | some as=>r.c f as h3
            | none=>.no
          | false=>.no
        | _=>.no
      | _=>.no
    | .mkK c f es ks y=>(r.es es l h).bind fun vs h1=>(r.es ks l h1).bind fun zs h2=>match h2.new (.ins c []) with
      | some h3=>match layA y (.ref h2.n :: vs) zs with
        | some as=>(r.c f as h3).bind fun w h4=>match w with
          | .non=>.ok (.ref h2.n) h4
          | _=>.no
        | none=>.no
      | none=>.no
    | .mk c f es=>(r.es es l h).bind fun vs h1=>match h1.new (.ins c []) with
      | some h2=>(r.c f (.ref h1.n :: vs) h2).bind fun w h3=>match w with
        | .non=>.ok (.ref h1.n) h3
        | _=>.no
      | none=>.no
    | .star _=>.no
    | .sc tg it t elt own=>(r.i it l h).bind fun sc h1=>match h1.new (.set []) with
      | some h2=>r.sc 0 sc tg t elt h1.n (wipeL l own) h2
      | none=>.no
    | .lc tg it t elt own=>(r.i it l h).bind fun sc h1=>match h1.new (.lst []) with
      | some h2=>r.lc 0 sc tg t elt h1.n (wipeL l own) h2
      | none=>.no
    | .dnew=>match h.new (.dic []) with
      | some h1=>.ok (.ref h.n) h1
      | none=>.no
    | .dsp k v=>match h.new (.dic []) with
      | some h1=>(r.e k l h1).bind fun x h2=>(r.e v l h2).bind fun y h3=>match h3.get h.n with
        | some (.dic [])=>match putD h3 h.n x y with
          | some h4=>.ok (.ref h.n) h4
          | none=>.no
        | _=>.no
      | none=>.no
    | .dc tg it t k v own=>(r.i it l h).bind fun sc h1=>match h1.new (.dic []) with
      | some h2=>r.dc 0 sc tg t k v h1.n (wipeL l own) h2
      | none=>.no
    | .lvals a=>(r.e a l h).bind fun v h1=>match v with
      | .ref n=>match dicAt h1 n with
        | some kvs=>match h1.new (.lst (dvals kvs)) with
          | some h2=>.ok (.ref h1.n) h2
          | none=>.no
        | none=>.no
      | _=>.no
    | .maxK a k tb ln co ql=>(r.e a l h).bind fun v h1=>match v with
      | .ref n=>match lstAt h1 n with
        | some xs=>match touch h1 tb ln co ql with
          | some h2=>match keysF P h2 k xs with
            | some ks=>.ok (pickA0 xs ks) h2
            | none=>.no
          | none=>.no
        | none=>.no
      | _=>.no
    | .sort0 a tb ln co ql=>(r.e a l h).bind fun v h1=>match v with
      | .ref n=>match lstAt h1 n with
        | some []=>match touch h1 tb ln co ql with
          | some h2=>match h2.new (.lst []) with
            | some h3=>.ok (.ref h2.n) h3
            | none=>.no
          | none=>.no
        | _=>.no
      | _=>.no
    | .join es=>match es with
      | []=>.ok (.str []) h
      | a :: rest=>(r.e a l h).bind fun v h1=>match v with
        | .str cs=>match Nat.blt cs.length 1000 with
          | true=>(r.e (.join rest) l h1).bind fun w h2=>match w with
            | .str ds=>.ok (.str (cs++ds)) h2
            | _=>.no
          | false=>.no
        | _=>.no
    | .eqO neg c f a b=>(r.e a l h).bind fun v h1=>(r.e b l h1).bind fun w h2=>match v with
      | .ref n=>match w with
        | .ref m=>match h2.get n with
          | some (.ins c1 _)=>match h2.get m with
            | some (.ins c2 _)=>match Nat.beq c c1 with
              | true=>match Nat.beq c c2 with
                | true=>(r.c f [v,w] h2).bind fun z h3=>match z with
                  | .bl t=>.ok (.bl (match neg with | true=>!t | false=>t)) h3
                  | _=>.no
                | false=>.no
              | false=>.no
            | _=>.no
          | _=>.no
        | _=>.no
      | _=>.no
    | .told c tb ln co ql ix b bx z=>match caps l ix with
      | some l2=>match touchG h tb ln co ql with
        | some h1=>match r.e c l h with
          | .ok (.bl false) _=>r.e b l2 h1
          | .ok (.bl true) _=>(r.e bx l2 h1).bind fun _ h2=>.ok (.str z) h2
          | _=>.no
        | none=>.no
      | none=>.no
  es:=fun es l h=>match es with
    | []=>.ok [] h
    | .star a :: rest=>(r.e a l h).bind fun v h1=>match seqIt h1 v with
      | some ys=>(r.es rest l h1).bind fun vs h2=>.ok (ys++vs) h2
      | none=>.no
    | a :: rest=>(r.e a l h).bind fun v h1=>(r.es rest l h1).bind fun vs h2=>.ok (v :: vs) h2
  i:=fun it l h=>match it with
    | .seq e=>(r.e e l h).bind fun v h1=>match v with
      | .str cs=>.ok (.str cs) h1
      | .ref n=>match lstAt h1 n with
        | some _=>.ok (.seqL n) h1
        | none=>match tupAt h1 n with
          | some _=>.ok (.seqT n) h1
          | none=>.no
      | _=>.no
    | .rng1 es=>(r.es es l h).bind fun vs h1=>match vs with
      | [.int j]=>match smallB j with
        | true=>nf j.toNat fun m=>.ok (.rng (.ofNat 0) m) h1
        | false=>.no
      | _=>.no
    | .rgd es=>(r.es es l h).bind fun vs h1=>match vs with
      | [.int j]=>match smallB j with
        | true=>nf j.toNat fun m=>.ok (.rgd m) h1
        | false=>.no
      | _=>.no
    | .rng2 es=>(r.es es l h).bind fun vs h1=>match vs with
      | [.int i,.int j]=>match smallB i with
        | true=>match smallB j with
          | true=>nf (j-i).toNat fun m=>.ok (.rng i m) h1
          | false=>.no
        | false=>.no
      | _=>.no
    | .str e=>(r.e e l h).bind fun v h1=>match v with
      | .str cs=>.ok (.str cs) h1
      | _=>.no
    | .enum es=>(r.es es l h).bind fun vs h1=>match vs with
      | [.ref n]=>match lstAt h1 n with
        | some _=>.ok (.enum n) h1
        | none=>.no
      | _=>.no
    | .vals e=>(r.e e l h).bind fun v h1=>match v with
      | .ref n=>match h1.get n with
        | some (.fdic kvs)=>match kvsB kvs kvs with
          | true=>.ok (.dvals n kvs) h1
          | false=>.no
        | _=>.no
      | _=>.no
    | .items e=>(r.e e l h).bind fun v h1=>match v with
      | .ref n=>match h1.get n with
        | some (.fdic kvs)=>match kvsB kvs kvs with
          | true=>.ok (.ditems n kvs) h1
          | false=>.no
        | _=>.no
      | _=>.no
  s:=fun st l h=>match st with
    | .expr e=>(r.e e l h).st fun _ h1=>.nx l h1
    | .set tg e=>(r.e e l h).st fun v h1=>match setT tg v l h1 with
      | some l'=>.nx l' h1
      | none=>.no
    | .aug i f e=>match nth l i with
      | some (some x)=>(r.e e l h).st fun y h1=>(P.bin f x y h1).st fun z h2=>match setNth l i z with
        | some l'=>.nx l' h2
        | none=>.no
      | _=>.no
    | .ret0=>.rt .non h
    | .ret e=>(r.e e l h).st fun v h1=>.rt v h1
    | .ite c a b=>(r.e c l h).st fun v h1=>match v with
      | .bl true=>r.ss a l h1
      | .bl false=>r.ss b l h1
      | _=>.no
    | .faug o k f v=>(r.e o l h).st fun x h1=>match x with
      | .ref n=>match h1.get n with
        | some (.ins c fs)=>match P.fc c k with
          | true=>match look fs k with
            | some u=>(r.e v l h1).st fun y h2=>(P.bin f u y h2).st fun z h3=>faugEnd h3 n c k z l
            | none=>.no
          | false=>.no
        | _=>.no
      | _=>.no
    | .fset o k v=>(r.e v l h).st fun y h1=>(r.e o l h1).st fun x h2=>match setFld P h2 x k y with
      | some h3=>.nx l h3
      | none=>.no
    | .loop tg it body=>(r.i it l h).st fun sc h1=>r.fr 0 sc tg body l h1
    | .whl c body=>(r.e c l h).st fun v h1=>match v with
      | .bl true=>match r.ss body l h1 with
        | .nx l2 h2=>r.s (.whl c body) l2 h2
        | .ct l2 h2=>r.s (.whl c body) l2 h2
        | .bk l2 h2=>.nx l2 h2
        | .rt a h2=>.rt a h2
        | .ex x h2=>.ex x h2
        | .no=>.no
      | .bl false=>.nx l h1
      | _=>.no
    | .par is es=>(r.es es l h).st fun vs h1=>match setAll l is vs with
      | some l'=>.nx l' h1
      | none=>.no
    | .brk=>.bk l h
    | .cnt=>.ct l h
    | .pass=>.nx l h
    | .never=>.no
    | .iset f o i v=>(r.e v l h).st fun y h1=>(r.e o l h1).st fun x h2=>(r.e i l h2).st fun z h3=>match P.iset f x z y h3 with
      | some h4=>.nx l h4
      | none=>.no
    | .lock e s=>match r.e e l h with
      | .ok (.ref n) _=>match h.get n with
        | some (.dic kvs)=>match h.put n (.fdic kvs) with
          | some h1=>(r.s s l h1).thaw n
          | none=>.no
        | _=>.no
      | _=>.no
    | .tryf body fin=>match r.ss body l h with
      | .nx l1 h1=>match r.ss fin l1 h1 with
        | .nx l2 h2=>.nx l2 h2
        | _=>.no
      | _=>.no
    | .tryr pre e fin=>match r.ss pre l h with
      | .nx l1 h1=>(r.e e l1 h1).st fun v h2=>match r.ss fin l1 h2 with
        | .nx _ h3=>.rt v h3
        | _=>.no
      | _=>.no
  ss:=fun st l h=>match st with
    | []=>.nx l h
    | a :: rest=>match r.s a l h with
      | .nx l1 h1=>r.ss rest l1 h1
      | x=>x
  c:=fun f vs h=>match P.fs f with
    | none=>.no
    | some d=>match entry vs d.np d.nl with
      | none=>.no
      | some l=>match r.ss d.body l h with
        | .nx _ h1=>.ok .non h1
        | .rt a h1=>.ok a h1
        | .ex x h1=>.ex x h1
        | _=>.no
  fr:=fun i sc tg body l h=>match next sc i h with
    | .stop=>.nx l h
    | .no=>.no
    | .yl v h1=>match setT tg v l h1 with
      | none=>.no
      | some l1=>match r.ss body l1 h1 with
        | .nx l2 h2=>nf i fun j=>r.fr (j+1) sc tg body l2 h2
        | .ct l2 h2=>nf i fun j=>r.fr (j+1) sc tg body l2 h2
        | .bk l2 h2=>.nx l2 h2
        | .rt a h2=>.rt a h2
        | .ex x h2=>.ex x h2
        | .no=>.no
  lc:=fun i sc tg t elt D l h=>match next sc i h with
    | .stop=>.ok (.ref D) h
    | .no=>.no
    | .yl v h1=>match setT tg v l h1 with
      | none=>.no
      | some l1=>match t with
        | none=>(r.e elt l1 h1).bind fun y h2=>match app h2 D y with
          | some h3=>nf i fun j=>r.lc (j+1) sc tg t elt D l h3
          | none=>.no
        | some c=>(r.e c l1 h1).bind fun b h2=>match b with
          | .bl true=>(r.e elt l1 h2).bind fun y h3=>match app h3 D y with
            | some h4=>nf i fun j=>r.lc (j+1) sc tg t elt D l h4
            | none=>.no
          | .bl false=>nf i fun j=>r.lc (j+1) sc tg t elt D l h2
          | _=>.no
  sc:=fun i sc tg t elt D l h=>match next sc i h with
    | .stop=>.ok (.ref D) h
    | .no=>.no
    | .yl v h1=>match setT tg v l h1 with
      | none=>.no
      | some l1=>match t with
        | none=>(r.e elt l1 h1).bind fun y h2=>match addS h2 D y with
          | some h3=>nf i fun j=>r.sc (j+1) sc tg t elt D l h3
          | none=>.no
        | some c=>(r.e c l1 h1).bind fun b h2=>match b with
          | .bl true=>(r.e elt l1 h2).bind fun y h3=>match addS h3 D y with
            | some h4=>nf i fun j=>r.sc (j+1) sc tg t elt D l h4
            | none=>.no
          | .bl false=>nf i fun j=>r.sc (j+1) sc tg t elt D l h2
          | _=>.no
  dc:=fun i sc tg t kx vx D l h=>match next sc i h with
    | .stop=>.ok (.ref D) h
    | .no=>.no
    | .yl v h1=>match setT tg v l h1 with
      | none=>.no
      | some l1=>match t with
        | none=>(r.e kx l1 h1).bind fun x h2=>(r.e vx l1 h2).bind fun y h3=>match putD h3 D x y with
          | some h4=>nf i fun j=>r.dc (j+1) sc tg t kx vx D l h4
          | none=>.no
        | some c=>(r.e c l1 h1).bind fun b h2=>match b with
          | .bl true=>(r.e kx l1 h2).bind fun x h3=>(r.e vx l1 h3).bind fun y h4=>match putD h4 D x y with
            | some h5=>nf i fun j=>r.dc (j+1) sc tg t kx vx D l h5
            | none=>.no
          | .bl false=>nf i fun j=>r.dc (j+1) sc tg t kx vx D l h2
          | _=>.no
def run (P:Pr):Nat→Ev
  | 0=>none_ev
  | n+1=>step P (run P n)
section
variable (C:Cf) (P:Pr)
def Fin (ρ:List Addr) (Q:VK):R A→Prop
  | .ok v h=>∀ ρ' H' x,ρ <+: ρ'→HR C ρ' h H'→VR ρ' v x→Q x H'
  | _=>False
def FinL (ρ:List Addr) (Q:List V→Hp→Prop):R (List A)→Prop
  | .ok vs h=>∀ ρ' H' xs,ρ <+: ρ'→HR C ρ' h H'→VRs ρ' vs xs→Q xs H'
  | _=>False
def tE (N:Nat) (e:E):TE:=fun σ H Q=>∃ n,n≤N∧∃ ρ h l,HR C ρ h H∧LR ρ l σ∧Fin C ρ Q ((run P n).e e l h)
def tEs (N:Nat) (es:List E):TA:=fun σ H Q=>∃ n,n≤N∧∃ ρ h l,HR C ρ h H∧LR ρ l σ∧FinL C ρ Q ((run P n).es es l h)
def spF (N f np:Nat):Sp:=fun vs H Q _=>vs.length=np∧∃ n,n≤N∧∃ ρ h as,HR C ρ h H∧VRs ρ as vs∧Fin C ρ Q ((run P n).c f as h)
end
section
variable {C:Cf} {P:Pr} {N:Nat} {ρ ρ':List Addr} {h:Hs} {H:Hp} {l:Lo} {σ:St}
theorem Fin.mono {Q:VK} (p:ρ <+: ρ'):∀ {r:R A},Fin C ρ Q r→Fin C ρ' Q r
  | .ok _ _,F=>fun ρ2 H2 x q R V=>F ρ2 H2 x (p.trans q) R V
  | .ex _ _,F=>F
  | .no,F=>F
theorem FinL.ok {Q:List V→Hp→Prop} {v:List A} {x:List V} (F:FinL C ρ Q (.ok v h)) (R:HR C ρ h H) (V:VRs ρ v x):Q x H:=F ρ H x (List.prefix_refl _) R V
structure Bd {β:Type} (F:R β→Prop):Prop where
  no:¬ F .no
  ex:∀ x h,¬ F (.ex x h)
theorem Fin.bd {Q:VK}:Bd (Fin C ρ Q):=⟨fun h=>h,fun _ _ h=>h⟩
theorem sub {β:Type} {F:R β→Prop} {m:Nat} {a:E} {k:A→Hs→R β} {Q:VK} (hm:m≤N) (R:HR C ρ h H) (L:LR ρ l σ) (B:Bd F) (hF:F (((run P m).e a l h).bind k))
    (hk:∀ v h1 ρ1 H1 x,ρ <+: ρ1→HR C ρ1 h1 H1→VR ρ1 v x→F (k v h1)→Q x H1):tE C P N a σ H Q:=by
  refine⟨m,hm,ρ,h,l,R,L,?_⟩
  cases e:(run P m).e a l h with
  | ok v h1=>rw[e] at hF;exact fun ρ1 H1 x p R1 V=>hk v h1 ρ1 H1 x p R1 V hF
  | ex x h1=>rw[e] at hF;exact B.ex _ _ hF
  | no=>rw[e] at hF;exact B.no hF
theorem subL {β:Type} {F:R β→Prop} {m:Nat} {es:List E} {k:List A→Hs→R β} {Q:List V→Hp→Prop} (hm:m≤N) (R:HR C ρ h H) (L:LR ρ l σ) (B:Bd F) (hF:F (((run P m).es es l h).bind k))
    (hk:∀ v h1 ρ1 H1 x,ρ <+: ρ1→HR C ρ1 h1 H1→VRs ρ1 v x→F (k v h1)→Q x H1):tEs C P N es σ H Q:=by
  refine⟨m,hm,ρ,h,l,R,L,?_⟩
  cases e:(run P m).es es l h with
  | ok v h1=>rw[e] at hF;exact fun ρ1 H1 x p R1 V=>hk v h1 ρ1 H1 x p R1 V hF
  | ex x h1=>rw[e] at hF;exact B.ex _ _ hF
  | no=>rw[e] at hF;exact B.no hF
variable {X:Cx} {e a b c:Expr} {ia ib ic:E}
theorem pe_imp {t t':TE} (h:PE X e t) (k:∀ σ H Q,t' σ H Q→t σ H Q):PE X e t':=fun pins s σ H Q I q=>h pins s σ H Q I (k σ H Q q)
theorem entry_len:∀ {vs:List A} {np nl:Nat} {l:Lo},entry vs np nl=some l→vs.length=np
  | [],0,_,_,_=>rfl
  | [],_+1,_,_,h=>by cases h
  | v :: r,0,_,_,h=>by cases h
  | v :: r,np+1,0,_,h=>by cases h
  | v :: r,np+1,nl+1,l,h=>by
    cases e:entry r np nl with
    | none=>simp only[entry,e] at h;cases h
    | some l'=>rw[List.length_cons,entry_len e]
theorem c_len {f m:Nat} {d:Fd} {vs:List A} {Q:VK} (hf:P.fs f=some d) (F:Fin C ρ Q ((run P m).c f vs h)):vs.length=d.np:=by
  cases m with
  | zero=>exact F.elim
  | succ m =>
    have F:Fin C ρ Q (match P.fs f with | none=>.no | some d=>match entry vs d.np d.nl with | none=>.no | some l=>match (run P m).ss d.body l h with | .nx _ h1=>.ok .non h1 | .rt a h1=>.ok a h1 | .ex x h1=>.ex x h1 | _=>.no):=F
    rw[hf] at F
    cases e:entry vs d.np d.nl with
    | none=>simp only[e] at F;exact F.elim
    | some l=>exact entry_len e
theorem frs_none {fs:List (Nat×A)} {zs:List (Str×V)} (r:FRs C ρ fs zs) {m:Str} (h:∀ k,C.fn k≠m):zs.lookup m=none:=by
  induction r with
  | nil=>rfl
  | @cons p q l1 l2 hp t ih =>
    obtain⟨hp1,hp2⟩:=hp
    have : ¬ m=q.1:=fun z=>h p.1 (by rw[z,hp1])
    rw[List.lookup_cons,beq_false_of_ne this]
    exact ih
theorem ref_at (R:HR C ρ h H) {n:Nat} {x:V} {o:O} (V:VR ρ (.ref n) x) (e:h.get n=some o):∃ a,ρ[n]?=some a∧x=.ref a∧OR C ρ H a o:=by
  obtain⟨a,h1,h2⟩:=V
  obtain⟨b,h3,h4⟩:=R.ob n o e
  rw[h1] at h3;cases h3
  exact⟨a,h1,h2,h4⟩
theorem q_mcall {c f:Nat} {d:Fd} {m:Str} {ies:List E} {E:XK} (hf:P.fs f=some d) (hm:∀ k,C.fn k≠m) (he:PE X e (tMeth (C.cl c) m (spF C P N f d.np) [] E (tE C P N ia) (tEs C P N ies))):PE X e (tE C P N (.mcall c f ia ies)):=by
  refine pe_imp he fun σ H Q ⟨n,hn,ρ,h,l,R,L,F⟩=>?_
  cases n with
  | zero=>exact F.elim
  | succ m =>
    refine sub (by omega) R L Fin.bd (show Fin C ρ Q (((run P m).e ia l h).bind fun v h1=>match v with
      | .ref n=>match h1.get n with
        | some (.ins c' fs)=>match Nat.beq c c' with
          | true=>((run P m).es ies l h1).bind fun vs h2=>(run P m).c f (v :: vs) h2
          | false=>.no
        | _=>.no
      | _=>.no) from F) fun v h1 ρ1 H1 x p1 R1 V1 F1=>?_
    cases v with
    | ref n =>
      cases e:h1.get n with
      | none=>simp only[e] at F1;exact F1.elim
      | some o =>
        cases o with
        | ins c' fs =>
          simp only[e] at F1
          rw[Tr.beq_eq] at F1
          by_cases z:c=c'
          · subst z
            simp only[decide_true] at F1
            obtain⟨a,h1',h2,h3⟩:=ref_at R1 V1 e
            obtain⟨u,h4,dx,zs,h5,rfl⟩:=h3.lives rfl
            refine⟨a,dx,zs,h2,h4,frs_none h5 hm,?_⟩
            refine subL (by omega) R1 (L.mono p1) Fin.bd F1 fun vs h2 ρ2 H2 xs p2 R2 V2 F2=>?_
            rw[List.append_nil]
            have V3:VRs ρ2 (.ref n :: vs) (x :: xs):=.cons (V1.mono p2) V2
            exact⟨by rw[← V3.length];exact c_len hf F2,m,by omega,ρ2,h2,_,R2,V3,F2.mono (p1.trans p2)⟩
          · simp only[decide_eq_false z] at F1;exact F1.elim
        | _=>simp only[e] at F1;exact F1.elim
    | _=>exact F1.elim
end
section
variable {C:Cf} {P:Pr} {N:Nat} {ρ ρ':List Addr} {h h1:Hs} {H:Hp} {l l':Lo} {σ:St}
end
section
variable {C:Cf} {P:Pr} {N:Nat} {X:Cx} {e:Expr} {ia ib ic:E}
theorem pi_seq {tg l:Expr} {tl:TE} (hl:PE X l tl):PI X tg l (fun σ H R=>tl σ H fun x H1=>(∃ z,x=.str z∧R (Its z) H1)∨∃ a,x=.ref a∧(((∃ xs,SqL X.K H1 a xs)∧R (Itl X.K a) H1)∨((∃ xs,SqT X.K H1 a xs)∧R (Itt X.K a) H1))):=by
  intro pins s σ H R I h
  refine thn (hl pins s σ H _ I h) fun v s1 ⟨x,H1,I1,r1,q1⟩=>?_
  rcases q1 with ⟨z,ex,q⟩ | q1
  · subst ex
    obtain⟨t,rfl⟩:=r1
    cases ha:z.cps.all (· < 128)
    · exact wpAny_pyIter_wide ha (pi_one (tk:=s1.toks) I1 _ (turn_str _ z t "str_iterator" (.inr rfl)) ⟨_,Heap.get?_push_size _ rfl,rfl,rfl⟩ q)
    · exact wpAny_pyIter_ascii ha (pi_one (tk:=s1.toks) I1 _ (turn_str _ z t "str_ascii_iterator" (.inl rfl)) ⟨_,Heap.get?_push_size _ rfl,rfl,rfl⟩ q)
  obtain⟨a,e,q⟩:=q1
  rcases q with ⟨hq,q⟩ | ⟨hq,q⟩
  · subst e
    cases r1
    obtain⟨xs,hq⟩:=hq
    obtain⟨its,rv,p,hz⟩:=I1.list hq
    refine wpAny_pyIter_list p.isList ?_
    refine⟨s1.heap.objs.size,[s1.heap.objs.size],_,_,H1,rfl,I1.kept (t':=s1.toks) fun b o e=>Heap.get?_push_of_some _ e,turn_list a _,⟨_,Heap.get?_push_size _ rfl,rfl,rfl⟩,fun b hb=>?_,q⟩
    have e:b=s1.heap.objs.size:=by simpa using hb
    subst e
    exact I1.fpOk (Nat.le_refl _) (I1.hok.fresh (Nat.le_refl _))
  · subst e
    cases r1
    obtain⟨xs,hq⟩:=hq
    obtain⟨its,rv,p,hz⟩:=I1.tuple hq
    refine wpAny_pyIter_tuple (show s1.heap.IsTuple a its.toArray from p) ?_
    refine⟨s1.heap.objs.size,[s1.heap.objs.size],_,_,H1,rfl,I1.kept (t':=s1.toks) fun b o e=>Heap.get?_push_of_some _ e,turn_tuple a _,⟨_,Heap.get?_push_size _ rfl,rfl,rfl⟩,fun b hb=>?_,q⟩
    have e:b=s1.heap.objs.size:=by simpa using hb
    subst e
    exact I1.fpOk (Nat.le_refl _) (I1.hok.fresh (Nat.le_refl _))
section
variable {tg:Expr}
end
section
variable {st:Stmt} {sts:List Stmt} {is_ js:List S} {i_:S}
end
end
section
variable {C:Cf} {P:Pr} {N:Nat} {X:Cx} {e:Expr} {ia ib ic:E}
end
section
abbrev ltB:=W.Z.ltB
abbrev leB:=W.Z.leB
abbrev eqB:=W.Z.eqB
def boolB:Bool→Bool→Bool
  | true,b=>b
  | false,b=>!b
def w64 (i:Int):Bool:=match i with
  | .ofNat n=>Nat.blt n 18446744073709551616
  | .negSucc n=>Nat.blt n 18446744073709551615
def bAdd (v w:A) (h:Hs):R A:=match v with
  | .int i=>match w with
    | .int j=>zf (i+j) fun k=>.ok (.int k) h
    | _=>.no
  | .str a=>match w with
    | .str b=>match shortB (a++b) with
      | true=>.ok (.str (a++b)) h
      | false=>.no
    | _=>.no
  | .ref n=>match w with
    | .ref m=>match h.get n with
      | some (.lst xs)=>match h.get m with
        | some (.lst ys)=>mkLst h (xs++ys)
        | _=>.no
      | _=>.no
    | _=>.no
  | _=>.no
def bSub (v w:A) (h:Hs):R A:=match v with
  | .int i=>match w with
    | .int j=>zf (i-j) fun k=>.ok (.int k) h
    | _=>.no
  | _=>.no
def bAddI (v w:A) (h:Hs):R A:=match v with
  | .int i=>match w with
    | .int j=>zf (i+j) fun k=>.ok (.int k) h
    | _=>.no
  | _=>.no
def bMul (v w:A) (h:Hs):R A:=match v with
  | .int i=>match w with
    | .int j=>match w64 i with
      | true=>zf (i * j) fun k=>.ok (.int k) h
      | false=>match w64 j with
        | true=>zf (i * j) fun k=>.ok (.int k) h
        | false=>.no
    | _=>.no
  | _=>.no
def posB (j:Int):Bool:=match j with
  | .ofNat (_+1)=>true
  | _=>false
def bMod (v w:A) (h:Hs):R A:=match v with
  | .int i=>match w with
    | .int j=>match posB j with
      | true=>zf (i % j) fun k=>.ok (.int k) h
      | false=>.no
    | _=>.no
  | .res k r=>match w with
    | .int j=>match eqB j (.ofNat k) with
      | true=>.ok (.int (.ofNat r)) h
      | false=>.no
    | _=>.no
  | _=>.no
def bFdiv (v w:A) (h:Hs):R A:=match v with
  | .int i=>match w with
    | .int j=>match posB j with
      | true=>match ltB j (.ofNat 1073741824) with
        | true=>zf (i / j) fun k=>.ok (.int k) h
        | false=>.no
      | false=>.no
    | _=>.no
  | _=>.no
def bCmp (p:Int→Int→Bool) (v w:A) (h:Hs):R A:=match v with
  | .int i=>match w with
    | .int j=>.ok (.bl (p i j)) h
    | _=>.no
  | _=>.no
section
variable {C:Cf} {ρ:List Addr} {h:Hs} {H:Hp} {v w:A} {x y:V} {Q:VK} {X:Cx}
end
end
section
inductive Dt where
  | non | bl (b:Bool) | int (i:Int) | str (cs:List Nat) | seq (tup:Bool) (xs:List Dt)
def cpsB:List Nat→Bool
  | []=>true
  | c :: r=>match Nat.blt c 1114112 with
    | true=>cpsB r
    | false=>false
def seqOf (h:Hs) (n:Nat):Option (Bool×List A):=match h.get n with
  | some (.lst xs)=>some (false,xs)
  | some (.tup xs)=>some (true,xs)
  | some (.stat xs)=>some (true,xs)
  | some (.rl xs)=>some (false,xs)
  | _=>none
def mapO {α β:Type} (f:α→Option β):List α→Option (List β)
  | []=>some []
  | a :: r=>match f a with
    | some b=>match mapO f r with
      | some bs=>some (b :: bs)
      | none=>none
    | none=>none
def toD:Nat→Hs→A→Option Dt
  | 0,_,_=>none
  | f+1,h,v=>match v with
    | .non=>some .non
    | .bl b=>some (.bl b)
    | .int i=>some (.int i)
    | .str cs=>match cpsB cs with
      | true=>some (.str cs)
      | false=>none
    | .ref n=>match seqOf h n with
      | some (t,xs)=>match mapO (toD f h) xs with
        | some ds=>some (.seq t ds)
        | none=>none
      | none=>none
    | .res _ _=>none
def allB {α:Type} (f:α→α→Bool):List α→List α→Bool
  | [],[]=>true
  | a :: r,b :: s=>match f a b with
    | true=>allB f r s
    | false=>false
  | _,_=>false
def intB (a:Bool) (j:Int):Bool:=match a with
  | true=>eqB (.ofNat 1) j
  | false=>eqB (.ofNat 0) j
def eqd:Nat→Dt→Dt→Bool
  | 0,_,_=>false
  | f+1,d,e=>match d with
    | .non=>match e with
      | .non=>true
      | _=>false
    | .bl a=>match e with
      | .bl b=>boolB a b
      | .int j=>intB a j
      | _=>false
    | .int i=>match e with
      | .int j=>eqB i j
      | .bl b=>intB b i
      | _=>false
    | .str a=>match e with
      | .str b=>natsB a b
      | _=>false
    | .seq t xs=>match e with
      | .seq u ys=>match boolB t u with
        | true=>allB (eqd f) xs ys
        | false=>false
      | _=>false
mutual
def Dt.py:Dt→PyData
  | .non=>.none
  | .bl b=>.bool b
  | .int i=>.int i
  | .str cs=>.str ⟨cs.toArray⟩
  | .seq true xs=>.tuple (Dt.pys xs)
  | .seq false xs=>.list (Dt.pys xs)
def Dt.pys:List Dt→List PyData
  | []=>[]
  | d :: r=>d.py :: Dt.pys r
end
section
variable {C:Cf} {ρ:List Addr} {h:Hs} {H:Hp} {v w:A} {x y:V} {Q:VK} {X:Cx}
def dEq (v w:A) (h:Hs):Option Bool:=match toD 20 h v with
  | some d=>match toD 20 h w with
    | some e=>some (eqd 20 d e)
    | none=>none
  | none=>none
def bEq (v w:A) (h:Hs):R A:=match dEq v w h with
  | some b=>.ok (.bl b) h
  | none=>.no
def bNe (v w:A) (h:Hs):R A:=match dEq v w h with
  | some b=>.ok (.bl (!b)) h
  | none=>.no
end
end
section
variable {C:Cf} {P:Pr} {N:Nat} {ρ:List Addr} {h:Hs} {H:Hp} {v w:A} {x y:V} {Q:VK} {X:Cx} {e:Expr} {ia ib ic:E}
def flatA:A→Bool
  | .ref _=>false
  | .res _ _=>false
  | _=>true
def eqA:A→A→Bool
  | .non,b=>match b with
    | .non=>true
    | _=>false
  | .bl a,b=>match b with
    | .bl b=>boolB a b
    | .int j=>intB a j
    | _=>false
  | .int i,b=>match b with
    | .int j=>eqB i j
    | .bl b=>intB b i
    | _=>false
  | .str a,b=>match b with
    | .str b=>natsB a b
    | _=>false
  | .ref _,_=>false
  | .res _ _,_=>false
def inA (v:A):List A→Bool
  | []=>false
  | a :: r=>match eqA a v with
    | true=>true
    | false=>inA v r
def allA (f:A→Bool):List A→Bool
  | []=>true
  | a :: r=>match f a with
    | true=>allA f r
    | false=>false
def inN (c:Nat):List Nat→Bool
  | []=>false
  | a :: r=>match Nat.beq c a with
    | true=>true
    | false=>inN c r
def bIn (neg:Bool) (v w:A) (h:Hs):R A:=match w with
  | .str z=>match v with
    | .str [c]=>.ok (.bl (match neg with | true=>!inN c z | false=>inN c z)) h
    | _=>.no
  | .ref n=>match seqOf h n with
    | some (_,xs)=>match flatA v with
      | true=>match allA flatA xs with
        | true=>.ok (.bl (match neg with | true=>!inA v xs | false=>inA v xs)) h
        | false=>.no
      | false=>.no
    | none=>.no
  | _=>.no
def isN:A→Bool
  | .non=>true
  | _=>false
def bIsN (neg:Bool) (v w:A) (h:Hs):R A:=match w with
  | .non=>.ok (.bl (match neg with | true=>!isN v | false=>isN v)) h
  | _=>.no
def ixA {α:Type} (xs:List α) (i:Int):Option α:=match i with
  | .ofNat n=>nth xs n
  | .negSucc n=>match Nat.blt n xs.length with
    | true=>nth xs (xs.length-(n+1))
    | false=>none
def bIx (v w:A) (h:Hs):R A:=match w with
  | .int i=>match v with
    | .ref n=>match seqOf h n with
      | some (_,xs)=>match ixA xs i with
        | some a=>.ok a h
        | none=>.no
      | none=>.no
    | .str cs=>match shortB cs with
      | true=>match ixA cs i with
        | some c=>.ok (.str [c]) h
        | none=>.no
      | false=>.no
    | _=>.no
  | _=>.no
def sIxN (n d:Nat):Option Int→Nat
  | none=>d
  | some i=>match i with
    | .ofNat k=>match Nat.ble k n with
      | true=>k
      | false=>n
    | .negSucc k=>n-(k+1)
def dropA {α:Type}:Nat→List α→List α
  | 0,l=>l
  | _+1,[]=>[]
  | n+1,_ :: r=>dropA n r
def takeA {α:Type}:Nat→List α→List α
  | 0,_=>[]
  | _+1,[]=>[]
  | n+1,a :: r=>a :: takeA n r
def cutA {α:Type} (xs:List α) (lo hi:Option Int):List α:=takeA (sIxN xs.length xs.length hi-sIxN xs.length 0 lo) (dropA (sIxN xs.length 0 lo) xs)
def slA (v:A) (lo hi:Option Int) (h:Hs):R A:=match v with
  | .ref n=>match lstAt h n with
    | some xs=>mkLst h (cutA xs lo hi)
    | none=>.no
  | .str cs=>match shortB cs with
    | true=>.ok (.str (cutA cs lo hi)) h
    | false=>.no
  | _=>.no
end
section
variable {C:Cf} {P:Pr} {N:Nat} {ρ:List Addr} {h:Hs} {H:Hp} {v w:A} {x y:V} {vs:List A} {xs:List V} {Q:VK} {X:Cx} {e:Expr} {ia ib ic:E}
def pLen (vs:List A) (h:Hs):R A:=match vs with
  | [.str cs]=>match shortB cs with
    | true=>nf cs.length fun n=>.ok (.int (.ofNat n)) h
    | false=>.no
  | [.ref n]=>match seqOf h n with
    | some (_,xs)=>nf xs.length fun n=>.ok (.int (.ofNat n)) h
    | none=>match h.get n with
      | some (.dic kvs)=>nf kvs.length fun n=>.ok (.int (.ofNat n)) h
      | _=>.no
  | _=>.no
def pLenS (vs:List A) (h:Hs):R A:=match vs with
  | [.ref n]=>match h.get n with
    | some (.set ks)=>nf ks.length fun n=>.ok (.int (.ofNat n)) h
    | _=>pLen vs h
  | _=>pLen vs h
def pList (vs:List A) (h:Hs):R A:=match vs with
  | [.ref n]=>match seqOf h n with
    | some (_,xs)=>mkLst h xs
    | none=>.no
  | _=>.no
def pTuple (vs:List A) (h:Hs):R A:=match vs with
  | [.ref n]=>match seqOf h n with
    | some (false,xs)=>mkTup h xs
    | some (true,_)=>.ok (.ref n) h
    | none=>.no
  | _=>.no
def boolsOf:List A→Option (List Bool)
  | []=>some []
  | .bl b :: r=>match boolsOf r with
    | some bs=>some (b :: bs)
    | none=>none
  | _ :: _=>none
def allT:List Bool→Bool
  | []=>true
  | true :: r=>allT r
  | false :: _=>false
def anyT:List Bool→Bool
  | []=>false
  | true :: _=>true
  | false :: r=>anyT r
def pBools (f:List Bool→Bool) (vs:List A) (h:Hs):R A:=match vs with
  | [.ref n]=>match lstAt h n with
    | some xs=>match boolsOf xs with
      | some bs=>.ok (.bl (f bs)) h
      | none=>.no
    | none=>.no
  | _=>.no
def isLst (v:A) (h:Hs):Bool:=match v with
  | .ref n=>match lstAt h n with
    | some _=>true
    | none=>false
  | _=>false
def onLst (v:A) (h:Hs) (k:List A→Option (A×List A)):R A:=match v with
  | .ref n=>match h.get n with
    | some (.lst xs)=>match k xs with
      | some (r,zs)=>match h.put n (.lst zs) with
        | some h'=>.ok r h'
        | none=>.no
      | none=>.no
    | _=>.no
  | _=>.no
def mAppend (v:A) (vs:List A) (h:Hs):R A:=match vs with
  | [y]=>onLst v h fun xs=>match shortB xs with
    | true=>some (.non,xs++[y])
    | false=>none
  | _=>.no
def mExtend (v:A) (vs:List A) (h:Hs):R A:=match vs with
  | [.ref m]=>match h.get m with
    | some (.lst ys)=>onLst v h fun xs=>match shortB (xs++ys) with
      | true=>some (.non,xs++ys)
      | false=>none
    | _=>.no
  | _=>.no
def mClear (v:A) (vs:List A) (h:Hs):R A:=match vs with
  | []=>onLst v h fun _=>some (.non,[])
  | _=>.no
def lastA:List A→Option (A×List A)
  | []=>none
  | [a]=>some (a,[])
  | a :: r=>match lastA r with
    | some (x,s)=>some (x,a :: s)
    | none=>none
def mPop (v:A) (vs:List A) (h:Hs):R A:=match vs with
  | []=>onLst v h lastA
  | _=>.no
def mPop0 (v:A) (vs:List A) (h:Hs):R A:=match vs with
  | [.int (.ofNat 0)]=>onLst v h fun xs=>match xs with
    | a :: r=>some (a,r)
    | []=>none
  | _=>.no
def setIx:List A→Nat→A→Option (List A)
  | [],_,_=>none
  | a :: r,i,v=>match i with
    | 0=>some (v :: r)
    | i+1=>match setIx r i v with
      | some r'=>some (a :: r')
      | none=>none
def placeI (n:Nat) (i:Int):Option Nat:=match i with
  | .ofNat k=>match Nat.blt k n with
    | true=>some k
    | false=>none
  | .negSucc k=>match Nat.blt k n with
    | true=>some (n-(k+1))
    | false=>none
def setL (o i v:A) (h:Hs):Option Hs:=match o with
  | .ref n=>match i with
    | .int k=>match h.get n with
      | some (.lst xs)=>match placeI xs.length k with
        | some j=>match setIx xs j v with
          | some ys=>h.put n (.lst ys)
          | none=>none
        | none=>none
      | _=>none
    | _=>none
  | _=>none
def uNot (v:A) (h:Hs):R A:=match v with
  | .bl z=>.ok (.bl (!z)) h
  | _=>.no
end
section
@[irreducible] def JE (C:Cf) (P:Pr) (N:Nat) (X:Cx) (e:Expr) (i:E):Prop:=PE X e (tE C P N i)
def isB (t c:Nat):Bool:=match Nat.beq t c with
  | true=>true
  | false=>match Nat.beq t 1 with
    | true=>Nat.beq c 2
    | false=>false
def tyN (h:Hs) (v:A):Option Nat:=match v with
  | .non=>some 0
  | .bl _=>some 1
  | .int _=>some 2
  | .str _=>some 3
  | .res _ _=>none
  | .ref n=>match h.get n with
    | some (.lst _)=>some 4
    | some (.rl _)=>some 4
    | some (.tup _)=>some 5
    | some (.stat _)=>some 5
    | some (.dic _)=>some 6
    | _=>none
def isiAny (t:Nat):List Nat→Bool
  | []=>false
  | c :: r=>match isB t c with
    | true=>true
    | false=>isiAny t r
def uIsi (cs:List Nat) (v:A) (h:Hs):R A:=match tyN h v with
  | some t=>.ok (.bl (isiAny t cs)) h
  | none=>.no
def neB {α:Type}:List α→Bool
  | []=>false
  | _ :: _=>true
def truA (v:A) (h:Hs):Option Bool:=match v with
  | .non=>some false
  | .bl b=>some b
  | .int i=>some (match eqB i (.ofNat 0) with
    | true=>false
    | false=>true)
  | .str cs=>match Nat.blt cs.length 100000 with
    | true=>some (neB cs)
    | false=>none
  | .ref n=>match seqOf h n with
    | some (_,xs)=>some (neB xs)
    | none=>match h.get n with
      | some (.dic kvs)=>some (neB kvs)
      | _=>none
  | .res _ _=>none
def uTru (v:A) (h:Hs):R A:=match truA v h with
  | some b=>.ok (.bl b) h
  | none=>.no
def digsN (n:Nat):List Nat:=nf (48+n / 10) fun a=>nf (48+n % 10) fun b=>nf (48+n) fun c=>match Nat.blt n 10 with
  | true=>[c]
  | false=>[a,b]
def txtA (v:A) (h:Hs):R A:=match v with
  | .str cs=>match Nat.blt cs.length 1000 with
    | true=>.ok (.str cs) h
    | false=>.no
  | .int (.ofNat n)=>match Nat.blt n 100 with
    | true=>.ok (.str (digsN n)) h
    | false=>.no
  | _=>.no
def uIsiO (c:Nat) (v:A) (h:Hs):R A:=match v with
  | .ref n=>match h.get n with
    | some (.ins c2 _)=>match Nat.beq c c2 with
      | true=>.ok (.bl true) h
      | false=>.no
    | _=>.no
  | _=>.no
def bDGet (v w:A) (h:Hs):R A:=match v with
  | .ref n=>match dicAt h n with
    | some kvs=>match keyA w with
      | some k=>match lookK kvs k with
        | some x=>.ok x h
        | none=>.no
      | none=>.no
    | none=>.no
  | _=>.no
def sameD (h:Hs) (v w:A):Bool:=match toD 12 h v with
  | some d=>match toD 12 h w with
    | some e=>eqd 12 d e
    | none=>false
  | none=>false
def hitsD (h:Hs) (kb:List (AK×A)):List (AK×A)→Bool
  | []=>true
  | p :: r=>match lookK kb p.1 with
    | some y=>match sameD h p.2 y with
      | true=>hitsD h kb r
      | false=>false
    | none=>false
def sameK (h:Hs) (v w:A):Bool:=match v with
  | .ref n=>match w with
    | .ref m=>match dicAt h n with
      | some ka=>match dicAt h m with
        | some kb=>match Nat.beq ka.length kb.length with
          | true=>hitsD h kb ka
          | false=>false
        | none=>false
      | none=>false
    | _=>false
  | _=>false
def bEqK (r:Bool) (v w:A) (h:Hs):R A:=match sameK h v w with
  | true=>.ok (.bl r) h
  | false=>.no
def sameX (h:Hs) (v w:A):Bool:=match sameD h v w with
  | true=>true
  | false=>sameK h v w
def bNeX (v w:A) (h:Hs):R A:=match v with
  | .ref n=>match w with
    | .ref m=>match lstAt h n with
      | some xs=>match lstAt h m with
        | some ys=>match allB (sameX h) xs ys with
          | true=>.ok (.bl false) h
          | false=>.no
        | none=>.no
      | none=>.no
    | _=>.no
  | _=>.no
def intsA:List A→Option (List Int)
  | []=>some []
  | .int i :: r=>match intsA r with
    | some is=>some (i :: is)
    | none=>none
  | _ :: _=>none
def sumZ:List Int→Int
  | []=>.ofNat 0
  | i :: r=>i+sumZ r
def pSum (vs:List A) (h:Hs):R A:=match vs with
  | [.ref n]=>match lstAt h n with
    | some xs=>match intsA xs with
      | some is=>zf (sumZ is) fun k=>.ok (.int k) h
      | none=>.no
    | none=>.no
  | _=>.no
def pMax2 (vs:List A) (h:Hs):R A:=match vs with
  | [.int i,.int j]=>match ltB i j with
    | true=>.ok (.int j) h
    | false=>.ok (.int i) h
  | _=>.no
def pMin2 (vs:List A) (h:Hs):R A:=match vs with
  | [.int i,.int j]=>match ltB j i with
    | true=>.ok (.int j) h
    | false=>.ok (.int i) h
  | _=>.no
def pStr (vs:List A) (h:Hs):R A:=match vs with
  | [v]=>txtA v h
  | _=>.no
def undig:List Nat→Nat
  | [c]=>c-48
  | [c,d]=>(c-48) * 10+(d-48)
  | _=>0
def pInt (vs:List A) (h:Hs):R A:=match vs with
  | [.str cs]=>nf (undig cs) fun n=>match Nat.blt n 100 with
    | true=>match natsB (digsN n) cs with
      | true=>.ok (.int (.ofNat n)) h
      | false=>.no
    | false=>.no
  | _=>.no
def pDictD (vs:List A) (h:Hs):R A:=match vs with
  | [.ref n]=>match dicAt h n with
    | some kvs=>match h.new (.dic kvs) with
      | some h1=>.ok (.ref h.n) h1
      | none=>.no
    | none=>.no
  | _=>.no
def dkeys:List (AK×A)→List A
  | []=>[]
  | p :: r=>keyV p.1 :: dkeys r
def pListD (vs:List A) (h:Hs):R A:=match vs with
  | [.ref n]=>match dicAt h n with
    | some kvs=>match h.new (.lst (dkeys kvs)) with
      | some h1=>.ok (.ref h.n) h1
      | none=>.no
    | none=>.no
  | _=>.no
def isDic (v:A) (h:Hs):Bool:=match v with
  | .ref n=>match h.get n with
    | some (.dic _)=>true
    | _=>false
  | _=>false
def isStr (v:A) (_:Hs):Bool:=match v with
  | .str _=>true
  | _=>false
def mGet2 (v:A) (vs:List A) (h:Hs):R A:=match v with
  | .ref n=>match vs with
    | [x,z]=>match h.get n with
      | some (.dic kvs)=>match keyA x with
        | some k=>match lookK kvs k with
          | some y=>.ok y h
          | none=>.ok z h
        | none=>.no
      | _=>.no
    | _=>.no
  | _=>.no
def mSetd (v:A) (vs:List A) (h:Hs):R A:=match v with
  | .ref n=>match vs with
    | [x,z]=>match h.get n with
      | some (.dic kvs)=>match keyA x with
        | some k=>match lookK kvs k with
          | some y=>match Nat.blt kvs.length 4096 with
            | true=>.ok y h
            | false=>.no
          | none=>match putD h n x z with
            | some h1=>.ok z h1
            | none=>.no
        | none=>.no
      | _=>.no
    | _=>.no
  | _=>.no
def mDClear (v:A) (vs:List A) (h:Hs):R A:=match v with
  | .ref n=>match vs with
    | []=>match h.get n with
      | some (.dic _)=>match h.put n (.dic []) with
        | some h1=>.ok .non h1
        | none=>.no
      | _=>.no
    | _=>.no
  | _=>.no
def preB:List Nat→List Nat→Bool
  | [],_=>true
  | _ :: _,[]=>false
  | a :: s,b :: r=>match Nat.beq a b with
    | true=>preB s r
    | false=>false
def splB (S:List Nat) (m:Nat):Nat→List Nat→List Nat→List (List Nat)
  | _,acc,[]=>[acc]
  | 0,acc,c :: r=>match preB S (c :: r) with
    | true=>acc :: splB S m m [] r
    | false=>splB S m 0 (acc++[c]) r
  | k+1,acc,_ :: r=>splB S m k acc r
def dropN:Nat→List Nat→List Nat
  | 0,l=>l
  | _+1,[]=>[]
  | n+1,_ :: r=>dropN n r
def parB (S:List Nat):List Nat→List Nat→Option (List Nat×List Nat)
  | _,[]=>none
  | acc,c :: r=>match preB S (c :: r) with
    | true=>some (acc,dropN S.length (c :: r))
    | false=>parB S (acc++[c]) r
def lowB:List Nat→Bool
  | []=>true
  | c :: r=>match Nat.blt c 256 with
    | true=>lowB r
    | false=>false
def sepB (cs:List Nat):Bool:=match cs with
  | []=>false
  | c :: r=>lowB (c :: r)
def strsA:List (List Nat)→List A
  | []=>[]
  | c :: r=>.str c :: strsA r
def ofStrs:List A→Option (List (List Nat))
  | []=>some []
  | .str c :: r=>match ofStrs r with
    | some cs=>some (c :: cs)
    | none=>none
  | _ :: _=>none
def joinB (S:List Nat):List (List Nat)→List Nat
  | []=>[]
  | [p]=>p
  | p :: q :: r=>p++(S++joinB S (q :: r))
def sumLen:List (List Nat)→Nat
  | []=>0
  | p :: r=>p.length+sumLen r
def mSplit (v:A) (vs:List A) (h:Hs):R A:=match v with
  | .str a=>match vs with
    | [.str b]=>match sepB b with
      | true=>match Nat.blt a.length 100000 with
        | true=>nf (b.length-1) fun m=>match h.new (.lst (strsA (splB b m 0 [] a))) with
          | some h1=>.ok (.ref h.n) h1
          | none=>.no
        | false=>.no
      | false=>.no
    | _=>.no
  | _=>.no
def mPart (v:A) (vs:List A) (h:Hs):R A:=match v with
  | .str a=>match vs with
    | [.str b]=>match sepB b with
      | true=>match Nat.blt a.length 100000 with
        | true=>match parB b [] a with
          | some (p,q)=>match h.new (.tup [.str p,.str b,.str q]) with
            | some h1=>.ok (.ref h.n) h1
            | none=>.no
          | none=>match h.new (.tup [.str a,.str [],.str []]) with
            | some h1=>.ok (.ref h.n) h1
            | none=>.no
        | false=>.no
      | false=>.no
    | _=>.no
  | _=>.no
def mJoin (v:A) (vs:List A) (h:Hs):R A:=match v with
  | .str a=>match vs with
    | [.ref n]=>match lstAt h n with
      | some xs=>match ofStrs xs with
        | some ps=>match Nat.blt (sumLen ps+ps.length * a.length) 100000 with
          | true=>.ok (.str (joinB a ps)) h
          | false=>.no
        | none=>.no
      | none=>.no
    | _=>.no
  | _=>.no
def setD (o i v:A) (h:Hs):Option Hs:=match o with
  | .ref n=>putD h n i v
  | _=>none
def uNeg (v:A) (h:Hs):R A:=match v with
  | .int i=>zf (-i) fun k=>.ok (.int k) h
  | _=>.no
def Un (f:Nat):A→Hs→R A:=match Nat.blt f 8 with
  | true=>match Nat.beq f 0 with
    | true=>uNot
    | false=>match Nat.beq f 7 with
      | true=>uNeg
      | false=>uIsi [f]
  | false=>match Nat.beq f 8 with
    | true=>uTru
    | false=>match Nat.beq f 9 with
      | true=>txtA
      | false=>match Nat.blt f 100 with
        | true=>uIsi [f / 10,f % 10]
        | false=>uIsiO (f-100)
def Bin:Nat→A→A→Hs→R A
  | 0=>bAdd
  | 1=>bSub
  | 2=>bEq
  | 3=>bNe
  | 4=>bCmp ltB
  | 5=>bCmp leB
  | 6=>bCmp fun i j=>ltB j i
  | 7=>bCmp fun i j=>leB j i
  | 8=>bIx
  | 9=>bIn false
  | 10=>bIn true
  | 11=>bIsN false
  | 12=>bIsN true
  | 13=>bMul
  | 14=>bMod
  | 15=>bFdiv
  | 16=>bAddI
  | 17=>bDGet
  | 18=>bEqK true
  | 19=>bEqK false
  | 20=>bNeX
  | _=>fun _ _ _=>.no
def Prim:Nat→List A→Hs→R A
  | 0=>pLen
  | 1=>pList
  | 2=>pTuple
  | 3=>pBools allT
  | 4=>pBools anyT
  | 5=>pLenS
  | 6=>pSum
  | 7=>pMax2
  | 8=>pMin2
  | 9=>pStr
  | 10=>pInt
  | 11=>pDictD
  | 12=>pListD
  | _=>fun _ _=>.no
def Meth:Nat→A→List A→Hs→R A
  | 0=>mAppend
  | 1=>mExtend
  | 2=>mClear
  | 3=>mPop
  | 4=>mPop0
  | 5=>mGet2
  | 6=>mSetd
  | 7=>mDClear
  | 8=>mSplit
  | 9=>mPart
  | 10=>mJoin
  | _=>fun _ _ _=>.no
def Ty:Nat→A→Hs→Bool
  | 0=>isLst
  | 1=>isLst
  | 2=>isLst
  | 3=>isLst
  | 4=>isLst
  | 5=>isDic
  | 6=>isDic
  | 7=>isDic
  | 8=>isStr
  | 9=>isStr
  | 10=>isStr
  | _=>fun _ _=>false
def Iset:Nat→A→A→A→Hs→Option Hs
  | 0=>setL
  | 1=>setD
  | _=>fun _ _ _ _=>none
def Sl:Nat→A→Option Int→Option Int→Hs→R A
  | 0=>slA
  | _=>fun _ _ _ _=>.no
def mkP (fs:Nat→Option Fd) (fc:Nat→Nat→Bool):Pr where
  un:=Un
  bin:=Bin
  prim:=Prim
  meth:=Meth
  iset:=Iset
  sl:=Sl
  fs:=fs
  ty:=Ty
  fc:=fc
section
variable {C:Cf} {fs:Nat→Option Fd} {fc:Nat→Nat→Bool} {N:Nat} {X:Cx} {a b c e:Expr} {es:List Expr} {ia ib ic:E} {ies:List E} {pos p pos' apos cpos spos:Pos} {st:Stmt} {sts:List Stmt} {i_:S} {is_ js:List S}
structure CmpX (C:Cf) (X:Cx) (op:CmpOp) (f:Nat):Prop where
  to:∃ r:R2,OpR X (compareOp op) r∧∀ ρ h H v w x y Q,HR C ρ h H→VR ρ v x→VR ρ w y→Fin C ρ Q (Bin f v w h)→r x y H Q
end
end
section
variable {C:Cf} {fs:Nat→Option Fd} {fc:Nat→Nat→Bool} {N:Nat} {X:Cx} {a b c e o:Expr} {es:List Expr} {ia ib ic:E} {ies:List E} {pos p pos' apos cpos spos:Pos} {st:Stmt} {sts:List Stmt} {i_:S} {is_ js:List S}
variable {k:Nat} {f cA:Addr} {fd:FuncData} {ps:List Str} {x m:Str} {fi ci:Nat} {d:Fd}
theorem tEs0 {σ:St} {H:Hp} {Q:List V→Hp→Prop} (q:tEs C (mkP fs fc) N [] σ H Q):tNil σ H Q:=by
  obtain⟨n,hn,ρ,h,l,R,L,F⟩:=q
  cases n with
  | zero=>exact F.elim
  | succ m=>exact FinL.ok (show FinL C ρ Q (.ok [] h) from F) R .nil
theorem qMeth0 {pl:Sem Bool} (hf:fs fi=some d) (hn:∀ k,C.fn k≠m) (ho:JE C (mkP fs fc) N X o ia) (c:Cls X.K (C.cl ci)) (hm:L2.Meth X.K (C.cl ci) m f) (F:FnOk X.prog X.w X.K X.mg X.base CX0 k f fd ps (spF C (mkP fs fc) N fi d.np)) (hr:Room k X.A) (hb:Binds X.K fd ps [])
    (ht:eval (.Call (.Attribute o m apos) [] [] pos) X.env=(do
      let ov ← eval o X.env
      standAt apos.atName
      let (f,first) ← holding [ov] (getMethod ov m pl)
      callWith pos f first (backTo pos (starEach [] X.env)) (backToKw pos (keywordEach [] X.env))):=by rfl):JE C (mkP fs fc) N X (.Call (.Attribute o m apos) [] [] pos) (.mcall ci fi ia []):=by
  with_unfolding_all exact (q_mcall (P:=(mkP fs fc)) (d:=d) (E:=E0) hf hn (pe_imp (pe_meth0 (pl:=pl) ho c hm F hr hb .nil pass0 ht) fun _ _ _ q=>tE_imp q))
where
  tE_imp {C:Cf} {fs:Nat→Option Fd} {fc:Nat→Nat→Bool} {N:Nat} {ia:E} {cl:Addr} {m:Str} {sp:Sp} {σ:St} {H:Hp} {Q:VK} (q:tMeth cl m sp [] E0 (tE C (mkP fs fc) N ia) (tEs C (mkP fs fc) N []) σ H Q):tMeth cl m sp [] E0 (tE C (mkP fs fc) N ia) tNil σ H Q:=by
    obtain⟨n,hn,ρ,h,l,R,L,F⟩:=q
    refine⟨n,hn,ρ,h,l,R,L,?_⟩
    cases e:(run (mkP fs fc) n).e ia l h with
    | no=>rw[e] at F;exact F
    | ex _ _=>rw[e] at F;exact F
    | ok v h1 =>
      rw[e] at F
      intro ρ' H' x p R' V
      obtain⟨a,dx,fs,h1,h2,h3,h4⟩:=F ρ' H' x p R' V
      exact⟨a,dx,fs,h1,h2,h3,tEs0 h4⟩
variable {tgE iterE elt:Expr} {ifs:List Expr} {scope:Scope} {own:List (Str×Nat)} {ow:List Nat} {tg:Tg} {it:It} {t:Option E}
end
section
variable {C:Cf} {fs:Nat→Option Fd} {fc:Nat→Nat→Bool} {N:Nat} {X:Cx} {st:Stmt} {ies:List E}
variable {pos px py pz pt pt2:Pos} {kt k2:Nat} {x y z:Str} {a b c:Expr}
end
section
def tyS:Nat→String
  | 0=>"NoneType"
  | 1=>"bool"
  | 2=>"int"
  | 3=>"str"
  | 4=>"list"
  | 5=>"tuple"
  | _=>"dict"
theorem kit_tab {K:W.Frag}:∀ t c:Nat,t≤6→1≤c→c≤6→W.kitOne K (.type (tyS t)) (.type (tyS c))=some (isB t c)
  | 0,1,_,_,_=>by kernel_rfl
  | 0,2,_,_,_=>by kernel_rfl
  | 0,3,_,_,_=>by kernel_rfl
  | 0,4,_,_,_=>by kernel_rfl
  | 0,5,_,_,_=>by kernel_rfl
  | 0,6,_,_,_=>by kernel_rfl
  | 1,1,_,_,_=>by kernel_rfl
  | 1,2,_,_,_=>by kernel_rfl
  | 1,3,_,_,_=>by kernel_rfl
  | 1,4,_,_,_=>by kernel_rfl
  | 1,5,_,_,_=>by kernel_rfl
  | 1,6,_,_,_=>by kernel_rfl
  | 2,1,_,_,_=>by kernel_rfl
  | 2,2,_,_,_=>by kernel_rfl
  | 2,3,_,_,_=>by kernel_rfl
  | 2,4,_,_,_=>by kernel_rfl
  | 2,5,_,_,_=>by kernel_rfl
  | 2,6,_,_,_=>by kernel_rfl
  | 3,1,_,_,_=>by kernel_rfl
  | 3,2,_,_,_=>by kernel_rfl
  | 3,3,_,_,_=>by kernel_rfl
  | 3,4,_,_,_=>by kernel_rfl
  | 3,5,_,_,_=>by kernel_rfl
  | 3,6,_,_,_=>by kernel_rfl
  | 4,1,_,_,_=>by kernel_rfl
  | 4,2,_,_,_=>by kernel_rfl
  | 4,3,_,_,_=>by kernel_rfl
  | 4,4,_,_,_=>by kernel_rfl
  | 4,5,_,_,_=>by kernel_rfl
  | 4,6,_,_,_=>by kernel_rfl
  | 5,1,_,_,_=>by kernel_rfl
  | 5,2,_,_,_=>by kernel_rfl
  | 5,3,_,_,_=>by kernel_rfl
  | 5,4,_,_,_=>by kernel_rfl
  | 5,5,_,_,_=>by kernel_rfl
  | 5,6,_,_,_=>by kernel_rfl
  | 6,1,_,_,_=>by kernel_rfl
  | 6,2,_,_,_=>by kernel_rfl
  | 6,3,_,_,_=>by kernel_rfl
  | 6,4,_,_,_=>by kernel_rfl
  | 6,5,_,_,_=>by kernel_rfl
  | 6,6,_,_,_=>by kernel_rfl
  | _,0,_,h,_=>by omega
  | _,c+7,_,_,h=>by omega
  | t+7,_,h,_,_=>by omega
inductive TyX (K:W.Frag) (H:Hp):V→Value→Prop where
  | of {x:V} {t:Value} (h:TyOf K H x t):TyX K H x t
  | tup {a:Addr} {ys:List V} (h:KTup K a ys):TyX K H (.ref a) (.type "tuple")
  | lst {a:Addr} {ys:List V} (h:KLst K a ys):TyX K H (.ref a) (.type "list")
section
variable {X:Cx} {pins:List (Addr×Obj)} {σ:St} {H:Hp} {s:Shared} {b:Bool} {Q:Value→Shared→Prop} {E:Value→Shared→Prop} {A':Around}
theorem kit_at {x:V} {u t:Value} (I:L2.Inv X pins σ H s) (rx:RelV x u) (ty:TyX X.K H x t) (ht:∃ T,t=.type T):∃ F,W.KitX X.K u t F∧F s.heap∧u≠.builtin "__main__.__loader__#opaque":=by
  cases ty with
  | tup h =>
    obtain⟨o,its,n,hk,hc,_⟩:=h
    cases rx
    exact⟨_,W.kitx_tuple,⟨o,I.kIn _ o hk,hc⟩,fun z=>nomatch z⟩
  | lst h =>
    obtain⟨o,its,n,hk,hc,_⟩:=h
    cases rx
    exact⟨_,W.kitx_list,⟨o,I.kIn _ o hk,hc⟩,fun z=>nomatch z⟩
  | of h =>
    cases h with
    | non=>cases (show u=Value.none from rx);exact⟨_,W.kitx_none,True.intro,fun z=>nomatch z⟩
    | bl y=>cases (show u=Value.bool y from rx);exact⟨_,W.kitx_bool,True.intro,fun z=>nomatch z⟩
    | int i=>obtain⟨t,q⟩:=(show ∃ t,u=Value.int i t from rx);cases q;exact⟨_,W.kitx_int,True.intro,fun z=>nomatch z⟩
    | str y=>obtain⟨t,q⟩:=(show ∃ t,u=Value.str y t from rx);cases q;exact⟨_,W.kitx_str,True.intro,fun z=>nomatch z⟩
    | flt y=>obtain⟨t,q⟩:=(show ∃ t,u=Value.float y t from rx);cases q;exact⟨_,W.kitx_float,True.intro,fun z=>nomatch z⟩
    | @lst a xs ea =>
      cases (show u=Value.ref a from rx)
      obtain⟨_,_,n,_,h1⟩:=(show ObjOk X.prog X.w H s.heap a (.lst xs) from I.hok a _ ea)
      exact⟨_,W.kitx_list,⟨_,h1,rfl⟩,fun z=>nomatch z⟩
    | @frz a ob xs ea =>
      cases (show u=Value.ref a from rx)
      obtain⟨_,_,_,n,_,h1⟩:=(show ObjOk X.prog X.w H s.heap a (.frz ob (.lst xs)) from I.hok a _ ea)
      exact⟨_,W.kitx_list,⟨_,h1,rfl⟩,fun z=>nomatch z⟩
    | @tup a xs ea =>
      cases (show u=Value.ref a from rx)
      obtain⟨_,_,_,p⟩:=(show ObjOk X.prog X.w H s.heap a (.tup xs) from I.hok a _ ea)
      obtain⟨o,h1,h2,_⟩:=p
      exact⟨_,W.kitx_tuple,⟨o,h1,h2⟩,fun z=>nomatch z⟩
    | @dK a kvs ea =>
      cases (show u=Value.ref a from rx)
      obtain⟨_,_,vs,_,p⟩:=(show ObjOk X.prog X.w H s.heap a (.dK kvs) from I.hok a _ ea)
      obtain⟨o,es,ep,h1,h2,_⟩:=p
      exact⟨_,W.kitx_dict,⟨o,h1,h2.1⟩,fun z=>nomatch z⟩
    | @dT a kvs ea =>
      cases (show u=Value.ref a from rx)
      obtain⟨_,_,xs,_,o,es,ep,h1,h2,_⟩:=(show ObjOk X.prog X.w H s.heap a (.dT kvs) from I.hok a _ ea)
      exact⟨_,W.kitx_dict,⟨o,h1,h2.1⟩,fun z=>nomatch z⟩
    | ins=>obtain⟨T,hT⟩:=ht;cases hT
def rIsi1 (K:W.Frag):List V→Hp→VK→Prop:=fun xs H Q=>∃ x T c b,xs=[x,.ty c]∧TyX K H x (.type T)∧W.kitOne K (.type T) (.type c)=some b∧Q (.bl b) H
theorem call_isi1:CallR X (.builtin "isinstance") (rIsi1 X.K):=by
  intro pins s σ H xs us Q I r h
  obtain⟨x,T,c,b,rfl,ty,k,q⟩:=h
  cases r with
  | cons r1 r2 =>
    cases r2 with
    | cons r2 r3 =>
      cases r3
      cases (show _=Value.type c from r2)
      obtain⟨F,Z,hF,hx⟩:=kit_at I r1 ty ⟨T,rfl⟩
      exact W.kia_one Z I.kIn hF k hx fun tk=>⟨.bl b,H,I.tok _,rfl,q⟩
def rIsi2 (K:W.Frag):List V→Hp→VK→Prop:=fun xs H Q=>∃ x T p c d b,xs=[x,.ref p]∧H p=some (.tup [.ty c,.ty d])∧TyX K H x (.type T)∧W.kitAny K (.type T) [.type c,.type d]=some b∧Q (.bl b) H
theorem call_isi2:CallR X (.builtin "isinstance") (rIsi2 X.K):=by
  intro pins s σ H xs us Q I r h
  obtain⟨x,T,p,c,d,b,rfl,hp,ty,k,q⟩:=h
  cases r with
  | cons r1 r2 =>
    cases r2 with
    | cons r2 r3 =>
      cases r3
      cases (show _=Value.ref p from r2)
      obtain⟨F,Z,hF,hx⟩:=kit_at I r1 ty ⟨T,rfl⟩
      obtain⟨_,its,rv,o,h1,h2,n,h3⟩:=(show ObjOk X.prog X.w H s.heap p (.tup [.ty c,.ty d]) from I.hok p _ hp)
      cases rv with
      | cons v1 v2 =>
        cases v2 with
        | cons v2 v3 =>
          cases v3
          cases (show _=Value.type c from v1)
          cases (show _=Value.type d from v2)
          obtain⟨oc,od,odt,osl⟩:=o
          cases (show oc=_ from h2)
          cases (show odt=_ from h3)
          exact W.kia_tup Z I.kIn hF h1 k hx fun tk=>⟨.bl b,H,I.tok _,rfl,q⟩
end
section
variable {C:Cf} {P:Pr} {N:Nat} {X:Cx} {e:Expr} {ia:E}
end
end
section
theorem paired_get {α β:Type} {F:α→β→Prop} {d:α} {d':β} (hd:F d d'):∀ {l:List α} {m:List β} (i:Nat),Paired F l m→F ((nth l i).getD d) ((nth m i).getD d')
  | _,_,_,.nil=>hd
  | _,_,0,.cons h _=>h
  | _,_,i+1,.cons _ t=>paired_get hd i t
theorem arr_paired {α β:Type} {F:α→β→Prop} {d:α} {d':β} (hd:F d d') {cs us ws:List α} {cs' us' ws':List β} (hc:Paired F cs cs') (hu:Paired F us us') (hw:Paired F ws ws'):∀ ar:List Ar,Paired F (arr d cs us ws ar) (arr d' cs' us' ws' ar)
  | []=>.nil
  | .p i :: r=>.cons (paired_get hd i hu) (arr_paired hd hc hu hw r)
  | .k j :: r=>.cons (paired_get hd j hw) (arr_paired hd hc hu hw r)
  | .d i :: r=>.cons (paired_get hd i hc) (arr_paired hd hc hu hw r)
def gOf {α:Type} (d:α) (cs:List α) (y:Ly) (us ws:List α):List α:=if us.length=y.np∧ws.length=y.nk then arr d cs us ws y.ar else []
structure KB (K:W.Frag) (fd:FuncData) (ps ks:List Str) (y:Ly) (cu:List Value) (cv:List V):Prop where
  pos:0 < ps.length
  rel:Vals cv cu
  to:∀ (s:Shared) (us ws:List Value),K.In s.heap→us.length=y.np→ws.length=y.nk→BindsTo s fd ⟨us,ks.zip ws⟩ (ps.zip (arr .none cu us ws y.ar))
theorem KB.kb {K:W.Frag} {fd:FuncData} {ps ks:List Str} {y:Ly} {cu:List Value} {cv:List V} (k:KB K fd ps ks y cu cv):KBinds K fd ps ks (gOf .none cu y) (gOf .non cv y) where
  to:=fun s us ws hK hl=>by
    unfold gOf at hl ⊢
    split at hl
    · rename_i h
      rw[if_pos h]
      exact k.to s us ws hK h.1 h.2
    · exact absurd hl (by have:=k.pos;simp;omega)
  rel:=fun {vs us zs ws} hv hz=>by
    unfold gOf
    rw[hv.length,hz.length]
    split
    · exact arr_paired (F:=RelV) (show RelV V.non Value.none from rfl) k.rel hv hz _
    · exact .nil
section
variable {X:Cx} {k:Nat} {f C:Addr} {fd:FuncData} {ps ks:List Str} {sp:Sp} {x m:Str} {p pos apos:Pos} {e o:Expr} {es:List Expr} {kws:List Keyword} {ta:TE} {t tk:TA} {g:List Value→List Value→List Value} {gV:List V→List V→List V}
def tMakeK (C:Addr) (sp:Sp) (gV:List V→List V→List V) (E:XK) (t tk:TA):TE:=fun σ H Q=>t σ H fun vs H1=>tk σ H1 fun zs H2=>∀ x dx,H2 x=none→H2 dx=none→dx≠x →
  sp (gV (.ref x :: vs) zs) (upd (upd H2 dx (.own x)) x (.ins C dx [])) (fun v H3=>v=.non∧Q (.ref x) H3) E
theorem run_makeK {pins:List (Addr×Obj)} {σ:St} {H:Hp} {s:Shared} {Q:VK} {us ws:List Value} {vs zs:List V} (M:Mk X.K C f) (F:FnOk X.prog X.w X.K X.mg X.base CX0 k f fd ps sp) (hr:Room (k+1) X.A) (hb:KBinds X.K fd ps ks g gV)
    (I:L2.Inv X pins σ H s) (r:Vals vs us) (rz:Vals zs ws)
    (h:∀ x dx,H x=none→H dx=none→dx≠x→sp (gV (.ref x :: vs) zs) (upd (upd H dx (.own x)) x (.ins C dx [])) (fun v H2=>v=.non∧Q (.ref x) H2) E0) :
    wpAny (model X.prog X.w) X.A (call (.ref C) us (ks.zip ws)) (EP X pins σ Q) X.xe s:=by
  have hq:=h (s.heap.objs.size+1) s.heap.objs.size (I.hok.fresh (Nat.le_succ _)) (I.hok.fresh (Nat.le_refl _)) (Nat.ne_of_lt (Nat.lt_succ_self _))
  have I2:=Inv.made (C:=C) I
  have r2:Vals (gV (V.ref (s.heap.objs.size+1) :: vs) zs) (g (Value.ref (s.heap.objs.size+1) :: us) ws):=hb.rel (.cons rfl r) rz
  have hl:(g (Value.ref (s.heap.objs.size+1) :: us) ws).length=ps.length:=by
    rw[← r2.length]
    exact F.len _ _ _ _ hq
  refine wpAny_call (make_map (f:=f) I.kIn M.makes M.init (beq_iff_eq.mp M.fn) (codeAny_mono (F.run _ X.stack _ _ ⟨Value.ref (s.heap.objs.size+1) :: us,ks.zip ws⟩ _ _ _ E0 (hr.make C us (ks.zip ws))
    (I2.env0.make C us (ks.zip ws)) (hb.to _ (Value.ref (s.heap.objs.size+1) :: us) ws I2.kIn hl) r2 hq) fun r s' hq'=>?_))
  cases r with
  | error e=>exact (show False from hq').elim
  | ok fl =>
    cases fl with
    | ret u =>
      obtain⟨v,H',I3,rv,ev,q3⟩:=I2.after hq'
      subst ev
      exact⟨rv,⟨V.ref (s.heap.objs.size+1),H',I3,rfl,q3⟩⟩
    | next=>exact False.elim hq'
    | brk=>exact False.elim hq'
    | cont=>exact False.elim hq'
theorem pe_makeK (M:Mk X.K C f) (F:FnOk X.prog X.w X.K X.mg X.base CX0 k f fd ps sp) (hr:Room (k+1) X.A) (hm:X.mg x=some (.ref C)) (hb:KBinds X.K fd ps ks g gV) (ha:PA X (e :: es) t) (hkw:PK X kws tk)
    (hg:Gl X x) (hall:(backToKw pos (keywordEach kws X.env)).all (·.1.isSome)=true) (hks:(backToKw pos (keywordEach kws X.env)).filterMap (·.1)=ks) (hdb:(x == ("__debug__":Str))=false) (he:starEach (e :: es) X.env=(false,eval e X.env) :: starEach es X.env)
    (hpl:((backTo pos (starEach (e :: es) X.env)).any (·.1) || (backToKw pos (keywordEach kws X.env)).any (·.1.isNone))=false):PE X (.Call (.Name x p) (e :: es) kws pos) (tMakeK C sp gV E0 t tk):=by
  intro pins s σ H Q I h
  refine wpAny_Call_Name_kw (ld_glob I hg hm ?_ hdb)
  refine W.callWith_KW (h₀:=X.base) I.ok.mod.kin M.kp hall (thn (ha pos pins s σ H _ I h) fun us s1 ⟨vs,H1,I1,r,q⟩=>?_) hpl he
  refine thn (hkw pos pins s1 σ H1 _ I1 q) fun ws s2 ⟨zs,H2,I2,rz,q2⟩=>⟨I2.kIn,?_⟩
  rw[hks]
  exact run_makeK M F hr hb I2 r rz q2
end
section
variable {C:Cf} {P:Pr} {N:Nat} {X:Cx} {e:Expr} {ia:E} {ies iks:List E} {y:Ly} {cv:List V}
abbrev DsOk (C:Cf) (ds:List A) (cv:List V):Prop:=∀ ρ,C.st <+: ρ→VRs ρ ds cv
end
end
section
variable {C:Cf} {fs:Nat→Option Fd} {fc:Nat→Nat→Bool} {N:Nat} {X:Cx} {a b c e o:Expr} {es:List Expr} {kws:List Keyword} {ia ib ic:E} {ies iks:List E} {pos p pos' apos cpos spos p2 p3 p4:Pos} {k:Nat} {f:Addr} {fd:FuncData} {ps ks:List Str} {x m:Str} {fi ci:Nat} {d:Fd} {y:Ly} {cu:List Value} {cv:List V}
structure ShOk (C:Cf) (fd:FuncData) (ps ks:List Str) (y:Ly):Prop where
  to:∃ cu cv,KB C.K fd ps ks y cu cv∧DsOk C y.ds cv
theorem tyB:∀ c:Nat,1≤c→c≤6→bootBuiltins (Str.ofString (tyS c))=some (.type (tyS c))
  | 1,_,_=>by decide +kernel
  | 2,_,_=>by decide +kernel
  | 3,_,_=>by decide +kernel
  | 4,_,_=>by decide +kernel
  | 5,_,_=>by decide +kernel
  | 6,_,_=>by decide +kernel
  | 0,h,_=>by omega
  | c+7,_,h=>by omega
end
end
end Ev
namespace Ev
noncomputable section
open PySem PySem.Spec PyProof.Rows L2
section
abbrev St:=L2.St
theorem compTurnS (elt target iter:Expr) (ifs:List Expr) (scope:Scope) (pos:Pos) (it acc:Value) (env:Env) :
    compTurn (.SetComp elt [⟨target,iter,ifs,0⟩] scope pos) 0 it acc env=(standAt iter.pos >>= fun _=>pyNext it >>= fun got=>match got with
      | none=>pure (.done .next)
      | some x=>letOwnedTupleGo target it x >>= fun _=>assign target env x >>= fun _ =>
        (forIn ifs true fun c r=>if r=true then do let ok ← isTrue c env (eval c env);pure (ForInStep.yield ok) else pure (ForInStep.yield r)) >>= fun good =>
          (if good=true then (eval elt env >>= fun x=>standAt elt.pos >>= fun _=>call (.builtin "set.add") [acc,x] >>= fun _=>pure ()) >>= fun _=>again (.compLoop (.SetComp elt [⟨target,iter,ifs,0⟩] scope pos) 0 it acc env)
          else again (.compLoop (.SetComp elt [⟨target,iter,ifs,0⟩] scope pos) 0 it acc env))):=by rfl
theorem compLoopS {prog:Program} {w:World} {A:Around} {R:Result→Shared→Prop} {s:Shared} {elt target iter:Expr} {ifs:List Expr} {scope:Scope} {pos:Pos} {it acc:Value} {env:Env} (I:Nat→Shared→Prop)
    (turn:∀ n s,I n s→wpAny (model prog w) A (pyNext it) (fun r s₁=>match r with
      | none=>R (.ok .next) s₁
      | some v=>wpAny (model prog w) A (letOwnedTupleGo target it v) (fun _ s₁'=>wpAny (model prog w) A (assign target env v) (fun _ s₂ =>
          wpAny (model prog w) A (forIn ifs true fun c r=>if r=true then do let ok ← isTrue c env (eval c env);pure (ForInStep.yield ok) else pure (ForInStep.yield r)) (fun ok s₃ =>
            if ok=true then wpAny (model prog w) A (eval elt env) (fun x s₄ =>
              wpAny (model prog w) A (call (.builtin "set.add") [acc,x]) (fun _ s₅=>∃ m,m < n∧I m s₅) (notedBy (model prog w) A env fun e s'=>R (.error e) s') s₄) (notedBy (model prog w) A env fun e s'=>R (.error e) s') s₃
            else ∃ m,m < n∧I m s₃) (notedBy (model prog w) A env fun e s'=>R (.error e) s') s₂) (notedBy (model prog w) A env fun e s'=>R (.error e) s') s₁') (notedBy (model prog w) A env fun e s'=>R (.error e) s') s₁) (notedBy (model prog w) A env fun e s'=>R (.error e) s') s)
    (n:Nat) (h:I n s) :
    codeAny (model prog w) A (.compLoop (.SetComp elt [⟨target,iter,ifs,0⟩] scope pos) 0 it acc env) R s:=by
  refine codeAny_loop rfl I (fun n s hI=>?_) n h
  show wpAny _ A ((compTurn (.SetComp elt [⟨target,iter,ifs,0⟩] scope pos) 0 it acc env).onRaise (fun x=>do noteFrame x env;theTreesLotGoes x)) _ _ s
  refine wpAny_noted ?_
  rw[compTurnS]
  refine wpAny_bind (wpAny_standAt (wpAny_bind (wpAny_mono (turn n s hI) (fun r s₁ h₁=>?_) fun _ _ h'=>h')))
  cases r with
  | none=>exact wpAny_pure h₁
  | some v =>
    refine wpAny_bind (wpAny_mono h₁ (fun _ s₁' h₁'=>?_) fun _ _ h'=>h')
    refine wpAny_bind (wpAny_mono h₁' (fun _ s₂ h₂=>wpAny_bind (wpAny_mono h₂ (fun ok s₃ h₃=>?_) fun _ _ h'=>h')) fun _ _ h'=>h')
    cases ok with
    | false=>exact wpAny_pure ⟨rfl,h₃⟩
    | true =>
      exact wpAny_bind (wpAny_bind (wpAny_mono h₃ (fun x s₄ h₄=>wpAny_bind (wpAny_standAt (wpAny_bind (wpAny_mono h₄ (fun _ s₅ h₅=>wpAny_pure (wpAny_pure ⟨rfl,h₅⟩)) fun _ _ h'=>h')))) fun _ _ h'=>h'))
section
variable {prog:Program} {w:World} {A:Around} {R:Result→Shared→Prop} {s:Shared}
theorem compStartS {el:Expr} {tgt itr:Expr} {tests:List Expr} {more:List Comprehension} {sco:Scope} {po:Pos} {walker acc:Value} {en:Env}
    (now:codeAny (model prog w) A (.compLoop (.SetComp el (⟨tgt,itr,tests,0⟩ :: more) sco po) 0 walker acc en) R s)
    (anew:wpAny (model prog w) A (pyIter walker) (fun wk st=>codeAny (model prog w) A (.compLoop (.SetComp el (⟨tgt,itr,tests,0⟩ :: more) sco po) 0 wk acc en) R st) (notedBy (model prog w) A en fun x st=>R (.error x) st) s) :
    codeAny (model prog w) A (.compStart (.SetComp el (⟨tgt,itr,tests,0⟩ :: more) sco po) 0 walker acc en) R s:=by
  apply codeAny_of_tree
  show wpAny _ _ (Sem.onRaise (compStart (.SetComp el (⟨tgt,itr,tests,0⟩ :: more) sco po) 0 walker acc en) fun x=>do noteFrame x en;standAt theWindowsPlace) _ _ _
  apply wpAny_notedAt
  rw[compStart]
  show wpAny _ _ (ask >>= _) _ _ _
  apply wpAny_bind
  apply wpAny_askSetting
  apply wpAny_ite
  split
  · exact wpAny_pure ⟨rfl,now⟩
  · apply wpAny_bind
    apply wpAny_rule
    show wpAny _ _ (standAt itr.pos >>= _) _ _ _
    exact wpAny_bind (wpAny_standAt (wpAny_bind (wpAny_mono anew (fun wk st k=>wpAny_pure ⟨rfl,k⟩) fun _ _ k=>k)))
end
section
variable {X:Cx}
def addK (ks:List Key) (k:Key):List Key:=if inK ks k=true then ks else ks++[k]
theorem inK_add (ks:List Key) (k k':Key):inK (addK ks k) k'=(inK ks k' || decide (k'=k)):=by
  unfold addK
  split
  · rename_i h
    by_cases q:k'=k
    · subst q;rw[h];rfl
    · rw[decide_eq_false q,Bool.or_false]
  · unfold inK
    rw[List.any_append]
    congr 1
    show (decide (k=k') || false)=decide (k'=k)
    rw[Bool.or_false,Bool.eq_iff_iff,decide_eq_true_iff,decide_eq_true_iff]
    exact⟨Eq.symm,Eq.symm⟩
theorem setOf_congr {P:Program} {w:World} {h:Heap} {a:Addr} {S S':Key→Bool} {n n':Nat} (e:∀ k,S k=S' k) (en:n=n') (x:h.SetOf (mixKind P w) a S n):h.SetOf (mixKind P w) a S' n':=by
  have : S=S':=funext e
  subst this
  subst en
  exact x
theorem setK_ok {P:Program} {w:World} {H:Hp} {h:Heap} {a:Addr} {ks:List Key} {S:Key→Bool} (x:h.SetOf (mixKind P w) a S ks.length) (e:∀ k,S k=inK ks k):ObjOk P w H h a (SetK P w a ks):=by
  have x:=setOf_congr e rfl x
  refine⟨x,let ⟨o,_,_,_,ho,_⟩:=x;⟨o,ho⟩,fun h1 h2 ⟨o,es,ep,t,ho,r⟩ k=>⟨o,es,ep,t,k _ ho,r⟩⟩
theorem scan_key {k:Key} {u:Value} (r:RelV (kV k) u):(mixKind X.prog X.w).is k u=true∧u.scannable=true:=by
  cases k with
  | inl i=>obtain⟨t,rfl⟩:=r;exact⟨keyIs_int i t,rfl⟩
  | inr x=>obtain⟨t,rfl⟩:=r;exact⟨keyIs_str x t,rfl⟩
theorem add_ok {pins:List (Addr×Obj)} {σ:St} {H:Hp} {s:Shared} {E:Value→Shared→Prop} {D:Addr} {ks:List Key} {k:Key} {u:Value} {Q:Value→Shared→Prop} (I:L2.Inv X pins σ H s) (hD:H D=some (SetK X.prog X.w D ks)) (hz:ks.length+1 < scanBound) (r:RelV (kV k) u)
    (h:∀ s',L2.Inv X pins σ (L2.upd H D (SetK X.prog X.w D (addK ks k))) s'→Q .none s'):wpAny (model X.prog X.w) X.A (call (.builtin "set.add") [.ref D,u]) Q E s:=by
  obtain⟨x,_,_⟩:=(show ObjOk X.prog X.w H s.heap D (SetK X.prog X.w D ks) from I.hok D _ hD)
  obtain⟨k1,k2⟩:=scan_key (X:=X) r
  refine call_set_add k1 k2 x hz fun h' sb hS=>?_
  refine h { s with heap:=h',toks:=s.toks+1 } (I.write (t':=s.toks+1) (by rw[hD];trivial) (.inl rfl) (fun b u hb q=>(sb.2 b hb).trans q) (let ⟨o,_,_,_,ho,_⟩:=hS;⟨o,ho⟩) ?_)
  refine setK_ok (setOf_congr (fun _=>rfl) ?_ hS) fun k'=>(inK_add ks k k').symm
  unfold addK
  split
  · rfl
  · rw[List.length_append];rfl
def tSc (P:Program) (w:World) (wi:TI) (g:TG) (tt:TT) (te:TE) (vs:List Nat):TE:=fun σ H Q=>wi σ H fun J H1=>∀ D,H1 D=none→∃ W:Nat→Nat→Hp→Prop,(∃ m,W 0 m (L2.upd H1 D (SetK P w D [])))∧∀ i m H,W i m H →
  (J.stop i H∧Q (.ref D) H)∨(J.go i H∧∃ Nx:Hp→Prop,(∀ H',Nx H'→∃ m',m' < m∧W (i+1) m' H')∧∀ x H',J.yld i H x H'→g x (wipe σ vs) H' fun σ2 H2=>wipe σ2 vs=wipe σ vs∧tt σ2 H2 fun b H3 =>
    if b=true then te σ2 H3 fun y H4=>∃ acc k,H4 D=some (SetK P w D acc)∧y=kV k∧acc.length+1 < scanBound∧Nx (L2.upd H4 D (SetK P w D (addK acc k))) else Nx H3)
theorem sc_core {pins:List (Addr×Obj)} {s:Shared} {σ:St} {H:Hp} {Q:VK} {elt tg iter:Expr} {ifs:List Expr} {scope:Scope} {own:List (Str×Nat)} {pos pos':Pos} {wi:TI} {g:TG} {tt:TT} {te:TE} {use:Option (Value→Sem Unit)} {Qf:Value→Shared→Prop}
    (hc:X.calm=true) (hN:X.N.Nodup) (I:L2.Inv X pins σ H s) (hi:PI X tg iter wi) (ok:BlkOk X.N X.env.scope scope own)
    (hg:∀ (s:Shared) (H:Hp) (C:Addr) (cl:List (Str×Addr)) (fp:List Addr),PG (X.blk s H scope (compEnvC scope cl C X.env) fp) tg g) (ht:∀ (s:Shared) (H:Hp) (C:Addr) (cl:List (Str×Addr)) (fp:List Addr),PTs (X.blk s H scope (compEnvC scope cl C X.env) fp) ifs tt)
    (he:∀ (s:Shared) (H:Hp) (C:Addr) (cl:List (Str×Addr)) (fp:List Addr),PE (X.blk s H scope (compEnvC scope cl C X.env) fp) elt te) (hs:∀ x,foldedSetIterable iter X.env x=pure x)
    (h:tSc X.prog X.w wi g tt te (own.map (·.2)) σ H Q)
    (hRR:∀ D C s' m H',L2.Inv X pins σ H' s'→Q (.ref D) H'→s'.heap.Ns C m→FpOk X pins H' C→compPost (model X.prog X.w) X.A X.xe use Qf (.ref D) C (.ok .next) s') :
    wpAny (model X.prog X.w) X.A (comprehension (.SetComp elt [⟨tg,iter,ifs,0⟩] scope pos) scope X.env pos' (newSet (.type "set")) false (eval iter X.env) use) Qf X.xe s:=by
  have hfree:∀ y∈scope.names,y.2=.free→∃ c,X.env.cells.lookup y.1=some c:=fun y hy e=>by
    rcases ok.free y hy e with k | k
    · exact I.ok.has _ (.inl k)
    · exact I.ok.has _ (.inr k)
  refine wpAny_comprehension_free (use:=use) rfl hs (closure_ok hfree) ok.kind (fun y hy e=>by rw[ok.uniq y hy,e])
    (thn (hi pins s σ H _ I h) fun xv s1 hx=>thn hx fun itv s2 h2=>?_)
  obtain⟨it,fp,tn,J,H2,e,I2,T,st2,f2,q⟩:=h2
  subst e
  refine wpAny_newSet_of (knd:=mixKind X.prog X.w) fun led hS0=>newEnv_comp ?_
  generalize hD:s2.heap.objs.size=D
  have hDn:H2 D=none:=I2.hok.fresh (Nat.le_of_eq hD)
  obtain⟨W,⟨m0,w0⟩,turn⟩:=q D hDn
  generalize hs3:({ s2 with heap:=s2.heap.push { cls:=.type "set",dict:=none,data:=.set #[] 0 (.fresh 0 0 led) } }:Shared)=s3
  have I3:L2.Inv X pins σ (L2.upd H2 D (SetK X.prog X.w D [])) s3:=by
    rw[← hs3]
    refine I2.laid (t':=s2.toks) (fun b o e=>Heap.get?_push_of_some _ e) (Nat.le_of_eq hD) (setK_ok (S:=fun _=>false) ?_ ?_)
    · rw[← hD];exact hS0
    · exact fun k=>rfl
  have h3:s3.heap=s2.heap.push { cls:=.type "set",dict:=none,data:=.set #[] 0 (.fresh 0 0 led) }:=by rw[← hs3]
  have sz:∀ b∈fp,b < s2.heap.objs.size:=fun b hb=>by
    obtain⟨o,e,_⟩:=T.obj _ _ st2 b hb
    exact Heap.lt_size e
  have f3:∀ b∈fp,FpOk X pins (L2.upd H2 D (SetK X.prog X.w D [])) b∧b < s3.heap.objs.size:=fun b hb=>by
    have hlt:=sz b hb
    refine⟨⟨?_,(f2 b hb).2⟩,by rw[h3,Heap.size_push];exact Nat.lt_succ_of_lt hlt⟩
    rw[upd_ne (by rw[← hD];exact Nat.ne_of_lt hlt)]
    exact (f2 b hb).1
  have st3:tn 0 s3.heap:=T.keep _ _ _ st2 fun b _ o e=>by rw[h3];exact Heap.get?_push_of_some _ e
  have I4:=block_start I3 ok hN f3
  have pg:=hg s3 (L2.upd H2 D (SetK X.prog X.w D [])) s3.heap.objs.size (cellsFrom (s3.heap.objs.size+1) scope.names (cloFrom X.env.cells scope.names [])) fp
  have pt:=ht s3 (L2.upd H2 D (SetK X.prog X.w D [])) s3.heap.objs.size (cellsFrom (s3.heap.objs.size+1) scope.names (cloFrom X.env.cells scope.names [])) fp
  have pe:=he s3 (L2.upd H2 D (SetK X.prog X.w D [])) s3.heap.objs.size (cellsFrom (s3.heap.objs.size+1) scope.names (cloFrom X.env.cells scope.names [])) fp
  show codeAny _ _ (.compStart (.SetComp elt [⟨tg,iter,ifs,0⟩] scope pos) 0 (.ref it) (.ref D) (compEnvC scope (cellsFrom (s3.heap.objs.size+1) scope.names (cloFrom X.env.cells scope.names [])) s3.heap.objs.size X.env)) (compPost (model X.prog X.w) X.A X.xe use Qf (.ref D) s3.heap.objs.size) { s3 with heap:=pushCells (s3.heap.push { cls:=.type "dict",data:=.dict #[] }) scope.names }
  have nfp:∀ b∈fp,(L2.upd H2 D (SetK X.prog X.w D [])) b=none:=fun b hb=>(f3 b hb).1.1
  generalize hce:compEnvC scope (cellsFrom (s3.heap.objs.size+1) scope.names (cloFrom X.env.cells scope.names [])) s3.heap.objs.size X.env=ce at I4 pg pt pe ⊢
  have cL:ce.locals=s3.heap.objs.size:=by subst hce;rfl
  generalize hH3:L2.upd H2 D (SetK X.prog X.w D [])=H3 at I3 I4 pg pt pe w0 nfp f3
  generalize hs4:({ s3 with heap:=pushCells (s3.heap.push { cls:=.type "dict",data:=.dict #[] }) scope.names }:Shared)=s4 at I4 ⊢
  have st4:tn 0 s4.heap:=T.keep _ _ _ st3 fun b _ o e=>by rw[← hs4];exact pushCells_keeps _ _ _ _ (Heap.get?_push_of_some _ e)
  have stat:∀ {σ':St} {H':Hp} {s':Shared},L2.Inv (X.blk s3 H3 scope ce fp) [] σ' H' s'→(∀ b∈fp,H' b=none)→∀ b∈fp,FpOk (X.blk s3 H3 scope ce fp) [] H' b:=fun {σ' H' s'} I' hn b hb =>
    ⟨hn b hb,(I'.ok.exf b hb).1,I'.ok.exfs b hb,.inl hb,fun x c e=>(I'.ok.exf b hb).2 x c e,fun p hp=>absurd (show p∈([]:List (Addr×Obj))++[] from hp) (by simp)⟩
  have loop:codeAny (model X.prog X.w) X.A (.compLoop (.SetComp elt [⟨tg,iter,ifs,0⟩] scope pos) 0 (.ref it) (.ref D) ce) (compPost (model X.prog X.w) X.A X.xe use Qf (.ref D) s3.heap.objs.size) s4:=by
    refine compLoopS (fun n s'=>∃ i H',L2.Inv (X.blk s3 H3 scope ce fp) [] (wipe σ (own.map (·.2))) H' s'∧tn i s'.heap∧(∀ b∈fp,H' b=none)∧W i n H') ?_ m0 ⟨0,H3,I4,st4,nfp,w0⟩
    rintro n s5 ⟨i,H5,I5,st5,n5,w5⟩
    rcases turn i n H5 w5 with ⟨stop,qq⟩ | ⟨go,Nx,hNx,step⟩
    · have td:=T.done (X.blk s3 H3 scope ce fp) rfl rfl rfl hc i [] s5 _ H5 (fun _ _=>False) I5 (stat I5 n5) st5 stop
      refine thnF td fun r s6 ⟨hr,I6⟩=>?_
      subst hr
      have I7:L2.Inv X pins σ H5 s6:=I3.call' (ch:=fp) I6.os I6.base I6.hok I6.bare fun b hb=>⟨(f3 b hb).1.2.2.2.1,(f3 b hb).1.2.1,(f3 b hb).1.2.2.2.2.1,(f3 b hb).1.2.2.2.2.2⟩
      have nC:H5 s3.heap.objs.size=none:=by
        have z:H5 ce.locals=none:=I6.free
        rw[cL] at z
        exact z
      obtain⟨m,hn,_⟩:=I6.loc
      have hn:s6.heap.Ns ce.locals m:=hn
      rw[cL] at hn
      exact hRR D s3.heap.objs.size s6 m H5 I7 qq hn (I3.fpOk (Nat.le_refl _) nC)
    · have ti:=T.item (X.blk s3 H3 scope ce fp) rfl rfl rfl hc i [] s5 _ H5 (fun _ _=>False) I5 (stat I5 n5) st5 go
      refine thnF ti fun r s6 ⟨u,hr,h6⟩=>?_
      subst hr
      refine thnF h6 fun _ s7 ⟨x,H7,I7,r7,y7,st7,n7⟩=>?_
      have I7':=I7.pinned (stat I7 n7) (T.obj _ _ st7)
      refine thnF (pg _ s7 _ H7 x u _ I7' r7 (step x H7 y7)) fun _ s8 ⟨σ8,H8,I8,hw8,q8⟩=>?_
      refine thnF (pt _ s8 σ8 H8 _ I8 q8) fun b s9 ⟨H9,I9,q9⟩=>?_
      have fin:∀ {s':Shared} {H':Hp},L2.Inv (X.blk s3 H3 scope ce fp) ([]++pinsAt fp s7.heap) σ8 H' s'→Nx H'→∃ m,m < n∧∃ i H',L2.Inv (X.blk s3 H3 scope ce fp) [] (wipe σ (own.map (·.2))) H' s'∧tn i s'.heap∧(∀ b∈fp,H' b=none)∧W i m H':=fun {s' H'} I' nx=>by
        obtain⟨m',hm,w'⟩:=hNx H' nx
        have pin':∀ b∈fp,∀ o,s7.heap.get? b=some o→s'.heap.get? b=some o∧H' b=none:=fun b hb o e =>
          let z:=I'.pin (b,o) (List.mem_append_right _ (List.mem_append_right _ (mem_pinsAt hb e)))
          ⟨z.1,z.2.1⟩
        have hl:(wipe σ (own.map (·.2))).length=σ8.length:=by rw[← hw8,wipe_length]
        refine⟨m',hm,i+1,H',(I'.unpinned (pins:=[])).weak hl (fun j v e=>?_),T.keep _ _ _ st7 fun b hb o e=>(pin' b hb o e).1,fun b hb=>?_,w'⟩
        · rw[← hw8] at e
          exact (wipe_some e).1
        · obtain⟨o,e,_⟩:=T.obj _ _ st7 b hb
          exact (pin' b hb o e).2
      cases b with
      | false =>
        simp only[Bool.false_eq_true,if_false] at q9 ⊢
        exact fin I9 q9
      | true =>
        simp only[if_true] at q9 ⊢
        refine thnF (pe _ s9 σ8 H9 _ I9 q9) fun z s10 ⟨yv,H10,I10,r10,acc,kk,hD10,hk10,hz10,nx⟩=>?_
        exact add_ok (X:=X.blk s3 H3 scope ce fp) I10 hD10 hz10 (hk10 ▸ r10) fun s11 I11=>fin I11 nx
  exact compStartS loop (T.self X.A 0 _ _ _ st4 loop)
theorem pe_sc {elt tg iter:Expr} {ifs:List Expr} {scope:Scope} {own:List (Str×Nat)} {pos:Pos} {wi:TI} {g:TG} {tt:TT} {te:TE} (hc:X.calm=true) (hN:X.N.Nodup) (hi:PI X tg iter wi) (ok:BlkOk X.N X.env.scope scope own)
    (hg:∀ (s:Shared) (H:Hp) (C:Addr) (cl:List (Str×Addr)) (fp:List Addr),PG (X.blk s H scope (compEnvC scope cl C X.env) fp) tg g) (ht:∀ (s:Shared) (H:Hp) (C:Addr) (cl:List (Str×Addr)) (fp:List Addr),PTs (X.blk s H scope (compEnvC scope cl C X.env) fp) ifs tt)
    (he:∀ (s:Shared) (H:Hp) (C:Addr) (cl:List (Str×Addr)) (fp:List Addr),PE (X.blk s H scope (compEnvC scope cl C X.env) fp) elt te) (hs:∀ x,foldedSetIterable iter X.env x=pure x:=by intro _;rfl) :
    PE X (.SetComp elt [⟨tg,iter,ifs,0⟩] scope pos) (tSc X.prog X.w wi g tt te (own.map (·.2))):=by
  intro pins s σ H Q I h
  rw[arm_eval_SetComp]
  refine sc_core hc hN I hi ok hg ht he hs h fun D C s' m H' I' q hn f=>⟨m,hn,fun h'' sb=>?_⟩
  obtain⟨f0,f1,f2,f3,f4,f5⟩:=f
  exact⟨.ref D,H',I'.turned (t':=s'.toks) (fun b o hb e=>(sb.2 b hb).trans e) f0 f1 f3 f4 f5,rfl,q⟩
end
end
end
end Ev
namespace Ev
noncomputable section
open PySem PySem.Spec L2
section
variable {C:Cf} {P:Pr} {N:Nat} {X:Cx} {e:Expr} {ia ib ic:E}
theorem call_lenS:CallR X (.builtin "len") (fun xs H Q=>∃ a ks,xs=[V.ref a]∧H a=some (SetK X.prog X.w a ks)∧Q (.int ks.length) H):=by
  intro pins s σ H xs us Q I r h
  obtain⟨a,ks,rfl,ha,q⟩:=h
  cases r with
  | cons r1 r2 =>
    cases r2
    cases (show _=Value.ref a from r1)
    obtain⟨⟨o,es,ep,t,ho,hex,hd,_,_,hb,hf,hn⟩,_,_⟩:=(show ObjOk X.prog X.w H s.heap a (SetK X.prog X.w a ks) from I.hok a _ ha)
    have hsb:scanBound=4096:=rfl
    refine call_len_set ho hex hd hf (by omega) ?_
    rw[hn]
    exact⟨.int ks.length,H,I.tok _,⟨_,rfl⟩,q⟩
def tStar (K:W.Frag) (te:TE) (t:TA):TA:=fun σ H Q=>te σ H fun x H1=>∃ a ys,x=.ref a∧(SqL K H1 a ys∨SqT K H1 a ys)∧t σ H1 fun xs H2=>Q (ys++xs) H2
theorem noniter {prog:Program} {w:World} {A':Around} {E:Value→Shared→Prop} {s:Shared} {v:Value} {T id:String} {Q:Bool→Shared→Prop} (hT:s.TypeIs v T) (hs:Slot T "__iter__" id) (h:Q false s):wpAny (model prog w) A' (notIterableAtAll v) Q E s:=by
  unfold notIterableAtAll
  refine wpAny_bind (wpAny_specialOf hT hs.lookup ?_)
  exact wpAny_pure h
theorem pa_star {es:List Expr} {te:TE} {t:TA} {p:Pos} (ha:PE X e te) (hr:PA X es t) (hs:starEach (.Starred e p :: es) X.env=(true,eval e X.env) :: starEach es X.env:=by rfl):PA X (.Starred e p :: es) (tStar X.K te t):=by
  intro pos pins s σ H Q I h
  rw[hs]
  show wpAny _ _ (spliced ((true,do let v ← eval e X.env;standAt pos;pure v) :: backTo pos (starEach es X.env))) _ _ s
  rw[spliced]
  refine wpAny_bind (wpAny_bind (thn (ha pins s σ H _ I h) fun u s1 ⟨x,H1,I1,r1,a,ys,ex,hq,q1⟩=>wpAny_bind (wpAny_standAt (wpAny_pure ?_))))
  subst ex
  cases (show u=Value.ref a from r1)
  simp only[if_true]
  have fin:∀ {its:List Value} {h':Heap},(∀ b o',s1.heap.get? b=some o'→h'.get? b=some o')→Vals ys its →
      wpAny (model X.prog X.w) X.A (do pure (its++(← holding its (spliced (backTo pos (starEach es X.env)))))) (AP X pins σ Q) X.xe { s1 with heap:=h' }:=fun {its h'} hk rv =>
    wpAny_bind (wpAny_holding (thn (hr pos pins _ σ H1 _ (I1.kept (t':=s1.toks) hk) q1) fun us s2 ⟨xs,H2,I2,r2,q2⟩=>wpAny_pure ⟨ys++xs,H2,I2,rv.append r2,q2⟩))
  rcases hq with hq | hq
  · obtain⟨its,rv,⟨o,n,ho,hc,hd,hs'⟩,hz⟩:=I1.list hq
    refine wpAny_bind (noniter (v:=.ref a) (T:="list") (s:=s1) ⟨o,ho,hc⟩ PySem.F.slot_list_iter ?_)
    simp only[Bool.false_eq_true,if_false]
    have hl:=rv.length
    exact wpAny_bind (wpAny_collect_seq a (.inl rfl) ho hc hs' (fun h' hk=>fin (its:=its) hk rv) (by rw[List.size_toArray];omega))
  · obtain⟨its,rv,⟨o,ho,hc,n,hs'⟩,hz⟩:=I1.tuple hq
    refine wpAny_bind (noniter (v:=.ref a) (T:="tuple") (s:=s1) ⟨o,ho,hc⟩ PySem.F.slot_tuple_iter ?_)
    simp only[Bool.false_eq_true,if_false]
    have hl:=rv.length
    exact wpAny_bind (wpAny_collect_seq a (.inr rfl) ho hc hs' (fun h' hk=>fin (its:=its) hk rv) (by rw[List.size_toArray];omega))
end
section
variable {C:Cf} {fs:Nat→Option Fd} {fc:Nat→Nat→Bool} {N:Nat} {X:Cx} {a b c e o:Expr} {es:List Expr} {ia ib ic:E} {ies:List E} {pos p:Pos}
variable {tgE iterE elt:Expr} {ifs:List Expr} {scope:Scope} {own:List (Str×Nat)} {ow:List Nat} {tg:Tg} {it:It} {t:Option E}
end
end
end Ev
namespace Ev
noncomputable section
open PySem PySem.Spec L2 PyProof.Rows
section
theorem sub_ri_reversed:isSubtype (.type "range_iterator") (.type "reversed")=pure false:=by rw[isSubtype_type];kernel_rfl
def rvObj (n:Int):Obj:={ cls:=.type "range_iterator",data:=.fields #[rawInt (0+(Builtin.Range.rangeSize 0 n 1-1) * 1),rawInt (Builtin.Range.rangeSize 0 n 1),rawInt (-1)] }
theorem fits {n:Int} (h1:-(2 ^ 62)≤n) (h2:n < 2 ^ 62):(Builtin.Range.rangeFitsLong 0 && Builtin.Range.rangeFitsLong n && Builtin.Range.rangeFitsLong 1 && Builtin.Range.rangeFitsLong (-1) && Builtin.Range.rangeFitsLong (0-1) && Builtin.Range.rangeFitsLong (Builtin.Range.rangeSize 0 n 1))=true:=by
  rw[rangeSize_one]
  simp only[Builtin.Range.rangeFitsLong,Bool.and_eq_true,decide_eq_true_eq]
  split <;> omega
theorem meets_rr (r:Addr) (n:Int) (t u v:Tok) (h1:-(2 ^ 62)≤n) (h2:n < 2 ^ 62) :
    Meets (Builtin.«range.__reversed__» ⟨[.ref r],[]⟩) (fun _ R s=>s.heap.get? r=some { cls:=.type "range",dict:=none,data:=.fields #[.int 0 t,.int n u,.int 1 v],slots:=#[] }∧R (.ok (.ret (Value.ref s.heap.objs.size))) { s with heap:=s.heap.push (rvObj n),toks:=s.toks }) :=
  .of_wp fun prog w A R s h=>by
    obtain⟨hp,g,d,tk,os⟩:=s
    obtain⟨hl,h⟩:=h
    have hc0:¬ (!(Builtin.Range.rangeFitsLong 0 && Builtin.Range.rangeFitsLong n && Builtin.Range.rangeFitsLong 1 && Builtin.Range.rangeFitsLong (-1) && Builtin.Range.rangeFitsLong (0-1) && Builtin.Range.rangeFitsLong (Builtin.Range.rangeSize 0 n 1)))=true:=by rw[fits h1 h2];decide
    wp_walk
    rw[fits h1 h2]
    wp_walk
    exact⟨_,rfl,h⟩
section
variable {prog:Program} {w:World} {A:Around} {E:Value→Shared→Prop} {s:Shared}
theorem call_rr {r:Addr} {n:Int} {t u v:Tok} {Q:Value→Shared→Prop} (hr:IsRange s.heap r 0 n 1 t u v) (h1:-(2 ^ 62)≤n) (h2:n < 2 ^ 62)
    (h:Q (.ref s.heap.objs.size) { s with heap:=s.heap.push (rvObj n) }):wpAny (model prog w) A (call (.builtin "range.__reversed__") [.ref r]) Q E s:=by
  have hT:s.TypeIs (.ref r) "range":=⟨_,hr,rfl⟩
  exact call_meets F.slot_range_reversed hT F.entry_range_reversed (F.args_range_reversed_1 _) (meets_rr r n t u v h1 h2) ⟨hr,h⟩
theorem new_rr {r:Addr} {n:Int} {t u v:Tok} {Q₁:Value→Shared→Prop} (hr:IsRange s.heap r 0 n 1 t u v) (h1:-(2 ^ 62)≤n) (h2:n < 2 ^ 62)
    (h:Q₁ (.ref s.heap.objs.size) { s with heap:=s.heap.push (rvObj n) }) :
    codeAny (model prog w) A (.call (.builtin "reversed.__new__") ⟨[.type "reversed",.ref r],[]⟩) (wants Q₁ E) s:=by
  have hT:s.TypeIs (.ref r) "range":=⟨_,hr,rfl⟩
  refine codeAny_of_tree ?_
  show wpAny _ A.in1 (do checkBuiltinCall _ _;again (.builtin "reversed.__new__" ⟨[.type "reversed",.ref r],[]⟩)) _ _ s
  refine wpAny_bind (wpAny_of_eq (F.newCall_reversed_1 _) (wpAny_pure ⟨plainId_quiet F.plain_reversed_new _,codeAny_builtin F.entry_reversed_new ?_⟩))
  rw[Around.under_plainId F.plain_reversed_new _]
  unfold Builtin.«reversed.__new__»
  refine wpAny_bind (wpAny_of_eq (newClass_reversed _) ?_)
  try dsimp only
  refine wpAny_bind (wpAny_of_eq (a:=()) (by first | rfl | kernel_rfl) ?_)
  refine wpAny_bind (wpAny_of_eq (a:=()) (by first | rfl | kernel_rfl) ?_)
  try dsimp only
  refine wpAny_bind (wpAny_specialOf hT F.slot_range_reversed.lookup ?_)
  try dsimp only
  refine wpAny_bind (wpAny_of_eq (F.slot_range_reversed.bind _) ?_)
  try dsimp only
  have hne:¬ ((Value.builtin "range.__reversed__" == Value.none)=true):=Bool.false_ne_true
  first
  | rw[if_neg hne]
  | (show wpAny _ _ (if (Value.builtin "range.__reversed__" == Value.none)=true then _ else _) _ _ _;rw[if_neg hne])
  refine wpAny_bind (wpAny_rule ?_)
  refine wpAny_bind (m:=runValue (.call (.builtin "range.__reversed__") ⟨[.ref r],[]⟩)) (show wpAny _ _ (call (.builtin "range.__reversed__") [.ref r]) _ _ _ from call_rr hr h1 h2 ?_)
  first
  | exact wpAny_pure h
  | exact wpAny_bind (wpAny_pure (wpAny_pure h))
theorem call_reversed_range {r:Addr} {n:Int} {t u v:Tok} {Q:Value→Shared→Prop} (hr:IsRange s.heap r 0 n 1 t u v) (h1:-(2 ^ 62)≤n) (h2:n < 2 ^ 62)
    (h:Q (.ref s.heap.objs.size) { s with heap:=s.heap.push (rvObj n) }):wpAny (model prog w) A (call (.type "reversed") [.ref r]) Q E s:=by
  refine callType_other (U:="range_iterator") (Q₁:=fun obj s₁=>obj=.ref s.heap.objs.size∧s₁={ s with heap:=s.heap.push (rvObj n) }) (by decide +kernel) F.create_reversed ⟨_,_,F.mro_reversed⟩ F.made_reversed sub_ri_reversed (F.typeCall_reversed_1 _) (new_rr hr h1 h2 ⟨rfl,rfl⟩) ?_
  rintro obj s₁ ⟨rfl,rfl⟩
  exact⟨⟨_,Heap.get?_push_size _ rfl,rfl⟩,h⟩
end
def iRevR (ta:TA):TI:=fun σ H R=>ta σ H fun vs H1=>∃ j:Int,vs=[.int j]∧-(2 ^ 62)≤j∧j < 2 ^ 62∧R (Itc ((j.toNat:Int)-1) (-1) j.toNat) H1
section
variable {X:Cx} {tg:Expr}
theorem pi_revrange {a:Expr} {ta:TA} {p p2 pos pos2:Pos} (hg:Gl X "reversed") (hm:X.mg "reversed"=none) (hg2:Gl X "range") (hm2:X.mg "range"=none) (ha:PA X [a] ta)
    (hs:starEach [.Call (.Name "range" p2) [a] [] pos2] X.env=[(false,eval (.Call (.Name "range" p2) [a] [] pos2) X.env)]:=by rfl) (hs2:starEach [a] X.env=[(false,eval a X.env)]:=by rfl) :
    PI X tg (.Call (.Name "reversed" p) [.Call (.Name "range" p2) [a] [] pos2] [] pos) (iRevR ta):=by
  intro pins s σ H R I h
  refine Call_ (ld_blt I hg hm boot_reversed5 (PyProof.Rows.callWith_type1 ?_ hs rfl))
  rw[hs]
  refine Calls.spliced_cons (Call_ (ld_blt I hg2 hm2 boot_range (PyProof.Rows.callWith_type1 (thn (ha pos2 pins s σ H _ I h) fun us s1 ⟨vs,H1,I1,r1,q1⟩=>?_) hs2 rfl)))
  obtain⟨j,e,q1,q2,q⟩:=q1
  subst e
  cases r1 with
  | cons r rr =>
    cases rr
    obtain⟨t,rfl⟩:=r
    refine call_range_1 (Calls.spliced_nil ?_)
    refine call_reversed_range (IsRange.new ..) q1 q2 (wpAny_pyIter_rangeiter (x:=0+(Builtin.Range.rangeSize 0 j 1-1) * 1) (left:=Builtin.Range.rangeSize 0 j 1) (step:=-1) (Heap.get?_push_size _ rfl) ?_)
    have I2:Inv X pins σ H1 { s1 with heap:=s1.heap.push { cls:=.type "range",data:=.fields #[.int 0 s1.toks,.int j t,.int 1 (s1.toks+1)] },toks:=s1.toks+1+1 }:=I1.kept fun b o e=>Heap.get?_push_of_some _ e
    refine pi_one (tk:=s1.toks+1+1) I2 _ (turn_rangeC _ ((j.toNat:Int)-1) (-1) j.toNat) ?_ q
    have e2:(j.toNat:Int)=Builtin.Range.rangeSize 0 j 1:=by rw[rangeSize_one];split <;> omega
    have e1:(j.toNat:Int)-1+((0:Nat):Int) * (-1)=0+(Builtin.Range.rangeSize 0 j 1-1) * 1:=by rw[← e2];omega
    have e3:(j.toNat:Int)-((0:Nat):Int)=Builtin.Range.rangeSize 0 j 1:=by rw[← e2];omega
    show IsRangeIter _ _ ((j.toNat:Int)-1+((0:Nat):Int) * (-1)) ((j.toNat:Int)-((0:Nat):Int)) (-1)
    rw[e1,e3]
    exact Heap.get?_push_size _ rfl
end
section
variable {C:Cf} {P:Pr} {N:Nat} {X:Cx} {e:Expr} {tg:Expr}
end
section
variable {C:Cf} {fs:Nat→Option Fd} {fc:Nat→Nat→Bool} {N:Nat} {X:Cx} {a:Expr} {ies:List E} {pos p p2 pos2:Pos}
end
section
variable {C:Cf} {fs:Nat→Option Fd} {fc:Nat→Nat→Bool} {N:Nat} {X:Cx} {e o:Expr} {ia ib:E} {pos pos':Pos} {k:Nat} {f:Str}
end
end
end
end Ev
namespace Ev
noncomputable section
open PySem PySem.Spec PyProof.Rows L2
section
variable {prog:Program} {w:World} {A:Around} {R:Result→Shared→Prop} {s:Shared}
end
section
variable {X:Cx}
end
section
variable {X:Cx} {pins:List (Addr×Obj)} {σ:L2.St} {H:Hp} {s:Shared}
structure LamAt (K:W.Frag) (mg:Str→Option Value) (base:Heap) (code:Value) (P:Addr):Prop where
  ex:∃ c,code=.ref c∧∀ h:Heap,K.In h→(∀ b o,base.get? b=some o→h.get? b=some o)→W.CodeHd h c P∧h.BuiltinsAt mg P
  ne:mainGlobals≠P
end
section
variable {P:Program} {w:World} {K:W.Frag} {mg:Str→Option Value} {base:Heap} {A:Around} {outer:List Env} {s:Shared} {H:Hp}
end
section
structure LamObj (X:Cx) (pins:List (Addr×Obj)) (H:Hp) (h:Heap) (q c:Addr) (qual p:Str) (params:Arguments) (body:Expr) (scope:Scope):Prop where
  ob:∃ pm ctv,h.get? q=some { cls:=.type "function",data:=.func (W.kla_fn (Str.ofString "<lambda>") qual params body scope [] pm (.ref c) ctv) }
  fp:FpOk X pins H q
  code:H c=some (CodeK c qual)
structure LamTxt (X:Cx) (qual p:Str) (params:Arguments) (body:Expr) (scope:Scope) (t:TE):Prop where
  S:FnScope [p] [p] scope
  bd:∀ (pm cd ctv u:Value),bindArgs (W.kla_fn (Str.ofString "<lambda>") qual params body scope [] pm cd ctv) ⟨[u],[]⟩=pure [(p,u)]
  body:∀ (q:Addr) (cd:Value) (A:Around) (outer:List Env) (s:Shared) (H:Hp),PE (cxOf CX0 X.prog X.w X.K X.mg X.base [p] qual scope q cd A outer s H E0).nox body t
section
variable {X:Cx} {pins:List (Addr×Obj)} {σ:L2.St} {H:Hp} {s:Shared} {q c:Addr} {qual p:Str} {params:Arguments} {body:Expr} {scope:Scope} {t:TE}
end
end
section
variable {X:Cx} {pins:List (Addr×Obj)} {σ:L2.St} {H:Hp} {s:Shared} {q c:Addr} {qual p:Str} {params:Arguments} {body:Expr} {scope:Scope} {t:TE}
end
end
end Ev
namespace Ev
noncomputable section
open PySem PySem.Spec PyProof.Rows L2 Att
section
variable {X:Cx} {pins:List (Addr×Obj)} {σ:L2.St} {H:Hp} {s:Shared}
end
end
end Ev
namespace Ev
noncomputable section
open PySem PySem.Spec PyProof.Rows L2
section
variable {X:Cx} {pins:List (Addr×Obj)} {σ:L2.St} {H:Hp} {s:Shared} {a:Addr} {kvs:List (Key×V)} {k:Key} {u:Value} {A:Around} {E:Value→Shared→Prop}
end
section
variable {X:Cx} {o e f:Expr} {apos cpos:Pos} {td ty tx:TE}
theorem pget_right {α β:Type} {F:α→β→Prop}:∀ {l:List α} {m:List β} {i:Nat} {b:β},Paired F l m→m[i]?=some b→∃ a,l[i]?=some a∧F a b
  | _,_,_,_,.nil,h=>by simp at h
  | _,_,0,_,.cons r _,h=>by simp at h;subst h;exact⟨_,rfl,r⟩
  | _,_,i+1,_,.cons _ t,h=>by
    rw[List.getElem?_cons_succ] at h
    obtain⟨a,e,f⟩:=pget_right t h
    exact⟨a,by rw[List.getElem?_cons_succ];exact e,f⟩
theorem at_of_of {P:Program} {w:World} {h:Heap} {d:Addr} {vs:List (Key×Value)} (dd:h.DictOf (mixKind P w) d vs):∃ ep,h.DictAt (mixKind P w) d vs ep:=by
  obtain⟨o,es,ep,h1,h2,h3,h4,h5,h6⟩:=dd
  exact⟨ep,o,es,h1,h2,h3,h4,h5,h6⟩
theorem items_vals {F:V→Value→Prop}:∀ {xs:List V} {acc:List Value},acc.length=xs.length→(∀ (j:Nat) v,acc[j]?=some v→∃ x,xs[j]?=some x∧F x v)→Paired F xs acc
  | [],[],_,_=>.nil
  | [],_ :: _,h,_=>by simp at h
  | _ :: _,[],h,_=>by simp at h
  | x :: xs,v :: acc,h,k=>by
    refine .cons ?_ (items_vals (by simpa using h) fun j w e=>?_)
    · obtain⟨y,e1,e2⟩:=k 0 v rfl
      simp at e1
      subst e1
      exact e2
    · obtain⟨y,e1,e2⟩:=k (j+1) w (by simpa using e)
      exact⟨y,by simpa using e1,e2⟩
def tLVals (td:TE):TE:=fun σ H Q=>td σ H fun x H1=>∃ a kvs,x=.ref a∧Rd H1 a (.dK kvs)∧∀ p,H1 p=none→Q (.ref p) (L2.upd H1 p (.lst (kvs.map (·.2))))
theorem pe_lvals {p1 pos:Pos} (hc:X.calm=true) (hm:X.mg "list"=none) (ho:PE X o td) (hg:Gl X "list":=by rfl) (hbase:attributeBase o "values" X.env (eval o X.env)=eval o X.env:=by rfl) (hline:(apos.endLine == cpos.line)=true:=by rfl)
    (hs:starEach [.Call (.Attribute o "values" apos) [] [] cpos] X.env=[(false,eval (.Call (.Attribute o "values" apos) [] [] cpos) X.env)]:=by rfl) :
    PE X (.Call (.Name "list" p1) [.Call (.Attribute o "values" apos) [] [] cpos] [] pos) (tLVals td):=by
  intro pins s σ H Q I h
  refine wpAny_Call_Name_kw (ld_blt I hg hm (show bootBuiltins "list"=some (.type "list") by decide +kernel) ?_ (by decide) (by decide))
  refine PyProof.Rows.callWith_type1 ?_ hs rfl
  rw[hs]
  refine Calls.spliced_cons (wpAny_Call_method0_late hbase hline (thn (ho pins s σ H _ I h) fun u s1 ⟨x,H1,I1,rx,a,kvs,ex,ea,q1⟩=>?_))
  subst ex
  obtain rfl:u=Value.ref a:=rx
  obtain⟨t1,t2,t3⟩:=isD_at I1 (.inl ⟨kvs,ea⟩)
  refine⟨_,_,PySem.F.plainAttrs_dict,PySem.F.slot_dict_values,PySem.F.type_dict_values,t1,t2,Calls.callWith_builtin rfl (PySem.evalArgs_none ?_)⟩
  obtain⟨z,hd,vs,rel,dd⟩:=dk_rd I1.hok ea
  refine call_meetsIn PySem.F.slot_dict_values t1 PySem.F.entry_dict_values (PySem.F.args_dict_values_1 _) (meets_dict_values (mixKind X.prog X.w) a t3) ⟨⟨vs,dd⟩,Calls.spliced_nil ?_⟩
  have kp0:∀ b ob,s1.heap.get? b=some ob→(s1.heap.push { cls:=.type "dict_values",data:=.fields #[.ref a] }).get? b=some ob:=fun b ob e=>Heap.get?_push_of_some _ e
  obtain⟨ep,dd⟩:=at_of_of dd
  have dd':(s1.heap.push { cls:=.type "dict_values",data:=.fields #[.ref a] }).DictAt (mixKind X.prog X.w) a vs ep:=by
    obtain⟨ob,es,h1,h2⟩:=dd
    exact⟨ob,es,kp0 _ _ h1,h2⟩
  refine W.kdl_call (W.kdl_values (r:=s1.heap.objs.size)) (I1.ok.hd hc) ⟨⟨_,Heap.get?_push_size _ rfl,rfl,rfl⟩,dd'⟩ (by rw[← rel.length];exact z) fun h' tk acc c kp e it=>?_
  have le:s1.heap.objs.size≤(s1.heap.push { cls:=.type "dict_values",data:=.fields #[.ref a] }).objs.size:=by rw[Heap.size_push];exact Nat.le_succ _
  refine⟨.ref _,_,I1.laid (o:=.lst (kvs.map (·.2))) (t':=tk) (fun b ob e=>kp b ob (kp0 b ob e)) le ⟨by rw[List.length_map];exact z,acc.toList,c,?_,by simpa using e⟩,rfl,q1 _ (I1.hok.fresh le)⟩
  refine items_vals (by rw[List.length_map,Array.length_toList,it.1,← rel.length]) fun j v ev=>?_
  obtain⟨k,e1⟩:=it.2 j v (by simpa using ev)
  obtain⟨p,e3,e4⟩:=pget_right rel e1
  exact⟨p.2,by rw[List.getElem?_map,e3];rfl,e4.2⟩
end
section
variable {X:Cx} {e:Expr} {te:TE} {pos:Pos}
theorem call_strX:CallR X (.type "str") (fun xs H Q=>(∃ z,xs=[.str z]∧z.length≤sizeLine∧Q (.str z) H)∨∃ i:Int,xs=[.int i]∧i.natAbs.log2 < 1920∧Q (.str (Str.ofString (toString i))) H):=by
  intro pins s σ H xs us Q I r h
  rcases h with ⟨z,rfl,hz,q⟩ | ⟨i,rfl,hz,q⟩
  · obtain⟨u,rfl,t,rfl⟩:=vals1 r
    exact PySem.P.str_of_str ⟨.str z,H,I,⟨_,rfl⟩,q⟩
  · obtain⟨u,rfl,t,rfl⟩:=vals1 r
    exact PySem.P.str_of_int hz ⟨.str _,H,I.tok _,⟨_,rfl⟩,q⟩
structure IsiOk (K:W.Frag) (C:Addr):Prop where
  ha:W.findIn K (.ref C) "__class__"=some (some (.builtin "object.__class__"))
  hn:W.specialIn K (.builtin "object.__class__") "__get__"=some (some (.builtin "getset_descriptor.__get__"))
  ht:W.takesIn K (.builtin "object.__class__")=some true
  hm:W.mroIn K C (.type "object")=some true
  hk:W.kitOne K (.ref C) (.ref C)=some true
end
section
variable {prog:Program} {w:World} {A:Around} {s:Shared}
end
section
variable {X:Cx} {pins:List (Addr×Obj)} {σ:L2.St} {H:Hp} {s:Shared}
end
end
end Ev
namespace Ev
noncomputable section
open PySem PySem.Spec L2
section
variable {C:Cf} {P:Pr} {N:Nat} {ρ ρ':List Addr} {h h' h1:Hs} {H:Hp} {v w:A} {x y:V} {vs:List A} {xs:List V} {Q:VK} {X:Cx} {e:Expr} {ia ib ic:E} {kvs:List (AK×A)} {zs:List (Key×V)} {k:AK} {n:Nat} {a:Addr}
end
section
variable {C:Cf} {P:Pr} {N:Nat} {ρ ρ':List Addr} {h h' h1:Hs} {H:Hp} {v w:A} {x y:V} {vs:List A} {xs:List V} {Q:VK} {X:Cx} {e:Expr} {ia ib ic:E} {n:Nat} {a:Addr}
end
end
end Ev
namespace Ev
noncomputable section
open PySem PySem.Spec L2 TL
section
variable {C:Cf} {P:Pr} {N:Nat} {ρ ρ':List Addr} {h h' h1:Hs} {H:Hp} {v w:A} {x y:V} {vs:List A} {xs:List V} {Q:VK} {X:Cx} {e:Expr} {ia ib ic:E} {n:Nat} {a:Addr}
end
end
end Ev
namespace Ev
noncomputable section
open PySem PySem.Spec L2
section
variable {C:Cf} {P:Pr} {N:Nat} {ρ ρ':List Addr} {h h' h1:Hs} {H:Hp} {v w:A} {x y:V} {vs:List A} {xs:List V} {Q:VK} {X:Cx} {e:Expr} {ia ib ic:E} {n:Nat} {a:Addr}
end
section
variable {C:Cf} {P:Pr} {N:Nat} {ρ ρ':List Addr} {h h' h1:Hs} {H:Hp} {v w:A} {x y:V} {vs:List A} {xs:List V} {Q:VK} {X:Cx} {e:Expr} {ia ib ic:E} {n:Nat} {a:Addr}
end
section
variable {C:Cf} {P:Pr} {N:Nat} {ρ ρ':List Addr} {h h' h1:Hs} {H:Hp} {v w:A} {x y:V} {vs:List A} {xs:List V} {Q:VK} {X:Cx} {e:Expr} {ia ib ic:E} {n:Nat} {a:Addr}
end
section
variable {C:Cf} {P:Pr} {N:Nat} {ρ ρ':List Addr} {h h' h1 h2:Hs} {H:Hp} {v w:A} {x y:V} {vs:List A} {xs:List V} {Q:VK} {X:Cx} {e:Expr} {ia ib ic:E} {n:Nat} {a:Addr}
variable {tg:Expr}
end
section
variable {C:Cf} {P:Pr} {N:Nat} {ρ ρ':List Addr} {h h' h1 h2:Hs} {H:Hp} {X:Cx} {ie:E} {n:Nat} {a:Addr} {l:Lo} {D:Ends}
end
section
variable {C:Cf} {fs:Nat→Option Fd} {fc:Nat→Nat→Bool} {N:Nat} {X:Cx} {a b c e o value:Expr} {es:List Expr} {ia ib ic:E} {ies:List E} {pos p pos' apos cpos spos p1:Pos} {st:Stmt} {sts:List Stmt} {i_:S} {is_ js:List S}
variable {tgE iterE kx vx:Expr} {scope:Scope} {own:List (Str×Nat)} {ow:List Nat} {tg:Tg} {it:It}
end
end
end Ev
namespace Ev
noncomputable section
open PySem PySem.Spec PyProof.Rows L2
def OnlyT (ts:List Addr) (H:Hp):Prop:=∀ b,H b=none∨(∃ o xs,H b=some (.frz o (.lst xs)))∨(b∈ts∧H b=some (.tbl #[]))
def BmOk (us:List Addr) (mg:Str→Option Value) (base:Heap):Prop:=∃ bm ob,mg "__builtins__"=some (.ref bm)∧bm≠builtinsNs∧bm≠mainGlobals∧bm∉us∧base.get? bm=some ob∧ob.cls=.type "module"∧ob.dict=some builtinsNs∧ob.data=.plain
end
end Ev
namespace Ev
noncomputable section
open PySem PySem.Spec L2
section
@[irreducible] def UE (X:Cx) (e:Expr) (t:TE):Prop:=PE X e t
@[irreducible] def UT (X:Cx) (e:Expr) (t:TT):Prop:=PT X e t
@[irreducible] def UW (X:Cx) (e:Expr) (t:TT):Prop:=PW X e t
@[irreducible] def UA (X:Cx) (es:List Expr) (t:TA):Prop:=PA X es t
@[irreducible] def US (X:Cx) (s:Stmt) (t:TS):Prop:=PS X s t
@[irreducible] def UB (X:Cx) (s:List Stmt) (t:TS):Prop:=PSs X s t
@[irreducible] def UI (X:Cx) (tg e:Expr) (t:TI):Prop:=PI X tg e t
section
variable {X:Cx} {a b c e:Expr} {es:List Expr} {ta tb te:TE} {tA tB':TT} {t:TA} {u v:TS} {wi:TI} {pos p pos' p2:Pos} {st:Stmt} {sts sts':List Stmt}
theorem uv (i:Nat) {x:Str} (hN:X.N[i]?=some x:=by rfl) (hv:Vis X.env.scope x:=by first | exact Or.inl rfl | exact Or.inr (Or.inl rfl) | exact Or.inr (Or.inr rfl)) (hd:(x == ("__debug__":Str))=false:=by decide)
    (hcd:(x == ("__classdict__":Str))=false:=by decide):UE X (.Name x pos) (tVar i):=by
  with_unfolding_all exact pv i hN hv hd hcd
theorem uInt {i:Int} {j:Nat}:UE X (.Constant (.int i) j pos) (tC (.int i)):=by with_unfolding_all exact pe_int
theorem uBl {i:Bool} {j:Nat}:UE X (.Constant (.bool i) j pos) (tC (.bl i)):=by with_unfolding_all exact pe_bl
theorem uaNil:UA X [] tNil:=by with_unfolding_all exact pa_nil
theorem uaCons (ha:UE X e te) (hr:UA X es t) (hs:starEach (e :: es) X.env=(false,eval e X.env) :: starEach es X.env:=by rfl):UA X (e :: es) (tCons te t):=by with_unfolding_all exact pa_cons ha hr hs
theorem uTup {k:Nat} (h:UA X es t):UE X (.Tuple es k pos) (tTup t):=by with_unfolding_all exact pe_tup h
theorem uLst (h:UA X es t):UE X (.List es pos) (tLst t):=by with_unfolding_all exact pe_lst h
theorem uCall {k:Nat} {f:Addr} {fd:FuncData} {ps:List Str} {sp:Sp} {x:Str} (F:FnOk X.prog X.w X.K X.mg X.base CX0 k f fd ps sp) (hr:Room k X.A) (hm:X.mg x=some (.ref f)) (hk:W.keepIn X.K (.ref f)=true) (hb:Binds X.K fd ps []) (ha:UA X (e :: es) t) (hg:Gl X x:=by rfl)
    (hdb:(x == ("__debug__":Str))=false:=by decide) (he:starEach (e :: es) X.env=(false,eval e X.env) :: starEach es X.env:=by rfl) (hpl:(backTo pos (starEach es X.env)).any (·.1)=false:=by rfl):UE X (.Call (.Name x p) (e :: es) [] pos) (tCall sp [] E0 t):=by
  with_unfolding_all exact pe_call F hr hg hm hk hb .nil pass0 ha hdb he hpl
theorem uTv (ha:UE X a ta) (hp:∀ whole,isTrue a X.env whole=(do let v ← whole;standAt a.pos;holding [v] (truthy v)):=by intro _;rfl):UT X a (L2.tB ta):=by with_unfolding_all exact pt_val ha hp
theorem utNot (ha:UT X a tA):UT X (.UnaryOp .Not a pos) (tNot tA):=by with_unfolding_all exact pt_not ha
theorem uOr (ha:UT X a tA) (hb:UW X (.BoolOp .Or (b :: es) pos) tB'):UW X (.BoolOp .Or (a :: b :: es) pos) (tOr tA tB'):=by with_unfolding_all exact pw_or ha hb
theorem uOr1 (ha:UT X a tA):UW X (.BoolOp .Or [a] pos) tA:=by with_unfolding_all exact pw_or1 ha
theorem uW (h:UW X a tA):UT X a tA:=by with_unfolding_all exact h.pt
theorem usSet (i:Nat) {x:Str} (hN:X.N.Nodup) (he:UE X e te) (hi:X.N[i]?=some x:=by rfl) (hx:Loc X.env.scope x:=by first | exact Or.inl rfl | exact Or.inr rfl) (hs:swapsWith e (some (.Name x pos')) pos.line X.env=pure false:=by rfl) (hf:X.fn x=true∨X.env.scope.names.lookup x=some .local:=by first | exact .inl rfl | exact .inr rfl) :
    US X (.Assign [.Name x pos'] e pos) (tAsg te (gName i)):=by with_unfolding_all exact ps_set hN hi hx he hs hf
theorem usRet (he:UE X e te):US X (.Return (some e) pos) (tRet te):=by with_unfolding_all exact ps_ret he
theorem usIf (hc:UT X c tA) (h1:UB X sts u) (h2:UB X sts' v):US X (.If c sts sts' pos) (tIfS tA u v):=by with_unfolding_all exact ps_if hc h1 h2
theorem ubNil:UB X [] tNext:=by with_unfolding_all exact pss_nil
theorem ubCons (h1:US X st u) (h2:UB X sts v):UB X (st :: sts) (tSeq u v):=by with_unfolding_all exact pss_cons h1 h2
theorem uiRng {tg:Expr} (hm:X.mg "range"=none) (ha:UA X [a] t) (hg:Gl X "range":=by rfl) (hs:starEach [a] X.env=[(false,eval a X.env)]:=by rfl):UI X tg (.Call (.Name "range" p) [a] [] pos) (iRng1 t):=by with_unfolding_all exact pi_range1 hg hm ha hs
theorem uiLst {tg:Expr} (ha:UE X a ta):UI X tg a (iList X.K ta):=by with_unfolding_all exact pi_list ha
end
theorem uFn {Pg:Program} {w:World} {K:W.Frag} {mg:Str→Option Value} {base:Heap} {x qual:Str} {st:Stmt} {f:Addr} {fd:FuncData} {Ns ps:List Str} {k:Nat} {sp:Sp} {t:TS} (F:Fun K x qual st f fd) (S:FnScope Ns ps (defScope st)) (len:∀ vs H Q E,sp vs H Q E→vs.length=ps.length)
    (hbody:∀ (cdv:Value) (A:Around) (outer:List Env) (s:Shared) (H:Hp) (E:XK),Room k (A.deeper (PyProof.Rows.envOfC qual (defScope st) s.heap.objs.size f cdv))→UB (cxOf CX0 Pg w K mg base Ns qual (defScope st) f cdv A outer s H E).nox (defBody st) t)
    (hr:∀ vs H Q E,sp vs H Q E→t { nx:=fun _ H'=>Q .non H',rt:=Q } (start Ns vs) H):FnOk Pg w K mg base CX0 (k+1) f fd ps sp:=by
  with_unfolding_all exact F.ok S len fun cdv A outer s H vs Q E hr' hsp=>⟨t,hbody cdv A outer s H E hr',hr vs H Q E hsp⟩
end
end
end Ev
namespace Ev
noncomputable section
open PySem PySem.Spec PyProof.Rows L2
section
structure Fly (P:Program) (w:World) (outer:List Env) (H H':Hp) (s s':Shared) (x C:Addr):Prop where
  os:s'.os=s.os
  bare:AllBare s'.gens
  un:L2.Un (frs outer) [] H H' s.heap s'.heap
  hok:HOk P w H' s'.heap
  fl:∃ B a0,Heap.FlyingW B outer x (.ref C) a0 s'.heap∧∀ b o,s'.heap.get? b=some o→b∉frs outer→(H' b≠none∨∃ u,s.heap.get? b=some u)→B.get? b=some o
theorem objOk_at {P:Program} {w:World} {H:Hp} {h:Heap} {a:Addr} {o:HO} (x:ObjOk P w H h a o):∃ u,h.get? a=some u:=by
  cases o with
  | lst xs=>obtain⟨_,_,_,_,e⟩:=x;exact⟨_,e⟩
  | tup xs=>obtain⟨_,_,_,_,e,_⟩:=x;exact⟨_,e⟩
  | dK kvs=>obtain⟨_,_,_,_,o,_,_,e,_⟩:=x;exact⟨_,e⟩
  | dT kvs=>obtain⟨_,_,_,_,o,_,_,e,_⟩:=x;exact⟨_,e⟩
  | set S n=>obtain⟨o,_,_,_,e,_⟩:=x;exact⟨_,e⟩
  | ins C dx fs=>obtain⟨_,_,_,e,_⟩:=x;exact⟨_,e⟩
  | own y=>exact x
  | xd fs=>obtain⟨_,⟨_,_,_,e,_⟩,_⟩:=x;exact⟨_,e⟩
  | rng lo hi=>obtain⟨_,_,_,e⟩:=x;exact⟨_,e⟩
  | frz ob u=>obtain⟨e,_⟩:=x;exact⟨_,e⟩
  | tbl ps=>exact⟨_,show h.get? a=some _ from x⟩
  | met f y=>exact⟨_,show h.get? a=some _ from x⟩
  | ext φ=>obtain⟨_,e,_⟩:=x;exact e
section
variable {P:Program} {w:World} {K:W.Frag} {mg:Str→Option Value} {base:Heap} {N:List Str} {qual:Str} {scope:Scope} {f:Addr} {cd:Value} {A:Around} {outer:List Env} {s:Shared} {H:Hp} {E:XK}
end
end
section
variable {X:Cx} {x:Str} {C:Addr} {np cpos pos:Pos} {e:Expr} {te:TE} {E:XK} {bB:List Value} {B nid iid:String}
end
section
variable {P:Program} {w:World} {K:W.Frag} {mg:Str→Option Value} {base:Heap} {N:List Str} {qual:Str} {scope:Scope} {f:Addr} {cd:Value} {A:Around} {outer:List Env} {s:Shared} {H:Hp} {E:XK}
end
section
variable {X:Cx} {pins:List (Addr×Obj)} {σ:L2.St} {H1 H':Hp} {s1 s':Shared} {x C:Addr}
theorem frs_nofields {h B:Heap} {l:List Env} {b:Addr} {o:Obj} {vs:Array Value} (fr:h.FunFrames B l) (e:h.get? b=some o) (d:o.data=.fields vs):b∉frs l:=fun z=>by
  obtain⟨_,o',e',n⟩:=fr.mem (b:=b) z
  rw[e] at e';cases e'
  exact n vs d
structure Met (H:Hp) (l:List Env) (x C:Addr) (h:Heap) (T:Addr) (oe oT:Obj):Prop where
  ex:h.get? x=some oe
  cls:oe.cls=.ref C
  dat:∃ vs,oe.data=.fields vs∧vs[1]?=some (.ref T)∧∃ a0,vs[0]?=some a0
  ne:T≠x
  et:h.get? T=some oT
  dt:∃ ts,oT.data=.fields ts∧3 < ts.size
  nx:H x=none
  nT:H T=none
  fx:x∉frs l
  fT:T∉frs l
theorem caught (I:L2.Inv X pins σ H1 s1) (F:Fly X.prog X.w X.stack H1 H' s1 s' x C) {B h2:Heap} {a0:Value} (kB:∀ b o,s'.heap.get? b=some o→b∉frs X.stack→(H' b≠none∨∃ u,s1.heap.get? b=some u)→B.get? b=some o)
    (fl:Heap.FlyingW B X.stack x (.ref C) a0 h2) (sm:s'.heap.UpToSlots h2):L2.Inv X pins σ H' { s' with heap:=h2 }∧∃ T oe oT,Met H' X.stack x C h2 T oe oT∧s1.heap.get? x=none∧s1.heap.get? T=none:=by
  have stk:∀ b∈frs X.stack,H1 b=none:=I.stkFree
  have stF:=I.stack
  have fr':∀ b∈frs X.stack,H' b=none:=fun b hb=>by
    obtain⟨_,o,ho,_⟩:=stF.mem (b:=b) hb
    exact F.un.free b o ho (stk b hb) (by simp)
  have tr:∀ b u,H' b=some u→∃ o,s'.heap.get? b=some o∧B.get? b=some o:=fun b u e=>by
    obtain⟨o,ho⟩:=objOk_at (F.hok b u e)
    exact⟨o,ho,kB b o ho (fun z=>by rw[fr' b z] at e;cases e) (.inl (by rw[e];simp))⟩
  have hok:HOk X.prog X.w H' h2:=fun a o e=>by
    refine (F.hok a o e).stay (fun b u hb eb=>?_) (fun _ z=>z) fun _ _ z=>z
    have hn:∃ v,H' b=some v:=by
      rcases hb with rfl | hb
      · exact⟨_,e⟩
      · exact⟨_,hb⟩
    obtain⟨v,hv⟩:=hn
    obtain⟨o',e1,e2⟩:=tr b v hv
    rw[eb] at e1;cases e1
    exact fl.1 b u e2
  have slot:∀ b o,s1.heap.get? b=some o→H1 b=none→b∈frs X.stack→∃ sl,h2.get? b=some { o with slots:=sl }:=fun b o e n hb=>by
    obtain⟨sl,e1⟩:=F.un.slot b o e n hb (by simp)
    obtain⟨_,o',ho',nf⟩:=stF.mem (b:=b) hb
    rw[e] at ho';cases ho'
    obtain⟨sl2,e3⟩:=sm b _ e1 nf
    exact⟨sl2,e3⟩
  refine⟨I.call' (s':={ s' with heap:=h2 }) (ch:=[]) F.os ⟨fun b o e n hb _=>?_,fun b o e n hb _=>slot b o e n hb,F.un.free,fun b o e hx=>?_,F.un.tups,F.un.frzs,F.un.tbls⟩ hok F.bare (fun b z=>absurd z (by simp)),?_⟩
  · exact fl.1 b o (kB b o (F.un.keep b o e n hb (by simp)) hb (.inr ⟨o,e⟩))
  · by_cases hb:b∈frs X.stack
    · obtain⟨sl,e'⟩:=slot b o e (stk b hb) hb
      exact⟨_,e'⟩
    · obtain⟨o1,e1⟩:=F.un.there b o e hx
      exact⟨o1,fl.1 b o1 (kB b o1 e1 hb (.inr ⟨o,e⟩))⟩
  · obtain⟨f1,f2,f3,oe,vs,T,oT,ts,he,⟨hc,h0⟩,hd,h1,hnT,hTe,hT,hdT,h3⟩:=fl
    have nb:∀ b,B.get? b=none→b∉frs X.stack→H' b=none∧s1.heap.get? b=none:=fun b hb hf=>by
      refine⟨?_,?_⟩
      · cases z:H' b with
        | none=>rfl
        | some u =>
          obtain⟨o,_,e2⟩:=tr b u z
          rw[hb] at e2;cases e2
      · cases z:s1.heap.get? b with
        | none=>rfl
        | some o =>
          obtain⟨o1,e1⟩:=F.un.there b o z (by simp)
          have:=kB b o1 e1 hf (.inr ⟨o,z⟩)
          rw[hb] at this;cases this
    have fx:=frs_nofields f3 he hd
    have fT:=frs_nofields f3 hT hdT
    obtain⟨n1,n2⟩:=nb x f2 fx
    obtain⟨n3,n4⟩:=nb T hnT fT
    exact⟨T,oe,oT,⟨he,hc,⟨vs,hd,h1,_,h0⟩,hTe,hT,⟨ts,hdT,(Array.getElem?_eq_some_iff.mp h3).1⟩,n1,n3,fx,fT⟩,n2,n4⟩
end
section
variable {P:Program} {w:World} {K:W.Frag} {mg:Str→Option Value} {base:Heap} {N:List Str} {qual:Str} {scope:Scope} {f:Addr} {cd:Value} {A:Around} {outer:List Env} {s:Shared} {H:Hp} {E:XK}
end
section
abbrev TX:=L2.St→Hp→VK→XK→Prop
section
variable {X:Cx} {k:Nat} {f C:Addr} {fd:FuncData} {ps ks:List Str} {sp:Sp} {dvs:List V} {ds:List Value} {x m:Str} {p pos apos:Pos} {e o:Expr} {es:List Expr} {kws:List Keyword} {ta:TE} {t tk:TA} {g:List Value→List Value→List Value} {gV:List V→List V→List V}
end
abbrev Cx.fin (X:Cx) (x:Addr):Cx:={ X with A:=X.A.mark (some (.ref x)),calm:=false,xe:=fun _ _=>False }
theorem Inv.fin {X:Cx} {x:Addr} {pins:List (Addr×Obj)} {σ:L2.St} {H:Hp} {s:Shared} (I:L2.Inv X pins σ H s):L2.Inv (Cx.fin X x) pins σ H s:=by
  obtain⟨o,a1,a2,a3,a4,a5,a6,a7,a8,a9,a10⟩:=I
  obtain⟨b1,b2,b3,b4,b5,b6,b7,b8,b9,b10,b11,b12,b13,b14,b15,b16,b17,b18⟩:=o
  exact⟨⟨b1,b2,b3,b4,b5,b6,b7,b8,fun z=>(by cases z),b10,b11,b12,b13,b14,b15,b16,b17,b18⟩,a1,a2,a3,a4,a5,a6,a7,a8,a9,a10⟩
theorem Inv.unfin {X:Cx} {x:Addr} {pins:List (Addr×Obj)} {σ:L2.St} {H:Hp} {s:Shared} (hd:X.calm=true→X.A.handled=none) (I:L2.Inv (Cx.fin X x) pins σ H s):L2.Inv X pins σ H s:=by
  obtain⟨o,a1,a2,a3,a4,a5,a6,a7,a8,a9,a10⟩:=I
  obtain⟨b1,b2,b3,b4,b5,b6,b7,b8,b9,b10,b11,b12,b13,b14,b15,b16,b17,b18⟩:=o
  exact⟨⟨b1,b2,b3,b4,b5,b6,b7,b8,hd,b10,b11,b12,b13,b14,b15,b16,b17,b18⟩,a1,a2,a3,a4,a5,a6,a7,a8,a9,a10⟩
section
variable {X:Cx} {e:Expr} {pos:Pos} {tx:TX}
end
section
variable {P:Program} {w:World} {K:W.Frag} {mg:Str→Option Value} {base:Heap} {N:List Str} {qual:Str} {scope:Scope} {f:Addr} {cd:Value} {A:Around} {outer:List Env} {s:Shared} {H:Hp} {E:XK} {pos:Pos}
end
end
section
variable {X:Cx} {pos np hp:Pos} {n:Str} {D0:Addr}
end
structure CloScope (cl:List (Str×Addr)) (sc:Scope):Prop where
  kind:sc.kind=.function
  co:sc.isCoroutine=false
  gen:sc.isGenerator=false
  nd:(cl.map (·.1)).Nodup
  na:(cl.map (·.2)).Nodup
  all:∀ x,(sc.names.lookup x=some .cell∨sc.names.lookup x=some .free)→x∈cl.map (·.1)
  own:∀ x∈sc.names,x.2≠.cell
  fr:∀ x∈cl.map (·.1),sc.names.lookup x=some .free
section
variable {X:Cx} {pins:List (Addr×Obj)} {σ:L2.St} {H:Hp} {s:Shared} {as:List Addr}
end
section
variable {X:Cx} {pins:List (Addr×Obj)} {σ:L2.St} {H:Hp} {s:Shared} {as:List Addr}
end
section
variable {C:Cf} {P:Pr} {N:Nat} {ρ ρ':List Addr} {h h' h1 h2:Hs} {H:Hp} {X:Cx} {e:Expr} {ia:E} {ies iks:List E} {y:Ly} {cv:List V}
end
section
mutual
def noRet:S→Bool
  | .ret _=>false
  | .ret0=>false
  | .ite _ a b=>noRets a && noRets b
  | .loop _ _ b=>noRets b
  | .whl _ b=>noRets b
  | .lock _ s=>noRet s
  | .tryf _ _=>false
  | .tryr _ _ _=>false
  | _=>true
def noRets:List S→Bool
  | []=>true
  | a :: r=>noRet a && noRets r
end
def RS.noRt:RS→Bool
  | .rt _ _=>false
  | _=>true
structure NoRt (r:Ev):Prop where
  s:∀ i l h,noRet i=true→(r.s i l h).noRt=true
  ss:∀ i l h,noRets i=true→(r.ss i l h).noRt=true
  fr:∀ n sc tg b l h,noRets b=true→(r.fr n sc tg b l h).noRt=true
section
variable {C:Cf} {P:Pr} {N:Nat} {ρ:List Addr} {H:Hp} {σ:L2.St} {D:Ends} {Q:VK}
end
theorem fn_ofX {CX:CXT} {P:Program} {w:World} {K:W.Frag} {mg:Str→Option Value} {base:Heap} {x qual:Str} {st:Stmt} {f:Addr} {fd:FuncData} {N ps:List Str} {k:Nat} {sp:Sp} (F:Fun K x qual st f fd) (S:FnScope N ps (defScope st)) (len:∀ vs H Q E,sp vs H Q E→vs.length=ps.length)
    (hbody:∀ (A:Around) (outer:List Env) (s:Shared) (H:Hp) (vs:List V) (Q:VK) (E:XK),Room k (A.deeper (envOfC qual (defScope st) s.heap.objs.size f fd.code))→sp vs H Q E →
      ∃ t,PSs (cxOf CX P w K mg base N qual (defScope st) f fd.code A outer s H E) (defBody st) t∧t { nx:=fun _ H'=>Q .non H',rt:=Q } (start N vs) H):FnOk P w K mg base CX (k+1) f fd ps sp:=by
  obtain⟨oc,od,kV,doc,pm,an,cdv,ct,osl,rfl,lk,hcd⟩:=F.ex
  exact fn_of lk hcd S len hbody
section
variable {C:Cf} {fs:Nat→Option Fd} {fc:Nat→Nat→Bool} {N:Nat} {X:Cx} {e o body:Expr} {es:List Expr} {kws:List Keyword} {ia ib ic ibx:E} {ies iks:List E} {pos p apos:Pos} {k k2:Nat} {f:Addr} {fd:FuncData} {ps ks:List Str} {x m:Str} {fi ci cb:Nat} {d:Fd} {y:Ly}
end
end
section
variable {X:Cx} {C f:Addr} {fd:FuncData} {ps:List Str} {sp:Sp} {k:Nat}
end
section
variable {C:Cf} {P:Pr} {N:Nat} {X:Cx} {e:Expr} {ia ib:E}
end
section
variable {C:Cf} {fs:Nat→Option Fd} {fc:Nat→Nat→Bool} {N:Nat} {X:Cx} {a b:Expr} {ia ib:E} {pos:Pos} {k:Nat} {f:Addr} {fd:FuncData} {ps:List Str} {fi ci:Nat} {d:Fd}
end
section
theorem PS.nox {X:Cx} {st:Stmt} {t:TS} (h:PS X.nox st t):PS X st t:=fun pins s σ H D I hw =>
  wpAny_mono (h pins s σ H D (I.wish _) hw) (fun _ _ q=>q.unwish) fun _ _ z=>False.elim z
section
variable {C:Cf} {P:Pr} {N:Nat} {X:Cx} {st:Stmt} {sts:List Stmt} {i:S} {is_:List S} {e:Expr} {ie:E}
end
section
variable {C:Cf} {P:Pr} {N:Nat} {ρ:List Addr} {H:Hp} {σ:L2.St} {D D':Ends}
end
section
variable {C:Cf} {P:Pr} {N:Nat} {Pg:Program} {w:World} {mg:Str→Option Value} {base:Heap} {x qual:Str} {st:Stmt} {fa:Addr} {fd:FuncData} {Ns ps:List Str} {k g cb:Nat} {d:Fd}
end
end
end
end Ev
namespace Ev
noncomputable section
open PySem PySem.Spec L2
section
@[irreducible] noncomputable def UG (X:Cx) (tg:Expr) (t:TG):Prop:=PG X tg t
@[irreducible] noncomputable def UGs (X:Cx) (tg:List Expr) (t:TGs):Prop:=PGs X tg t
@[irreducible] noncomputable def UO (X:Cx) (e:Option Expr) (t:TO):Prop:=PO X e t
@[irreducible] noncomputable def UK (X:Cx) (e:List Keyword) (t:TA):Prop:=PK X e t
@[irreducible] noncomputable def UTs (X:Cx) (e:List Expr) (t:TT):Prop:=PTs X e t
section
variable {X:Cx} {a b c e o:Expr} {es:List Expr} {kws:List Keyword} {ta tb te tc to:TE} {tA tB' tt:TT} {t tk:TA} {u v:TS} {wi:TI} {g:TG} {gs:TGs} {pos p p1 pos' p2 p3 p4 apos cpos spos:Pos} {st:Stmt} {sts sts':List Stmt} {r r':R2} {x m:Str}
theorem uStr {x:Str} {j:Nat}:UE X (.Constant (.str x) j pos) (tC (.str x)):=by with_unfolding_all exact pe_str
theorem uNon' {j:Nat}:UE X (.Constant .none j pos) (tC .non):=by with_unfolding_all exact pe_non
theorem uGlob {v:V} {w:Value} (hm:X.mg x=some w) (hr:RelV v w) (hg:Gl X x:=by rfl) (hd:(x == ("__debug__":Str))=false:=by decide):UE X (.Name x pos) (tC v):=by with_unfolding_all exact pe_glob hg hm hr hd
theorem uNotV (ha:UE X a ta):UE X (.UnaryOp .Not a pos) (tNotV ta):=by with_unfolding_all exact pe_not ha
theorem uAndV (ha:UE X a ta) (hb:UE X (.BoolOp .And (b :: es) pos) tb):UE X (.BoolOp .And (a :: b :: es) pos) (tAndV ta tb):=by with_unfolding_all exact pe_and ha hb
theorem uOneV {op:BoolOp} (ha:UE X a ta):UE X (.BoolOp op [a] pos) ta:=by with_unfolding_all exact pe_one ha
theorem uAnd (ha:UT X a tA) (hb:UW X (.BoolOp .And (b :: es) pos) tB'):UW X (.BoolOp .And (a :: b :: es) pos) (tAnd tA tB'):=by with_unfolding_all exact pw_and ha hb
theorem uAnd1 (ha:UT X a tA):UW X (.BoolOp .And [a] pos) tA:=by with_unfolding_all exact pw_and1 ha
theorem uBin {op:Operator} (ho:OpR X (binaryOp op) r) (ha:UE X a ta) (hb:UE X b tb):UE X (.BinOp a op b pos) (tOp r ta tb):=by with_unfolding_all exact pe_op ho ha hb
theorem uCmp {op:CmpOp} (ho:OpR X (compareOp op) r) (ha:UE X a ta) (hb:UE X b tb) (hm:behindInMarks op b=false):UE X (.Compare a [op] [b] pos) (tOp r ta tb):=by with_unfolding_all exact pe_cmpR ho ha hb hm
theorem utCmp {op:CmpOp} (ho:OpR X (compareOp op) r) (ha:UE X a ta) (hb:UE X b tb) (hm:behindInMarks op b=false):UT X (.Compare a [op] [b] pos) (tTest (tOp r ta tb)):=by with_unfolding_all exact pt_cmpR ho ha hb hm
theorem uChain {op op':CmpOp} (ho:OpR X (compareOp op) r) (ho':OpR X (compareOp op') r') (ha:UE X a ta) (hb:UE X b tb) (hc:UE X c tc) (hm:lastMarks [op,op'] [b,c]=false:=by with_unfolding_all rfl):UE X (.Compare a [op,op'] [b,c] pos) (tChain r r' ta tb tc):=by with_unfolding_all exact pe_chain ho ho' ha hb hc hm
theorem utChain {op op':CmpOp} (ho:OpR X (compareOp op) r) (ho':OpR X (compareOp op') r') (ha:UE X a ta) (hb:UE X b tb) (hc:UE X c tc) (hm:lastMarks [op,op'] [b,c]=false:=by with_unfolding_all rfl):UT X (.Compare a [op,op'] [b,c] pos) (tTest (tChain r r' ta tb tc)):=by with_unfolding_all exact pt_chain ho ho' ha hb hc hm
def tTruth (K:W.Frag) (ta:TE):TT:=fun σ H Q=>ta σ H fun x H'=>∃ k,TruV K x H' k∧Q k H'
theorem utTru (ha:UE X a ta) (he:∀ whole,isTrue a X.env whole=(do let v ← whole;standAt a.pos;holding [v] (truthy v)):=by intro _;rfl):UT X a (tTruth X.K ta):=by with_unfolding_all exact pt_truth ha he
theorem uIfE (hc:UT X c tA) (ha:UE X a ta) (hb:UE X b tb):UE X (.IfExp c a b pos) (tIf tA ta tb):=by with_unfolding_all exact pe_ifExp hc ha hb
theorem uIx (hr:IxR X r) (ha:UE X a ta) (hb:UE X b tb) (hs:PlainIx b:=by exact fun _ _=>rfl):UE X (.Subscript a b pos) (tOp r ta tb):=by with_unfolding_all exact pe_ix hr ha hb hs
theorem uoNone:UO X none tNoPart:=by with_unfolding_all exact po_none
theorem uoSome (ha:UE X a ta):UO X (some a) (tPart ta):=by with_unfolding_all exact po_some ha
theorem uSlc {rs:V→Option Int→Option Int→Hp→VK→Prop} {lo hi:Option Expr} {tl th:TO} (hr:SlR X rs) (ha:UE X a ta) (hl:UO X lo tl) (hh:UO X hi th):UE X (.Subscript a (.Slice lo hi none p2) pos) (tSl rs ta tl th):=by with_unfolding_all exact pe_slice hr ha hl hh
theorem uaStar (ha:UE X e te) (hr:UA X es t) (hs:starEach (.Starred e p :: es) X.env=(true,eval e X.env) :: starEach es X.env:=by rfl):UA X (.Starred e p :: es) (tStar X.K te t):=by with_unfolding_all exact pa_star ha hr hs
theorem uCallB {id:String} {rc:List V→Hp→VK→Prop} (hc:CallR X (.builtin id) rc) (hm:X.mg x=none) (hv:bootBuiltins x=some (.builtin id)) (ha:UA X (e :: es) t) (hg:Gl X x:=by rfl) (hn:x≠"__name__":=by decide) (hdb:(x == ("__debug__":Str))=false:=by decide)
    (he:starEach (e :: es) X.env=(false,eval e X.env) :: starEach es X.env:=by rfl) (hpl:(backTo pos (starEach es X.env)).any (·.1)=false:=by rfl):UE X (.Call (.Name x p) (e :: es) [] pos) (tCB rc t):=by with_unfolding_all exact pe_callB hc hg hm hv ha hn hdb he hpl
theorem uCallTy {T:String} {rc:List V→Hp→VK→Prop} (hc:CallR X (.type T) rc) (hm:X.mg x=none) (hv:bootBuiltins x=some (.type T)) (ha:UA X (e :: es) t) (hg:Gl X x:=by rfl) (hn:x≠"__name__":=by decide) (hdb:(x == ("__debug__":Str))=false:=by decide)
    (he:starEach (e :: es) X.env=(false,eval e X.env) :: starEach es X.env:=by rfl) (hpl:(backTo pos (starEach es X.env)).any (·.1)=false:=by rfl):UE X (.Call (.Name x p) (e :: es) [] pos) (tCB rc t):=by with_unfolding_all exact pe_callTy hc hg hm hv ha hn hdb he hpl
theorem uBm {T name id:String} {rm:V→List V→Hp→VK→Prop} (pa:PlainAttrs T) (slot:Slot T name id) (hty:typeOf (.builtin id)=pure (.type "method_descriptor")) (hm:MtR X id rm) (ho:UE X o to) (ha:UA X (e :: es) t)
    (hbase:attributeBase o name X.env (eval o X.env)=eval o X.env:=by rfl)
    (hfew:((backTo cpos (starEach (e :: es) X.env)).all (fun x=>!x.1) && (backToKw cpos (keywordEach [] X.env)).all (fun x=>x.1.isSome) && decide ((e :: es).length+([]:List Keyword).length+(if ([]:List Keyword).isEmpty then 0 else 1) < 30))=true:=by rfl)
    (hline:(apos.endLine == cpos.line)=true:=by rfl) (hs:starEach (e :: es) X.env=(false,eval e X.env) :: starEach es X.env:=by rfl) (hplain:(backTo cpos (starEach es X.env)).any (·.1)=false:=by rfl) :
    UE X (.Call (.Attribute o name apos) (e :: es) [] cpos) (tBM X.K T rm to t):=by with_unfolding_all exact pe_bm pa slot hty hm ho ha hbase hfew hline hs hplain
theorem ukNil:UK X [] tNil:=by with_unfolding_all exact pk_nil
theorem ukCons {nm:Option Str} {kpos:Pos} (ha:UE X e te) (hr:UK X kws t):UK X (⟨nm,e,kpos⟩ :: kws) (tCons te t):=by with_unfolding_all exact pk_cons ha hr
variable {k:Nat} {f C:Addr} {fd:FuncData} {ps ks:List Str} {sp:Sp} {y:Ly} {cv:List V}
theorem uMakeK {cu:List Value} (B:KB X.K fd ps ks y cu cv) (M:Mk X.K C f) (F:FnOk X.prog X.w X.K X.mg X.base CX0 k f fd ps sp) (hr:Room (k+1) X.A) (hm:X.mg x=some (.ref C)) (ha:UA X (e :: es) t) (hkw:UK X kws tk)
    (hg:Gl X x:=by rfl) (hall:(backToKw pos (keywordEach kws X.env)).all (·.1.isSome)=true:=by rfl) (hks:(backToKw pos (keywordEach kws X.env)).filterMap (·.1)=ks:=by rfl) (hdb:(x == ("__debug__":Str))=false:=by decide)
    (he:starEach (e :: es) X.env=(false,eval e X.env) :: starEach es X.env:=by rfl) (hpl:((backTo pos (starEach (e :: es) X.env)).any (·.1) || (backToKw pos (keywordEach kws X.env)).any (·.1.isNone))=false:=by rfl) :
    UE X (.Call (.Name x p) (e :: es) kws pos) (tMakeK C sp (gOf .non cv y) E0 t tk):=by with_unfolding_all exact pe_makeK M F hr hm B.kb ha hkw hg hall hks hdb he hpl
theorem uCall0 (F:FnOk X.prog X.w X.K X.mg X.base CX0 k f fd ps sp) (hr:Room k X.A) (hm:X.mg x=some (.ref f)) (hk:W.keepIn X.K (.ref f)=true) (hb:Binds X.K fd ps []) (hg:Gl X x:=by rfl) (hdb:(x == ("__debug__":Str))=false:=by decide):UE X (.Call (.Name x p) [] [] pos) (tCall sp [] E0 tNil):=by
  with_unfolding_all exact pe_call0 F hr hg hm hk hb .nil pass0 hdb
theorem uuIsi {cc:Nat} {T:Str} (hc:1≤cc) (hc':cc≤6) (hT:T=Str.ofString (tyS cc)) (hi:X.mg "isinstance"=none) (hm:X.mg T=none) (ha:UE X a ta) (hgi:Gl X "isinstance":=by rfl) (hg:Gl X T:=by rfl) (hn:T≠"__name__":=by decide) (hdb:(T == ("__debug__":Str))=false:=by decide)
    (hs1:starEach [.Name T p2] X.env=[(false,eval (.Name T p2) X.env)]:=by rfl) (he:starEach (a :: [.Name T p2]) X.env=(false,eval a X.env) :: starEach [.Name T p2] X.env:=by rfl) (hpl:(backTo pos (starEach [.Name T p2] X.env)).any (·.1)=false:=by rfl) :
    UE X (.Call (.Name "isinstance" p) [a,.Name T p2] [] pos) (tCB (rIsi1 X.K) (tCons ta (tCons (tC (.ty (tyS cc))) tNil))):=by
  with_unfolding_all
    subst hT
    exact pe_callB call_isi1 hgi hi (by decide +kernel) (pa_cons ha (pa_cons (pe_bltn (v:=.ty (tyS cc)) hg hm (tyB cc hc hc') rfl hn hdb) pa_nil hs1) he) (by decide) (by decide) he hpl
theorem uuIsi2 {c1 c2:Nat} {T1 T2:Str} {kk:Nat} (hc:1≤c1) (hc':c1≤6) (hd:1≤c2) (hd':c2≤6) (hT:T1=Str.ofString (tyS c1)) (hT2:T2=Str.ofString (tyS c2)) (hi:X.mg "isinstance"=none) (hm:X.mg T1=none) (hm2:X.mg T2=none) (ha:UE X a ta) (hgi:Gl X "isinstance":=by rfl) (hg:Gl X T1:=by rfl) (hg2:Gl X T2:=by rfl) (hn:T1≠"__name__":=by decide) (hn2:T2≠"__name__":=by decide)
    (hdb:(T1 == ("__debug__":Str))=false:=by decide) (hdb2:(T2 == ("__debug__":Str))=false:=by decide) (hs2:starEach [.Name T2 p3] X.env=[(false,eval (.Name T2 p3) X.env)]:=by rfl) (hs1:starEach (.Name T1 p2 :: [.Name T2 p3]) X.env=(false,eval (.Name T1 p2) X.env) :: starEach [.Name T2 p3] X.env:=by rfl)
    (hs3:starEach [.Tuple [.Name T1 p2,.Name T2 p3] kk p4] X.env=[(false,eval (.Tuple [.Name T1 p2,.Name T2 p3] kk p4) X.env)]:=by rfl)
    (he:starEach (a :: [.Tuple [.Name T1 p2,.Name T2 p3] kk p4]) X.env=(false,eval a X.env) :: starEach [.Tuple [.Name T1 p2,.Name T2 p3] kk p4] X.env:=by rfl) (hpl:(backTo pos (starEach [.Tuple [.Name T1 p2,.Name T2 p3] kk p4] X.env)).any (·.1)=false:=by rfl) :
    UE X (.Call (.Name "isinstance" p) [a,.Tuple [.Name T1 p2,.Name T2 p3] kk p4] [] pos) (tCB (rIsi2 X.K) (tCons ta (tCons (tTup (tCons (tC (.ty (tyS c1))) (tCons (tC (.ty (tyS c2))) tNil))) tNil))):=by
  with_unfolding_all
    subst hT hT2
    exact pe_callB call_isi2 hgi hi (by decide +kernel) (pa_cons ha (pa_cons (pe_tup (pa_cons (pe_bltn (v:=.ty (tyS c1)) hg hm (tyB c1 hc hc') rfl hn hdb) (pa_cons (pe_bltn (v:=.ty (tyS c2)) hg2 hm2 (tyB c2 hd hd') rfl hn2 hdb2) pa_nil hs2) hs1)) pa_nil hs3) he) (by decide) (by decide) he hpl
theorem ugName (i:Nat) (hN:X.N.Nodup) (hi:X.N[i]?=some x:=by rfl) (hx:Loc X.env.scope x:=by first | exact Or.inl rfl | exact Or.inr rfl) (hf:X.fn x=true∨X.env.scope.names.lookup x=some .local:=by first | exact .inl rfl | exact .inr rfl):UG X (.Name x pos) (gName i):=by with_unfolding_all exact pg_name hN hi hx hf
theorem ugsNil:UGs X [] gNil:=by with_unfolding_all exact pgs_nil
theorem ugsCons (h1:UG X e g) (h2:UGs X es gs) (hs:(assignEach (e :: es) X.env).map (·.2)=assign e X.env :: (assignEach es X.env).map (·.2):=by rfl):UGs X (e :: es) (gCons g gs):=by with_unfolding_all exact pgs_cons h1 h2 hs
theorem ugTup {kk n:Nat} (hc:X.calm=true) (h:UGs X es gs) (hn:(assignEach es X.env).length=n:=by rfl) (hst:(assignEach es X.env).findIdx? (·.1)=none:=by rfl):UG X (.Tuple es kk pos) (gTup X.K n gs):=by with_unfolding_all exact pg_tup hc h hn hst
theorem ugSub (ho : UE X o to) (hi : UE X e te) (ha : ∀ v, assign (.Subscript o e pos) X.env v = (do
      let ov ← holding [v] (eval o X.env)
      let iv ← holding [v,ov] (eval e X.env)
      standAt pos
      holding [v,ov,iv] (setItem ov iv v)
      release [v,ov,iv] []):=by intro _;rfl):UG X (.Subscript o e pos) (gSub to te rSetL):=by with_unfolding_all exact pg_sub ho hi set_list ha
theorem uiTup {tg:Expr} (ha:UE X a ta):UI X tg a (iTup X.K ta):=by with_unfolding_all exact pi_tup ha
def iSq (K:W.Frag) (tl:TE):TI:=fun σ H R=>tl σ H fun x H1=>(∃ z,x=.str z∧R (Its z) H1)∨∃ a,x=.ref a∧(((∃ xs,SqL K H1 a xs)∧R (Itl K a) H1)∨((∃ xs,SqT K H1 a xs)∧R (Itt K a) H1))
theorem uiSeq {tg:Expr} (ha:UE X a ta):UI X tg a (iSq X.K ta):=by with_unfolding_all exact pi_seq ha
theorem uiStr {tg:Expr} (ha:UE X a ta):UI X tg a (iStr ta):=by with_unfolding_all exact pi_str ha
theorem uiRev {tg:Expr} (hm:X.mg "reversed"=none) (hm2:X.mg "range"=none) (ha:UA X [a] t) (hg:Gl X "reversed":=by rfl) (hg2:Gl X "range":=by rfl) (hs:starEach [.Call (.Name "range" p2) [a] [] p3] X.env=[(false,eval (.Call (.Name "range" p2) [a] [] p3) X.env)]:=by rfl) (hs2:starEach [a] X.env=[(false,eval a X.env)]:=by rfl) :
    UI X tg (.Call (.Name "reversed" p) [.Call (.Name "range" p2) [a] [] p3] [] pos) (iRevR t):=by with_unfolding_all exact pi_revrange hg hm hg2 hm2 ha hs hs2
theorem uiEnum {elts:List Expr} {kk:Nat} {tpos:Pos} (hm:X.mg "enumerate"=none) (ha:UA X [e] t) (hg:Gl X "enumerate":=by rfl) (hs:starEach [e] X.env=[(false,eval e X.env)]:=by rfl):UI X (.Tuple elts kk tpos) (.Call (.Name "enumerate" p) [e] [] pos) (iEnum X.K t):=by with_unfolding_all exact pi_enum hg hm ha hs
theorem utsNil:UTs X [] tYes:=by with_unfolding_all exact pts_nil
theorem utsOne (h:UT X c tA):UTs X [c] tA:=by with_unfolding_all exact pts_one h
variable {elt tgE iterE:Expr} {ifs:List Expr} {scope:Scope} {own:List (Str×Nat)} {ow:List Nat}
theorem uLcG (hc:X.calm=true) (hN:X.N.Nodup) (hi:UI X tgE iterE wi) (ok:BlkOk X.N X.env.scope scope own)
    (hg:∀ (s:Shared) (H:Hp) (C':Addr) (cl:List (Str×Addr)) (fp:List Addr),UG (X.blk s H scope (compEnvC scope cl C' X.env) fp) tgE g)
    (ht:∀ (s:Shared) (H:Hp) (C':Addr) (cl:List (Str×Addr)) (fp:List Addr),UTs (X.blk s H scope (compEnvC scope cl C' X.env) fp) ifs tt)
    (he:∀ (s:Shared) (H:Hp) (C':Addr) (cl:List (Str×Addr)) (fp:List Addr),UE (X.blk s H scope (compEnvC scope cl C' X.env) fp) elt te) (hw:own.map (·.2)=ow:=by rfl) (hs:∀ x,foldedSetIterable iterE X.env x=pure x:=by intro _;rfl) :
    UE X (.ListComp elt [⟨tgE,iterE,ifs,0⟩] scope pos) (tLc wi g tt te ow):=by
  subst hw
  with_unfolding_all exact pe_lc hc hN hi ok hg ht he hs
theorem uScG (hc:X.calm=true) (hN:X.N.Nodup) (hi:UI X tgE iterE wi) (ok:BlkOk X.N X.env.scope scope own)
    (hg:∀ (s:Shared) (H:Hp) (C':Addr) (cl:List (Str×Addr)) (fp:List Addr),UG (X.blk s H scope (compEnvC scope cl C' X.env) fp) tgE g)
    (ht:∀ (s:Shared) (H:Hp) (C':Addr) (cl:List (Str×Addr)) (fp:List Addr),UTs (X.blk s H scope (compEnvC scope cl C' X.env) fp) ifs tt)
    (he:∀ (s:Shared) (H:Hp) (C':Addr) (cl:List (Str×Addr)) (fp:List Addr),UE (X.blk s H scope (compEnvC scope cl C' X.env) fp) elt te) (hw:own.map (·.2)=ow:=by rfl) (hs:∀ x,foldedSetIterable iterE X.env x=pure x:=by intro _;rfl) :
    UE X (.SetComp elt [⟨tgE,iterE,ifs,0⟩] scope pos) (tSc X.prog X.w wi g tt te ow):=by
  subst hw
  with_unfolding_all exact pe_sc hc hN hi ok hg ht he hs
theorem usSetLc {i:Nat} {y:Str} {py:Pos} (hc:X.calm=true) (hN:X.N.Nodup) (hy:X.N[i]?=some y) (hyl:X.env.scope.names.lookup y=some .local)
    (hsw:swapsWith (.ListComp elt [⟨tgE,iterE,ifs,0⟩] scope pos) (some (.Name y py)) spos.line X.env=pure true) (hi:UI X tgE iterE wi) (ok:BlkOk X.N X.env.scope scope own)
    (hg:∀ (s:Shared) (H:Hp) (C':Addr) (cl:List (Str×Addr)) (fp:List Addr),UG (X.blk s H scope (compEnvC scope cl C' X.env) fp) tgE g)
    (ht:∀ (s:Shared) (H:Hp) (C':Addr) (cl:List (Str×Addr)) (fp:List Addr),UTs (X.blk s H scope (compEnvC scope cl C' X.env) fp) ifs tt)
    (he:∀ (s:Shared) (H:Hp) (C':Addr) (cl:List (Str×Addr)) (fp:List Addr),UE (X.blk s H scope (compEnvC scope cl C' X.env) fp) elt te) (hw:own.map (·.2)=ow:=by rfl) (hs:∀ x,foldedSetIterable iterE X.env x=pure x:=by intro _;rfl) :
    US X (.Assign [.Name y py] (.ListComp elt [⟨tgE,iterE,ifs,0⟩] scope pos) spos) (tAsg (tLc wi g tt te ow) (gName i)):=by
  subst hw
  with_unfolding_all exact ps_setLc hc hN hy hyl hsw hi ok hg ht he hs
theorem usAsg {tg:Expr} (he:UE X e te) (hg:UG X tg g) (hs:swapsWithSole [tg] e pos.line X.env=pure false:=by rfl) (hw:swappedStores [tg] e X.env=pure none:=by rfl) (h1:(assignEach [tg] X.env).map (·.2)=[assign tg X.env]:=by rfl):US X (.Assign [tg] e pos) (tAsg te g):=by with_unfolding_all exact ps_asg he hg hs hw h1
theorem usPar {i j:Nat} {y:Str} {px py pt:Pos} {kt k2 pt2} (hc:X.calm=true) (hN:X.N.Nodup) (ha:UA X [a,b] t) (hij:i≠j:=by decide) (hi:X.N[i]?=some x:=by rfl) (hj:X.N[j]?=some y:=by rfl) (hx:X.env.scope.names.lookup x=some .local:=by rfl) (hy:X.env.scope.names.lookup y=some .local:=by rfl)
    (hw:swappedStores [.Tuple [.Name x px,.Name y py] kt pt] (.Tuple [a,b] k2 pt2) X.env=pure (some [x,y]):=by rfl) (hs:swapsWithSole [.Tuple [.Name x px,.Name y py] kt pt] (.Tuple [a,b] k2 pt2) pos.line X.env=pure false:=by rfl) :
    US X (.Assign [.Tuple [.Name x px,.Name y py] kt pt] (.Tuple [a,b] k2 pt2) pos) (tPar i j t):=by with_unfolding_all exact ps_par hc hN hi hj hij hx hy ha hw hs
theorem usAug {i:Nat} {op:Operator} {ti:TIp} (hN:X.N.Nodup) (he:UE X e te) (ho:PIp X op ti) (hi:X.N[i]?=some x:=by rfl) (hx:Loc X.env.scope x:=by first | exact Or.inl rfl | exact Or.inr rfl) (hf:X.fn x=true∨X.env.scope.names.lookup x=some .local:=by first | exact .inl rfl | exact .inr rfl) :
    US X (.AugAssign (.Name x pos') op e pos) (tAug i te ti):=by with_unfolding_all exact ps_aug hN hi hx he ho hf
theorem usWhile (hp:PassesOwn (model X.prog X.w) X.A X.env X.xe) (hc:UT X c tA) (hb:UB X sts u):US X (.While c sts [] pos) (tWhile tA u):=by with_unfolding_all exact ps_while hp hc hb
theorem usForG {tg iter:Expr} (hc:X.calm=true) (hi:UI X tg iter wi) (hg:UG X tg g) (hb:UB X sts u) (hp:PassesOwn (model X.prog X.w) X.A X.env X.xe) (hs:∀ x,foldedSetIterable iter X.env x=pure x:=by intro _;rfl) :
    US X (.For tg iter sts [] pos) (tFor wi g u):=by with_unfolding_all exact ps_for hp hc hi hg hb hs
theorem usFld {f:Str} (ho:UE X o to) (he:UE X e te) (hs:swapsWith e (some (.Attribute o f pos')) pos.line X.env=pure false:=by rfl):US X (.Assign [.Attribute o f pos'] e pos) (sFld X.K to te f):=by with_unfolding_all exact ps_fld ho he hs
theorem usExpr (he:UE X e te) (hs:swapsWith e none pos.line X.env=pure false:=by rfl):US X (.Expr e pos) (tDrop te):=by with_unfolding_all exact ps_expr he hs
theorem usNever:US X st tNever:=by with_unfolding_all exact ps_never
end
end
section
abbrev rAdS:R2:=fun x y H Q=>∃ i j,x=.str i∧y=.str j∧i.length+j.length≤sizeLine∧Q (.str (i++j)) H
abbrev rInS:R2:=fun x y H Q=>∃ (c:Nat) (z:Str),x=.str ⟨#[c]⟩∧y=.str z∧Q (.bl (decide (c∈z.cps.toList))) H
abbrev RC:=List V→Hp→VK→Prop
abbrev rLenS (P:Program) (w:World):RC:=fun xs H Q=>∃ a ks,xs=[V.ref a]∧H a=some (SetK P w a ks)∧Q (.int ks.length) H
abbrev rLenStr:RC:=fun xs H Q=>∃ z,xs=[.str z]∧z.length≤sizeLine∧Q (.int z.length) H
abbrev rLenSq (K:W.Frag):RC:=fun xs H Q=>∃ p ys,xs=[.ref p]∧(SqL K H p ys∨SqT K H p ys)∧Q (.int ys.length) H
abbrev rListOf (K:W.Frag):RC:=fun xs H Q=>∃ p ys,xs=[.ref p]∧(SqL K H p ys∨SqT K H p ys)∧∀ l,H l=none→Q (.ref l) (upd H l (.lst ys))
abbrev rTupOf (K:W.Frag):RC:=fun xs H Q=>∃ p ys,xs=[.ref p]∧((SqL K H p ys∧∀ l,H l=none→Q (.ref l) (upd H l (.tup ys)))∨(SqT K H p ys∧Q (.ref p) H))
abbrev rMax2:RC:=fun xs H Q=>∃ i j,xs=[.int i,.int j]∧Q (.int (if j > i then j else i)) H
abbrev rMin2:RC:=fun xs H Q=>∃ i j,xs=[.int i,.int j]∧Q (.int (if j < i then j else i)) H
abbrev rStrX:RC:=fun xs H Q=>(∃ z,xs=[.str z]∧z.length≤sizeLine∧Q (.str z) H)∨∃ i:Int,xs=[.int i]∧i.natAbs.log2 < 1920∧Q (.str (Str.ofString (toString i))) H
abbrev rIntS:RC:=fun xs H Q=>∃ a n,xs=[.str a]∧PySem.intText? a=some n∧a.length≤640∧Q (.int n) H
abbrev rSplit:V→List V→Hp→VK→Prop:=fun x xs H Q=>∃ a b,x=.str a∧xs=[.str b]∧(b.length == 0)=false∧a.length+2≤sizeLine∧rNewStrs (Txt.split a b) H Q
abbrev rPart:V→List V→Hp→VK→Prop:=fun x xs H Q=>∃ a b,x=.str a∧xs=[.str b]∧(b.length == 0)=false∧a.length≤sizeLine∧∀ p,H p=none→Q (.ref p) (upd H p (.tup [.str (Txt.partition a b).1,.str (Txt.partition a b).2.1,.str (Txt.partition a b).2.2]))
abbrev rJoin (K:W.Frag):V→List V→Hp→VK→Prop:=fun x xs H Q=>∃ a p,∃ ys:List Str,x=.str a∧xs=[.ref p]∧(SqL K H p (ys.map V.str)∨SqT K H p (ys.map V.str))∧(ys.map (·.length)).sum+ys.length * a.length≤16777216∧Q (.str (Txt.join a ys)) H
section
variable {X:Cx} {a:Expr} {ta:TE} {pos:Pos}
theorem uUn {op:UnaryOp} {r:V→Hp→VK→Prop} (ho:UnR X (unaryOp op) r) (ha:UE X a ta):UE X (.UnaryOp op a pos) (tUn r ta):=by with_unfolding_all exact pe_un ho ha
end
end
end
end Ev
namespace Ev
noncomputable section
open PySem PySem.Spec PyProof.Rows L2
section
variable {X:Cx} {e:Expr} {te:TE} {pos p2:Pos}
def tRevSl (K:W.Frag) (te:TE) (tk:TO):TE:=fun σ H Q=>te σ H fun x H1=>tk σ H1 fun k H2=>k=some (-1)∧∃ a xs,x=.ref a∧SqL K H2 a xs∧∀ p,H2 p=none→Q (.ref p) (L2.upd H2 p (.lst xs.reverse))
theorem vals_rev:∀ {xs:List V} {us:List Value},Vals xs us→Vals xs.reverse us.reverse
  | _,_,.nil=>.nil
  | _,_,.cons h t=>by
    rw[List.reverse_cons,List.reverse_cons]
    exact (vals_rev t).append (.cons h .nil)
theorem pe_revsl {st:Option Expr} {tk:TO} (he:PE X e te) (hk:PO X st tk) (hs:∀ o i,∃ ops,subscripted (.Slice none none st p2) false o i=operate ops (getItem o i)):PE X (.Subscript e (.Slice none none st p2) pos) (tRevSl X.K te tk):=by
  intro pins s σ H Q I h
  refine Subscript_ (thn (he pins s σ H _ I h) fun v s1 ⟨x,H1,I1,r1,q1⟩=>?_)
  refine wpAny_Slice ?_
  rw[evalPart_none]
  refine wpAny_pure (wpAny_pure ?_)
  refine thn (hk pins s1 σ H1 _ I1 q1) fun vk s2 ⟨k,H2,I2,pk,ek,a,xs,ex,hx,q2⟩=>?_
  subst ek ex
  cases r1
  have I4:L2.Inv X pins σ H2 { s2 with heap:=s2.heap.push { cls:=.type "slice",data:=.fields #[.none,.none,vk] } }:=I2.kept (t':=s2.toks) fun b ob q=>Heap.get?_push_of_some _ q
  obtain⟨its,r,ht,hz⟩:=I4.list hx
  have hlen:=r.length
  show wpAny (model X.prog X.w) X.A (subscriptTail e (.Slice none none st p2) (.ref a) (.ref s2.heap.objs.size)) (EP X pins σ Q) X.xe { s2 with heap:=s2.heap.push { cls:=.type "slice",data:=.fields #[.none,.none,vk] } }
  obtain⟨ops,hops⟩:=hs (.ref a) (.ref s2.heap.objs.size)
  refine tail_any (ops:=ops) ht.isList.typeIs slot_list_getitem.lookup ?_ hops
  refine wpAny_getItem_list_slice ht.isList (Heap.IsSliceOf.new ..) .none .none pk (by decide) ?_ (by rw[List.size_toArray] <;> omega)
  rw[W.krv_pick]
  refine⟨.ref _,_,I4.laid (t':=s2.toks) (o:=.lst xs.reverse) (fun b ob q=>Heap.get?_push_of_some _ q) (Nat.le_refl _) ?_,rfl,q2 _ (I4.hok.fresh (Nat.le_refl _))⟩
  exact⟨by rw[List.length_reverse];exact hz,_,0,vals_rev r,Heap.get?_push_size _ rfl⟩
theorem uRevSl {st:Option Expr} {tk:TO} (he:UE X e te) (hk:UO X st tk) (hs:∀ o i,∃ ops,subscripted (.Slice none none st p2) false o i=operate ops (getItem o i):=by intro o i;exact⟨_,by with_unfolding_all rfl⟩):UE X (.Subscript e (.Slice none none st p2) pos) (tRevSl X.K te tk):=by with_unfolding_all exact pe_revsl he hk hs
end
structure FnAt (P:Program) (w:World) (K:W.Frag) (mg:Str→Option Value) (base:Heap) (k:Nat) (f:Addr) (fd:FuncData) (ps:List Str) (sp:Sp):Prop where
  len:∀ vs H Q E,sp vs H Q E→vs.length=ps.length
  run:∀ (outer:List Env) (s:Shared) (H:Hp) (args:Args) (us:List Value) (vs:List V) (Q:VK) (E:XK),Room k callerA→Env0 P w K mg base callerA outer s H→BindsTo s fd args (ps.zip us)→Vals vs us→sp vs H Q E →
    codeAny (model P w) callerA (.call (.ref f) args) (CR CX0 outer P w H s Q E) s
theorem fn_at {P:Program} {w:World} {K:W.Frag} {mg:Str→Option Value} {base:Heap} {k:Nat} {f:Addr} {name qual:Str} {params:Arguments} {body:List Stmt} {scope:Scope} {dV kV doc pm cdv ct oc:Value} {an od:Option Addr}
    {osl:Array (Option Value)} {N ps:List Str} {sp:Sp} (lk:K.lookup f=some ⟨oc,od,.func (W.fnOf name qual params body scope dV kV doc pm an cdv ct),osl⟩) (hcd:W.codeIn K cdv qual=true) (S:FnScope N ps scope)
    (len:∀ vs H Q E,sp vs H Q E→vs.length=ps.length)
    (hbody:∀ (outer:List Env) (s:Shared) (H:Hp) (vs:List V) (Q:VK) (E:XK),Room k (callerA.deeper (envOfC qual scope s.heap.objs.size f cdv))→sp vs H Q E →
      ∃ t,PSs (cxOf CX0 P w K mg base N qual scope f cdv callerA outer s H E) body t∧t { nx:=fun _ H'=>Q .non H',rt:=Q } (start N vs) H) :
    FnAt P w K mg base (k+1) f (W.fnOf name qual params body scope dV kV doc pm an cdv ct) ps sp:=by
  refine⟨len,fun outer s H args us vs Q E hr e0 hb r hsp=>?_⟩
  have hl:=len _ _ _ _ hsp
  have KX:K.In s.heap:=e0.mod.kin.keeps fun b o e=>(e0.bs b o e).1
  have lim:s.heap.NoLimit:=e0.mod.nolimit.keeps fun b o e=>(e0.bs b o e).1
  have hkind:∀ y∈ps.zip us,scope.names.lookup y.1=some .local∨(scope.names.lookup y.1=some .cell∧((cellsFrom (s.heap.objs.size+1) scope.names []).lookup y.1).isSome=true):=fun ⟨n,v⟩ hy=>by
    rcases S.par n (List.of_mem_zip hy).1 with q | q
    · exact .inl q
    · exact .inr ⟨q,W.cellsFrom_some _ _ _ (.inl q)⟩
  refine codeAny_call_function hr.depth (KX _ _ lk) rfl S.co S.gen rfl (W.codeRec_of KX hcd) (hb _ _ _ _ ?_)
  refine wpAny_newFunctionEnv_cells S.kind hkind fun env he s1 x=>?_
  subst he
  refine⟨lim.keeps x.toInCall.keep,codeAny_func ?_⟩
  obtain⟨t,ht,hq⟩:=hbody outer s H vs Q E (hr.deeper _) hsp
  have I:Inv (cxOf CX0 P w K mg base N qual scope f cdv callerA outer s H E) [] (start N vs) H s1:=inv_start S hr.hd e0 hl r x
  refine wpAny_mono (ht [] s1 (start N vs) H _ I hq) (fun fl s' hs=>?_) fun e s' hs=>hs
  have fin:∀ {σ':St} {H':Hp} {v:V} {u:Value},Inv (cxOf CX0 P w K mg base N qual scope f cdv callerA outer s H E) [] σ' H' s'→RelV v u→Q v H'→CE outer P w H s Q u s' :=
    fun {σ' H' v u} J rv q=>⟨v,H',J.os,J.bare,J.base,J.hok,rv,q⟩
  cases fl with
  | ret u =>
    obtain⟨v,σ',H',J,rv,q⟩:=hs
    exact fin J rv q
  | next =>
    obtain⟨σ',H',J,q⟩:=hs
    exact fin (v:=V.non) (u:=Value.none) J rfl q
  | brk =>
    obtain⟨_,_,_,q⟩:=hs
    exact False.elim q
  | cont =>
    obtain⟨_,_,_,q⟩:=hs
    exact False.elim q
theorem uFnAt {Pg:Program} {w:World} {K:W.Frag} {mg:Str→Option Value} {base:Heap} {x qual:Str} {st:Stmt} {f:Addr} {fd:FuncData} {Ns ps:List Str} {k:Nat} {sp:Sp} {t:TS} (F:Fun K x qual st f fd) (S:FnScope Ns ps (defScope st)) (len:∀ vs H Q E,sp vs H Q E→vs.length=ps.length)
    (hbody:∀ (cdv:Value) (outer:List Env) (s:Shared) (H:Hp) (E:XK),Room k (callerA.deeper (PyProof.Rows.envOfC qual (defScope st) s.heap.objs.size f cdv))→UB (cxOf CX0 Pg w K mg base Ns qual (defScope st) f cdv callerA outer s H E).nox (defBody st) t)
    (hr:∀ vs H Q E,sp vs H Q E→t { nx:=fun _ H'=>Q .non H',rt:=Q } (start Ns vs) H):FnAt Pg w K mg base (k+1) f fd ps sp:=by
  with_unfolding_all
    obtain⟨oc,od,kV,doc,pm,an,cdv,ct,osl,rfl,lk,hcd⟩:=F.ex
    refine fn_at lk hcd S len fun outer s H vs Q E hr' hsp=>⟨t,(hbody cdv outer s H E hr').nox,hr vs H Q E hsp⟩
theorem law_callA {P:Program} {w:World} {K:W.Frag} {mg mb:Str→Option Value} {k:Nat} {fa a:Addr} {fd:FuncData} {x:Str} {sp:Sp} {s₁:Shared} {vs:List Value} {ns:List Int} (ts:List Addr)
    (KX:K.In s₁.heap) (hts:∀ T∈ts,s₁.heap.get? T=some (W.tabObj #[])∧K.lookup T=none∧isCodeTable s₁.heap T)
    (hbm:∃ bm ob,mg "__builtins__"=some (.ref bm)∧bm≠builtinsNs∧s₁.heap.get? bm=some ob∧ob.cls=.type "module"∧ob.dict=some builtinsNs∧ob.data=.plain) (hns:s₁.heap.Ns mainGlobals mg) (hb:s₁.heap.Ns builtinsNs mb) (hbb:∀ x:Str,x≠"__name__"→mb x=bootBuiltins x) (hlim:s₁.heap.NoLimit) (hg:s₁.gens=#[])
    (ha:s₁.heap.get? a=some { cls:=.type "list",data:=.seq vs.toArray }) (hi:IntsAre vs ns) (hl:ns.length≤sizeLine) (hr:Room k callerA)
    (F:∀ base:Heap,K.In base→base.Ns mainGlobals mg→BmOk ts mg base→FnAt P w K mg base k fa fd [x] sp) (hbind:∀ (s:Shared) (u:Value),BindsTo s fd ⟨[u],[]⟩ [(x,u)])
    (hsp:∀ H:Hp,OnlyT ts H→(∀ T∈ts,H T=some (.tbl #[]))→SqL K H a (ns.map V.int)→sp [.ref a] H (fun v _=>v=.bl true) E0) :
    codeAny (model P w) callerA (.call (.ref fa) ⟨[.ref a],[]⟩) (fun r s'=>r=.ok (.ret (.bool true))∧OldK s₁.heap s'.heap∧s'.os=s₁.os∧AllBare s'.gens) s₁:=by
  have rv:=vals_ints hi
  have lenV:=hi.length
  have aT:a∉ts:=fun z=>by
    have:=(hts a z).1
    rw[ha] at this
    cases this
  have core:∀ H:Hp,OnlyT ts H→(∀ T∈ts,H T=some (.tbl #[]))→SqL K H a (ns.map V.int)→HOk P w H s₁.heap→(∀ b,H b≠none→b=a∨b∈ts)→(H a≠none→K.lookup a=none) →
      codeAny (model P w) callerA (.call (.ref fa) ⟨[.ref a],[]⟩) (fun r s'=>r=.ok (.ret (.bool true))∧OldK s₁.heap s'.heap∧s'.os=s₁.os∧AllBare s'.gens) s₁:=by
    intro H hO hT hS hok hA hK
    have base_of:∀ {b:Addr} {o:Obj},s₁.heap.get? b=some o→H b=none→(hidT s₁.heap H).get? b=some o:=fun e n=>hidT_get e n
    have noA:∀ {b:Addr} {o:Obj} {es:Array DictEntry} {ep:Nat},s₁.heap.get? b=some o→o.data=.dict es ep→H b=none:=fun {b o es ep} e d=>by
      cases q:H b with
      | none=>rfl
      | some u =>
        rcases hA b (by rw[q];simp) with e' | e'
        · subst e'
          rw[ha] at e;cases e
          have d':Data.seq vs.toArray _=Data.dict es ep:=d
          cases d'
        · rw[(hts b e').1] at e;cases e
          have d':Data.fields #[]=Data.dict es ep:=d
          cases d'
    have nsK:∀ {b:Addr} {m:Str→Option Value},s₁.heap.Ns b m→(hidT s₁.heap H).Ns b m:=fun {b m} ⟨o,es,ep,e,d,r⟩=>⟨o,es,ep,base_of e (noA e d),d,r⟩
    have hKb:K.In (hidT s₁.heap H):=fun b o e=>base_of (KX b o e) (by
      cases q:H b with
      | none=>rfl
      | some u =>
        rcases hA b (by rw[q];simp) with e' | e'
        · subst e'
          rw[hK (by rw[q];simp)] at e;cases e
        · rw[(hts b e').2.1] at e;cases e)
    have hM:Mod K mg (hidT s₁.heap H):=⟨hKb,nsK hns,⟨mb,nsK hb,hbb⟩,let ⟨mc,h1,h2⟩:=hlim;⟨mc,nsK h1,h2⟩⟩
    have hB:BmOk ts mg (hidT s₁.heap H):=by
      obtain⟨bm,ob,e1,e2,e3,e4,e5,e6⟩:=hbm
      have n1:bm∉ts:=fun z=>by
        rw[(hts bm z).1] at e3;cases e3
        have d':Data.fields #[]=Data.plain:=e6
        cases d'
      refine⟨bm,ob,e1,e2,fun z=>?_,n1,base_of e3 ?_,e4,e5,e6⟩
      · obtain⟨o',es,ep,h1,h2,_⟩:=hns
        rw[← z,e3] at h1;cases h1
        rw[e6] at h2;cases h2
      · cases q:H bm with
        | none=>rfl
        | some u =>
          rcases hA bm (by rw[q];simp) with e' | e'
          · subst e'
            rw[ha] at e3;cases e3
            have d':Data.seq vs.toArray _=Data.plain:=e6
            cases d'
          · exact absurd e' n1
    have e0:Env0 P w K mg (hidT s₁.heap H) callerA [] s₁ H:=⟨rfl,hM,fun b o e=>of_hidT e,Nat.le_of_eq (hidT_size _ _),trivial,fun b hb=>absurd (show b∈([]:List Addr) from hb) (by simp),hok,.of_eq hg⟩
    refine codeAny_mono ((F _ hKb (nsK hns) hB).run [] s₁ H ⟨[.ref a],[]⟩ [.ref a] [.ref a] _ _ hr e0 (hbind s₁ (.ref a)) (.cons rfl .nil) (hsp H hO hT hS)) fun r s' h=>?_
    cases r with
    | error e=>exact h.elim
    | ok fl =>
      cases fl with
      | next=>exact False.elim h
      | brk=>exact False.elim h
      | cont=>exact False.elim h
      | ret u =>
        obtain⟨v,H',os,bare,un,hok',r',q⟩:=h
        have q':v=.bl true:=q
        subst q'
        obtain rfl:u=Value.bool true:=r'
        have keep:∀ b o,s₁.heap.get? b=some o→b∉ts→s'.heap.get? b=some o:=fun b o e hb=>by
          cases q:H b with
          | none=>exact un.keep b o e q (by intro z;exact absurd (show b∈([]:List Addr) from z) (by simp)) (by simp)
          | some u =>
            rcases hO b with z | ⟨ob,xs,z⟩ | ⟨z,_⟩
            · rw[q] at z;cases z
            · have z2:=un.frzs b ob _ z
              obtain⟨e1,_⟩:=hok b _ z
              obtain⟨e2,_⟩:=hok' b _ z2
              rw[e] at e1;cases e1
              exact e2
            · exact absurd z hb
        refine⟨rfl,⟨fun b o e=>?_,fun b o e=>?_⟩,os,bare⟩
        · by_cases hbt:b∈ts
          · obtain⟨g1,_,g3⟩:=hts b hbt
            rw[g1] at e;cases e
            obtain⟨more,hm⟩:=un.tbls b #[] (hT b hbt)
            have e2:s'.heap.get? b=some { cls:=.none,data:=.fields (#[]++more) }:=hok' b _ hm
            exact .inr (.inl ⟨g3,rfl,#[],more,rfl,e2⟩)
          · exact .inl (keep b o e hbt)
        · by_cases hbt:b∈ts
          · obtain⟨more,hm⟩:=un.tbls b #[] (hT b hbt)
            exact⟨_,hok' b _ hm⟩
          · exact⟨o,keep b o e hbt⟩
  let HT:Hp→Hp:=fun H b=>if b∈ts then some (.tbl #[]) else H b
  have hin:∀ (H:Hp) b,b∈ts→HT H b=some (.tbl #[]):=fun H b hb=>if_pos hb
  have hout:∀ (H:Hp) b,b∉ts→HT H b=H b:=fun H b hb=>if_neg hb
  cases hk:K.lookup a with
  | some o =>
    have e:=KX a o hk
    rw[ha] at e
    cases e
    let HN:Hp:=fun _=>none
    refine core (HT HN) (fun b=>?_) (hin HN) (.inr ⟨_,vs.toArray,_,hk,rfl,rfl,rfl,by rw[List.size_toArray,lenV];exact hl,by simpa using rv⟩) (fun b u z=>?_) (fun b z=>?_) (fun z=>?_)
    · by_cases hb:b∈ts
      · exact .inr (.inr ⟨hb,hin HN b hb⟩)
      · exact .inl (hout HN b hb)
    · by_cases hb:b∈ts
      · rw[hin HN b hb] at z;cases z
        exact (hts b hb).1
      · rw[hout HN b hb] at z;cases z
    · by_cases hb:b∈ts
      · exact .inr hb
      · exact absurd (hout HN b hb) z
    · exact absurd (hout HN a aT) z
  | none =>
    let HS:Hp:=fun b=>if b=a then some (.frz { cls:=.type "list",data:=.seq vs.toArray } (.lst (ns.map V.int))) else none
    have ea:HT HS a=some (.frz { cls:=.type "list",data:=.seq vs.toArray } (.lst (ns.map V.int))):=(hout HS a aT).trans (if_pos rfl)
    refine core (HT HS) (fun b=>?_) (hin HS) (.inl (.inr ⟨{ cls:=.type "list",data:=.seq vs.toArray },ea⟩)) (fun b u z=>?_) (fun b z=>?_) fun _=>hk
    · by_cases hbt:b∈ts
      · exact .inr (.inr ⟨hbt,hin HS b hbt⟩)
      · by_cases hb:b=a
        · subst hb;exact .inr (.inl ⟨_,_,ea⟩)
        · exact .inl ((hout HS b hbt).trans (if_neg hb))
    · by_cases hbt:b∈ts
      · rw[hin HS b hbt] at z;cases z
        exact (hts b hbt).1
      · by_cases hb:b=a
        · subst hb
          rw[ea] at z;cases z
          exact⟨ha,by rw[List.length_map];exact hl,vs,_,rv,ha⟩
        · have z':=((hout HS b hbt).trans (if_neg hb)).symm.trans z
          cases z'
    · by_cases hbt:b∈ts
      · exact .inr hbt
      · by_cases hb:b=a
        · exact .inl hb
        · exact absurd ((hout HS b hbt).trans (if_neg hb)) z
theorem walkA {l:W.OpenLaw} {q:Program} {loose:List Str} {XP:(Str→Option Value)→Heap→Prop} {YP:World→Heap→Prop} {d:DefRec} {K:Params→W.Frag} {k:Nat} {x:Str} {sp:World→List Addr→Sp} (ts:List Addr) (hn:l.most=some 63) (hdf:d.params.defaults=[]) (hr:Room k callerA)
    (hY:∀ (w:World) (h:Heap),YP w h→(K w.params).In h∧∀ T∈ts,h.get? T=some (W.tabObj #[]))
    (F:∀ (w:World) (mg:Str→Option Value) (fa:Addr) (h:Heap),(K w.params).In h→h.Ns mainGlobals mg→mg d.name=some (.ref fa) →
      ∃ (fd:FuncData) (us:List Addr),(∀ (s:Shared) (u:Value),BindsTo s fd ⟨[u],[]⟩ [(x,u)])∧(∀ T∈us,T∈ts∧(K w.params).lookup T=none∧∀ h:Heap,(K w.params).In h→isCodeTable h T) ∧
        (∀ base:Heap,(K w.params).In base→base.Ns mainGlobals mg→BmOk us mg base→FnAt l.prog w (K w.params) mg base k fa fd [x] (sp w us)) ∧
        ∀ (H:Hp) (a:Addr) (ns:List Int),ns.length≤63→OnlyT us H→(∀ T∈us,H T=some (.tbl #[]))→SqL (K w.params) H a (ns.map V.int)→sp w us [.ref a] H (fun v _=>v=.bl true) E0) :
    W.WalkO q loose XP YP l.row.toRowW d [] (fun f vs=>PySem.call f vs):=by
  refine Att.attach_call hn hdf fun w s₀ s₁ mg mb fa o pm cd doc a vs ns G Y ho hd hcd hmg hobj hints hlen hg=>?_
  obtain⟨KX,hT⟩:=hY w _ Y
  obtain⟨fd,us,hb,hus,hF,hsp⟩:=F w mg fa _ KX G.T.g hmg
  exact law_callA us KX (fun T hT'=>⟨hT T (hus T hT').1,(hus T hT').2.1,(hus T hT').2.2 _ KX⟩) G.T.bmain G.T.g G.T.b G.T.builtins G.T.nolimit hg hobj hints (Nat.le_trans hlen (by decide)) hr hF hb fun H h1 h2 h3=>hsp H a ns hlen h1 h2 h3
end
end Ev
namespace Ev
noncomputable section
open PySem PySem.Spec PyProof.Rows L2 Att
section
structure KeyTx (P:Program) (w:World) (p:Str) (body:Expr) (scope:Scope) (kf:Heap→Value→Int→Prop):Prop where
  run:∀ (A:Around) (env:Env) (s:Shared) (u:Value) (k:Int) (m:Str→Option Value),env.scope=scope→s.heap.Ns env.locals m→m p=some u→kf s.heap u k →
    wpAny (model P w) A (eval body env) (fun z s'=>(∃ tk,z=.int k tk)∧∃ t,s'={ s with toks:=t }) (fun _ _=>False) s
section
variable {X:Cx} {pins:List (Addr×Obj)} {σ:L2.St} {H:Hp} {s:Shared} {q c:Addr} {qual p:Str} {params:Arguments} {body:Expr} {scope:Scope}
end
end
section
variable {X:Cx} {p:Str} {params:Arguments} {body:Expr} {scope:Scope}
end
end
end Ev
namespace Ev
noncomputable section
open PySem PySem.Spec L2
section
variable {X:Cx} {a b c e o i value:Expr} {es:List Expr} {kws:List Keyword} {ta tb te tc to td ty tv:TE} {tA tB' tt:TT} {t tk:TA} {u v:TS} {wi:TI} {g:TG} {gs:TGs} {pos p p1 pos' p2 p3 p4 apos cpos spos tpos:Pos} {st:Stmt} {sts sts':List Stmt} {r r':R2} {x m:Str}
variable {k:Nat} {f C:Addr} {fd:FuncData} {ps ks:List Str} {sp:Sp} {y:Ly} {cv:List V}
theorem uLVals (hc:X.calm=true) (hm:X.mg "list"=none) (ho:UE X o td) (hg:Gl X "list":=by rfl) (hbase:attributeBase o "values" X.env (eval o X.env)=eval o X.env:=by rfl) (hline:(apos.endLine == cpos.line)=true:=by rfl)
    (hs:starEach [.Call (.Attribute o "values" apos) [] [] cpos] X.env=[(false,eval (.Call (.Attribute o "values" apos) [] [] cpos) X.env)]:=by rfl):UE X (.Call (.Name "list" p1) [.Call (.Attribute o "values" apos) [] [] cpos] [] pos) (tLVals td):=by
  with_unfolding_all exact pe_lvals hc hm ho hg hbase hline hs
variable {q:Str} {params:Arguments} {body:Expr} {scope:Scope} {P:Addr} {lpos kp1 kp2:Pos} {kk j:Nat}
variable {kx vx tgE iterE:Expr} {ifs:List Expr} {own:List (Str×Nat)} {ow:List Nat}
end
end
end Ev
namespace Ev
noncomputable section
open PySem PySem.Spec PyProof.Rows L2
section
variable {X:Cx}
end
section
variable {X:Cx} {e:Expr} {te:TE} {p1 pos cpos lpos kp1 kp2:Pos} {q:Str} {params:Arguments} {body:Expr} {scope:Scope} {P:Addr} {kk j:Nat} {ql:Str}
end
section
variable {X:Cx}
variable {o e:Expr} {to te:TE} {pos:Pos}
end
section
variable {X:Cx} {o e f k v:Expr} {td ty tx tk tv:TE} {pos apos cpos:Pos} {keys ks:List (Option Expr)} {values vs:List Expr} {trs:List (TE×TE)}
end
section
variable {X:Cx} {pins:List (Addr×Obj)} {σ:L2.St} {H:Hp} {s:Shared}
end
section
variable {prog:Program} {w:World} {h₀:Heap} {a:Addr}
variable {A:Around} {E:Value→Shared→Prop} {s:Shared} {Q:Value→Shared→Prop} {d:PyData} {T idr:String}
end
section
variable {X:Cx} {pins:List (Addr×Obj)} {σ:L2.St} {H:Hp} {s:Shared}
end
section
structure FnG (P:Program) (w:World) (K:W.Frag) (mg:Str→Option Value) (base:Heap) (k:Nat) (f:Addr) (fd:FuncData) (ps:List Str) (sp:Sp):Prop where
  len:∀ vs H Q E,sp vs H Q E→vs.length=ps.length
  run:∀ (A:Around) (outer:List Env) (s:Shared) (H:Hp) (args:Args) (us:List Value) (vs:List V) (Q:VK) (E:XK),A.guards=some []→Room k A→Env0 P w K mg base A outer s H→BindsTo s fd args (ps.zip us)→Vals vs us→sp vs H Q E →
    codeAny (model P w) A (.call (.ref f) args) (CR CX0 outer P w H s Q E) s
section
variable {X:Cx} {k:Nat} {f:Addr} {fd:FuncData} {ps:List Str} {sp:Sp} {x:Str} {e:Expr} {es:List Expr} {t:TA} {p pos:Pos}
end
end
section
variable {X:Cx}
end
section
variable {X:Cx} {pins:List (Addr×Obj)} {σ:L2.St} {H:Hp} {s:Shared}
end
section
variable {X:Cx} {pins:List (Addr×Obj)} {σ:L2.St} {H:Hp} {s:Shared}
end
end
end Ev
namespace Ev
noncomputable section
open PySem PySem.Spec L2
section
variable {X:Cx} {a b c:Expr} {t:TA} {p pos:Pos} {x y z:Str}
end
end
end Ev
namespace Ev
noncomputable section
open PySem PySem.Spec PyProof.Rows L2 Att
section
variable {X:Cx} {pins:List (Addr×Obj)} {σ:L2.St} {H:Hp} {s:Shared} {q c:Addr} {qual p:Str} {params:Arguments} {body:Expr} {scope:Scope}
end
section
variable {X:Cx} {p:Str} {params:Arguments} {body:Expr} {scope:Scope}
end
section
variable {X:Cx} {e:Expr} {te:TE} {p1 pos cpos lpos kp1 kp2:Pos} {q:Str} {params:Arguments} {body:Expr} {scope:Scope} {P:Addr} {kk j:Nat} {ql:Str}
end
end
end Ev
namespace Ev
noncomputable section
open PySem PySem.Spec PyProof.Rows L2
section
variable {X:Cx}
end
section
variable {X:Cx} {pins:List (Addr×Obj)} {σ:L2.St} {H:Hp} {s:Shared} {q c:Addr} {qual p:Str} {params:Arguments} {body:Expr} {scope:Scope} {t:TE}
end
section
variable {X:Cx} {pins:List (Addr×Obj)} {σ:L2.St} {H:Hp} {s:Shared} {q c:Addr} {qual p:Str} {params:Arguments} {body:Expr} {scope:Scope} {t:TE}
end
section
variable {X:Cx} {e:Expr} {te:TE} {p1 pos cpos lpos kp1 kp2:Pos} {q:Str} {params:Arguments} {body:Expr} {scope:Scope} {P:Addr} {kk j:Nat} {ql:Str}
end
section
variable {prog:Program} {w:World} {A:Around} {s:Shared}
end
section
variable {X:Cx}
end
section
variable {prog:Program} {w:World} {A:Around} {s:Shared}
end
section
variable {X:Cx}
end
section
variable {X:Cx} {pins:List (Addr×Obj)} {σ:L2.St} {H:Hp} {s:Shared} {shape:Nat→Bool}
end
section
variable {X:Cx} {pins:List (Addr×Obj)} {σ:L2.St} {H1 H':Hp} {s1 s':Shared} {x C:Addr}
end
section
variable {X:Cx} {pins:List (Addr×Obj)} {σ:L2.St} {H:Hp} {s:Shared}
theorem forget (I:L2.Inv X pins σ H s) {h':Heap} {m':Str→Option Value} {t:Nat} (hn':h'.Ns X.env.locals m') (hs:Heap.SameBut X.env.locals s.heap h'):L2.Inv X pins (σ.map fun _=>none) H { s with heap:=h',toks:=t }:=by
  obtain⟨m,hn,hl⟩:=id I.loc
  have cne:=I.cne
  obtain⟨oL,_,_,hoL,_⟩:=id hn
  refine⟨I.ok,I.os,I.bare,⟨fun b o e n hb hx=>?_,fun b o e n hb hx=>?_,I.base.free,fun b o e hx=>?_,I.base.tups,I.base.frzs,I.base.tbls⟩,⟨_,hn',fun j y v' e1 e2 e3=>?_⟩,fun y c e=>?_,I.free,I.freeC,fun p hp=>?_,fun b ob e=>?_,by rw[List.length_map];exact I.len⟩
  · exact (hs.2 b (Nat.ne_of_lt (Nat.lt_of_lt_of_le (Heap.lt_size e) I.ok.above))).trans (I.base.keep b o e n hb hx)
  · obtain⟨sl,e1⟩:=I.base.slot b o e n hb hx
    exact⟨sl,(hs.2 b (Nat.ne_of_lt (Nat.lt_of_lt_of_le (Heap.lt_size e) I.ok.above))).trans e1⟩
  · obtain⟨o',e1⟩:=I.base.there b o e hx
    exact⟨o',(hs.2 b (Nat.ne_of_lt (Nat.lt_of_lt_of_le (Heap.lt_size e) I.ok.above))).trans e1⟩
  · rw[List.getElem?_map] at e2
    cases q:σ[j]? with
    | none=>rw[q] at e2;cases e2
    | some z=>rw[q] at e2;cases e2
  · obtain⟨w',z⟩:=I.cell y c e
    exact⟨w',z.sameBut hs (cne y c e)⟩
  · obtain⟨e,n,ne,nf,d⟩:=I.pin p hp
    exact⟨(hs.2 p.1 ne).trans e,n,ne,nf,d⟩
  · refine (I.hok b ob e).stay (fun c w' hc q=>(hs.2 c ?_).trans q) (fun _ q=>q) fun _ _ q=>q
    intro z
    have hfree:=I.free
    rcases hc with hc | hc
    · rw[← z,hc,e] at hfree;cases hfree
    · rw[← z,hc] at hfree;cases hfree
end
section
variable {X:Cx} {pos np hp:Pos} {n:Str} {D0:Addr}
end
section
variable {X:Cx} {pos pos':Pos} {c e a b:Expr} {x:Str} {i:Nat} {tc:TT} {tx ta tb:TX} {st sts ba bb:List Stmt} {t:TS} {u u':TSx}
end
section
variable {X:Cx}
end
end
end Ev
section
namespace PySem.W.Own
open PySem PySem.Spec PySem.Calls PyProof.Rows Builtin Builtin.ObjectAttr Builtin.Getset_descriptor
def ObjC (x D:Addr) (h:Heap):Prop:=∃ o,h.get? x=some o∧o.cls=.ref D
theorem ObjC.type {M:Model} {h:Heap} {x D:Addr} (I:ObjC x D h):Looks M h (typeOf (.ref x)) (.ref D):=by
  obtain⟨o,h1,h2⟩:=I
  exact h2 ▸ (Looks.ld h1).andThen .now
theorem looks_data {K:Frag} {M:Model} {h:Heap} {x C:Addr} {name:Str} {a g:Value} (X:K.In h) (ha:findIn K (.ref C) name=some (some a)) (hg:specialIn K a "__get__"=some (some g)) (ht:takesIn K a=some true) :
    Looks M h (find (.ref x) (.ref C) name) (.bind g a):=by
  have L1:=looks_findIn (M:=M) X ha
  have L2:Looks M h (getOf (some a)) (some g):=looks_specialIn X hg
  have L3:=looks_takesIn (M:=M) X ht
  exact L1.andThen (L2.andThen ((show Looks M h (dataDescriptor? (some a) (some g)) (some (g,a)) from L3.andThen .now).andThen (Looks.tag .now)))
section
variable {prog:Program} {w:World} {A:Around} {E:Value→Shared→Prop} {s:Shared} {K:Frag} {x D:Addr} {name:Str}
theorem kie_open {Q:Option Value→Shared→Prop} (X:K.In s.heap) (I:ObjC x D s.heap) (hga:findIn K (.ref D) "__getattribute__"=some (some (.builtin "BaseException.__getattribute__"))) (hk:findIn K (.ref D) "__getattr__"=some none)
    (h:wpAny (model prog w) A (call (.builtin "BaseException.__getattribute__") [.ref x,.str name s.toks]) (fun v s'=>wpAny (model prog w) A (handedOut v) (fun v s''=>Q (some v) s'') (fun _ _=>False) s') (fun _ _=>False) { s with toks:=s.toks+1 }) :
    wpAny (model prog w) A (getAttr? (.ref x) name) Q E s:=by
  obtain⟨hh,g,d,t,os⟩:=s
  have L0:=I.type (M:=model prog w)
  have L1:=looks_findIn (M:=model prog w) X hga
  have L2:=looks_findIn (M:=model prog w) X hk
  have f3:=F.excAttr_ValueError.ga.bind (.ref x)
  unfold getAttr? getAttrBy? getAttrBy
  refine wpAny_bind (wpAny_mkText (wpAny_bind (wpAny_attempt (wpAny_holding (wpAny_bind (L0.at (wpAny_bind (L1.at ?_))))))))
  have hx2:(onTheHeap (Value.ref D) && Value.builtin "BaseException.__getattribute__" == Value.builtin "object.__getattribute__")=false:=by
    rw[show (Value.builtin "BaseException.__getattribute__" == Value.builtin "object.__getattribute__")=false by decide +kernel];rfl
  dsimp only
  rw[if_neg (by rw[hx2];exact Bool.false_ne_true)]
  unfold getAttrByItsOwn hookBefore
  rw[if_pos (show onTheHeap (Value.ref D)=true from rfl)]
  refine wpAny_bind (L2.at ?_)
  refine wpAny_bind (wpAny_attempt (wpAny_holding ?_))
  unfold callGetattribute
  rw[if_neg (show ¬ (false && onTheHeap (Value.builtin "BaseException.__getattribute__"))=true from Bool.false_ne_true)]
  unfold boundAndCalled
  rw[f3]
  refine wpAny_bind (wpAny_pure ?_)
  dsimp only
  refine wpAny_mono h (fun v s' z=>?_) fun _ _ z=>z.elim
  refine wpAny_mono z (fun v s'' hv=>wpAny_pure hv) fun _ _ z=>z.elim
theorem kie_hooked {g a:Value} {tk:Tok} {P:Value→Shared→Prop} (X:K.In s.heap) (I:ObjC x D s.heap) (hf:∀ M:Model,Looks M s.heap (find (.ref x) (.ref D) name) (.bind g a)) (hm:mroIn K D (.type "BaseException")=some true)
    (h:wpAny (model prog w) A.in1 (call g [a,.ref x,.ref D]) P (fun _ _=>False) s) :
    wpAny (model prog w) A (call (.builtin "BaseException.__getattribute__") [.ref x,.str name tk]) P (fun _ _=>False) s:=by
  obtain⟨hh,gg,d,t,os⟩:=s
  have L0:=I.type (M:=model prog w)
  have L1:=hf (model prog w)
  have L3:=looks_mroIn (M:=model prog w) X hm
  have hk:builtinKind "BaseException.__getattribute__"=some .slot:=by decide +kernel
  have hsplit:splitId "BaseException.__getattribute__"=some ("BaseException","__getattribute__"):=by decide +kernel
  have ha:=F.args_bexc_ga (.ref x) (.str name tk)
  refine wpAny_call (codeAny_call_builtin F.excAttr_ValueError.ga.plain F.entry_bexc_ga ?_)
  simp only[checkBuiltinCall,hk,hsplit]
  refine wpAny_bind ?_
  unfold isInstance
  iterate 22 lk
  refine wpAny_pure ?_
  refine wpAny_bind (wpAny_pure (wpAny_bind (wpAny_pure (wpAny_bind (L0.at (wpAny_bind (L1.at ?_)))))))
  show wpAny _ _ (holding [a] (call g [a,.ref x,.ref D]) >>= ret) _ _ _
  exact wpAny_bind (wpAny_holding (wpAny_mono h (fun v s' z=>wpAny_pure z) fun _ _ z=>z))
theorem kie_get {R:Result→Shared→Prop} {tp:Value} (X:K.In s.heap) (I:ObjC x D s.heap) (hm:mroIn K D (.type "object")=some true)
    (h:R (.ok (.ret (.ref D))) s):codeAny (model prog w) A (.call (.builtin "getset_descriptor.__get__") ⟨[.builtin "object.__class__",.ref x,tp],[]⟩) R s:=by
  obtain⟨hh,g,dr,t,os⟩:=s
  have L0:=I.type (M:=model prog w)
  have L1:=looks_mroIn (M:=model prog w) X hm
  refine codeAny_call_builtin KF.slot_gs.plain KF.entry_gs (KF.slot_gs.check _ _ _ _ _ _ _ _ KF.type_class (KF.args_gs _ _ _) ?_)
  unfold Builtin.«getset_descriptor.__get__» descrGet
  rw[dga_obj]
  refine wpAny_bind (wpAny_pure ?_)
  unfold descrGetter descrCheckInstance descrNameAndClass isInstance
  simp only[KF.owner_class]
  repeat lk
  refine⟨Code.quiet_builtin _ (by decide +kernel),codeAny_builtin KF.entry_class ?_⟩
  unfold Builtin.«object.__class__» shownTypeOf
  repeat lk
  exact h
end
structure IsiE (K:Frag) (D:Addr):Prop where
  hg:findIn K (.ref D) "__getattribute__"=some (some (.builtin "BaseException.__getattribute__"))
  hk:findIn K (.ref D) "__getattr__"=some none
  hb:mroIn K D (.type "BaseException")=some true
  hc:(clsIn K D).isSome=true
  ha:findIn K (.ref D) "__class__"=some (some (.builtin "object.__class__"))
  hn:specialIn K (.builtin "object.__class__") "__get__"=some (some (.builtin "getset_descriptor.__get__"))
  ht:takesIn K (.builtin "object.__class__")=some true
  hm:mroIn K D (.type "object")=some true
theorem kitx_err {K:Frag} {x D:Addr} (e:IsiE K D):KitX K (.ref x) (.ref D) (ObjC x D) where
  ty:=fun _ _ _ I=>I.type
  it:=fun _ _ X _=>by
    obtain⟨cdD,hcD⟩:=Option.isSome_iff_exists.mp e.hc
    unfold clsIn at hcD
    split at hcD
    · rename_i c' d' cd' sl' ho
      intro A' Q' E' s' k q
      unfold isType loadHead
      exact wpAny_bind (wpAny_loadPart (k _ _ (X _ _ ho)) (wpAny_pure q))
    · cases hcD
  ne:=fun h tp dd its n sl X htp=>by
    obtain⟨cdD,hcD⟩:=Option.isSome_iff_exists.mp e.hc
    refine Bool.eq_false_iff.mpr fun q=>?_
    have e:D=tp:=Value.ref.inj (beq_iff_eq.mp q)
    subst e
    unfold clsIn at hcD
    split at hcD
    · rename_i c' d' cd' sl' ho
      have z:=(X _ _ ho).symm.trans htp
      cases z
    · cases hcD
  ca:=fun {prog w A E Q s} X I h =>
    kie_open X I e.hg e.hk (kie_hooked (s:={ s with toks:=s.toks+1 }) X I (fun M=>looks_data X e.ha e.hn e.ht) e.hb
      (wpAny_call (kie_get (s:={ s with toks:=s.toks+1 }) X I e.hm (handed_on rfl h))))
end PySem.W.Own
namespace Ev
open PySem PySem.Spec PyProof.Rows L2
end Ev

end
namespace Ev
noncomputable section
open PySem PySem.Spec PyProof.Rows L2
section
variable {X:Cx} {pos pos' np cpos:Pos} {c e:Expr} {x:Str} {tc:TT} {tx:TX} {te:TE} {ta tb:TY} {tr:TYr} {st:Stmt} {sts ba bb:List Stmt} {t:TS}
end
section
variable {M:Model} {A:Around} {E:Value→Shared→Prop} {s:Shared}
end
section
variable {X:Cx} {pins:List (Addr×Obj)} {σ:L2.St} {H1:Hp} {s1:Shared} {x C:Addr}
end
section
variable {P:Program} {w:World} {K:W.Frag} {mg:Str→Option Value} {base:Heap} {N:List Str} {qual:Str} {scope:Scope} {f:Addr} {cd:Value} {A:Around} {outer:List Env} {s:Shared} {H:Hp} {E:XK} {pos:Pos}
end
section
variable {X:Cx} {pos pos' np cpos apos p hp:Pos} {c e o a b:Expr} {es:List Expr} {kws:List Keyword} {x m n:Str} {i:Nat} {tA:TT} {tx tx':TX} {te to:TE} {ta tb:TY} {tr:TYr} {st b0:Stmt} {sts ba bb body suite:List Stmt} {t tk:TA} {u:TS} {v v':TSx}
variable {k:Nat} {f C D0:Addr} {fd:FuncData} {ps ks:List Str} {sp:Sp} {y:Ly} {cv:List V}
end
section
variable {P:Program} {w:World} {K:W.Frag} {mg:Str→Option Value} {base:Heap} {N:List Str} {qual:Str} {scope:Scope} {f:Addr} {cd:Value} {A:Around} {outer:List Env} {s:Shared} {H:Hp} {E:XK} {pos:Pos} {body fin:List Stmt} {f0:Stmt} {tb:TY} {tr:TYr} {tf u:TS} {st:Stmt}
theorem uBltn {X:Cx} {x:Str} {p:Pos} {v:V} {u:Value} (hm:X.mg x=none) (hv:bootBuiltins x=some u) (r:RelV v u) (hg:Gl X x:=by rfl) (hn:x≠"__name__":=by decide) (hd:(x == ("__debug__":Str))=false:=by decide):UE X (.Name x p) (tC v):=by with_unfolding_all exact pe_bltn hg hm hv r hn hd
theorem usNox {X:Cx} (h:US X.nox st u):US X st u:=by with_unfolding_all exact PS.nox h
end
section
structure RoomH (k:Nat) (A:Around):Prop where
  dp:A.depth+3 * k+5 < recursionLimit
  un:A.units+16 * k+200 < cLine
structure FnH (P:Program) (w:World) (K:W.Frag) (mg:Str→Option Value) (base:Heap) (k:Nat) (f:Addr) (fd:FuncData) (ps:List Str) (sp:Sp):Prop where
  len:∀ vs H Q E,sp vs H Q E→vs.length=ps.length
  run:∀ (A:Around) (outer:List Env) (s:Shared) (H:Hp) (args:Args) (us:List Value) (vs:List V) (Q:VK) (E:XK),RoomH k A→Env0 P w K mg base A outer s H→BindsTo s fd args (ps.zip us)→Vals vs us→sp vs H Q E →
    codeAny (model P w) A (.call (.ref f) args) (CR CX0 outer P w H s Q E) s
section
variable {X:Cx} {k:Nat} {f:Addr} {fd:FuncData} {ps:List Str} {sp:Sp} {x:Str} {e:Expr} {es:List Expr} {t:TA} {p pos:Pos}
end
end
end
end Ev
set_option maxHeartbeats 2000000
namespace L2
noncomputable section
open PySem PySem.Spec Ev
structure Frzs (ls:List (Addr×List V)) (H H2:Hp):Prop where
  ne:∀ a,a∉ls.map Prod.fst→H2 a=H a
  at_:∀ e∈ls,∃ od,H2 e.1=some (.frz od (.lst e.2))
structure Unfz (ls:List (Addr×List V)) (H H2:Hp):Prop where
  ne:∀ a,a∉ls.map Prod.fst→H2 a=H a
  at_:∀ e∈ls,H2 e.1=some (.lst e.2)
end
end L2
namespace PySem.W.Own
noncomputable section
open PySem PySem.Spec PySem.Calls PyProof.Rows
section
variable {prog:Program} {w:World} {A:Around} {E:Value→Shared→Prop} {h:Heap} {g:Array GenState} {d:Drawn} {t:Nat} {os:OsState}
variable {nm q:Str} {C N:Addr} {bs bm bmB:List Value} {hdct:Bool} {sn:List Str} {sub:List Value} {ab:Bool} {col:Option Bool} {dd:Option Addr} {k0 k1 k2 k3 k5:Option Value} {B nid iid:String}
abbrev rawErr (C t:Addr):Obj:={ cls:=.ref C,data:=.fields #[.ref t,.none,.none,.none,.bool false,.none] }
theorem own_init_at {M:Model} {mN:Str→Option Value} {name:Str} {v:Value} {Q:Option Value→Shared→Prop}
    (hC:h.get? C=some (excClassObj nm q C N bs bm hdct sn sub ab col dd k0 k1 k2 k3 k5 nid)) (hn:h.Ns N mN) (hv:mN name=some v) (k:Q (some v) ⟨h,g,d,t,os⟩):wpAny M A (typeLookup (.ref C) name) Q E ⟨h,g,d,t,os⟩:=by
  rw[typeLookup_eq]
  refine wpAny_bind (wpAny_mroOf_exc hC ?_)
  rw[lookupAlong_cons]
  refine wpAny_bind (wpAny_classOwn_exc hC hn ?_)
  rw[hv]
  exact wpAny_pure k
theorem made_own (F:ExcBaseFacts B nid iid bmB) (T:OwnTail h bmB bm) {mN:Str→Option Value} {rest:List Value} {fI:Addr} {oI:Obj} {Q:Value→Shared→Prop}
    (hC:h.get? C=some (excClassObj nm q C N bs bm hdct sn sub ab col dd k0 k1 k2 k3 k5 nid)) (hn:h.Ns N mN) (hi:mN "__init__"=some (.ref fI)) (hfI:h.get? fI=some oI) (hfc:oI.cls=.type "function") (hl:rest.length≤sizeLine)
    (k:∀ h' e,Heap.MadeExcOf h h' e (.ref C) rest→wpAny (model prog w) (A.under (.builtin "type.__call__" ⟨.ref C :: rest,[]⟩)) (call (.ref fI) (.ref e :: rest)) (fun r s'=>r=.none∧Q (.ref e) s') E ⟨h',g,d,t,os⟩) :
    wpAny (model prog w) A (call (.ref C) rest) Q E ⟨h,g,d,t,os⟩:=by
  have hT:(⟨h,g,d,t,os⟩:Shared).TypeIs (.ref C) "type":=⟨_,hC,rfl⟩
  have z1:=tc_lookup
  have z2:=tc_bind (.ref C)
  refine wpAny_call (codeAny_of_tree (show wpAny _ _ (callAny (.ref C) _) _ _ _ from ?_))
  repeat (any_goals (first | assumption | with_reducible exact wpAny_loadPart_at hC (by assumption) | with_reducible refine wpAny_loadPart_at hC ?_ | wp_step))
  refine⟨rfl,codeAny_call_builtin_at (Code.quiet_builtin _ (by decide +kernel)) entry_typeCall (wpAny_check_type_call_sub hC ?_)⟩
  repeat (first | with_reducible refine wpAny_madeBy_exc hC ?_ | with_reducible refine wpAny_loadPart_at hC ?_ | wp_step)
  refine codeAny_call_builtin_code (Code.quiet_builtin _ F.quiet) (wpAny_check_new_subU F F.hasB T hC (codeAny_exc_new_subU F F.hasB F T hC ?_ hl))
  show wpAny _ _ _ _ _ _
  let t0:Obj:={ cls:=.type "tuple",data:=.seq rest.toArray }
  have up:∀ b o,h.get? b=some o→((h.push t0).push (rawErr C h.objs.size)).get? b=some o:=fun b o z=>Heap.get?_push_of_some _ (Heap.get?_push_of_some _ z)
  have hC1:=up _ _ hC
  have hn1:((h.push t0).push (rawErr C h.objs.size)).Ns N mN:=hn.keeps up
  have hx:((h.push t0).push (rawErr C h.objs.size)).get? (h.objs.size+1)=some (rawErr C h.objs.size):=by heap_get
  have hcc:(Value.ref C :: bm).contains (.ref C)=true:=by simp
  unfold isInstance
  repeat (first | with_reducible refine wpAny_loadPart_at hx ?_ | wp_step)
  refine (show wpAny _ _ (isSubtype (.ref C) (.ref C)) _ _ _ from wpAny_isSubtype_exc hC1 ?_)
  rw[hcc]
  repeat wp_step
  refine (show wpAny _ _ (typeLookup (.ref C) _) _ _ _ from own_init_at hC1 hn1 hi ?_)
  refine wpAny_holding (wpAny_bind ?_)
  unfold bindSpecial
  refine wpAny_bind (wpAny_typeOf (T:="function") ⟨_,up _ _ hfI,hfc⟩ ?_)
  rw[if_pos (by decide)]
  refine wpAny_pure (wpAny_bind (wpAny_mono (k _ (h.objs.size+1) ⟨up,Heap.get?_none_of_le (Nat.le_succ _),h.objs.size,hx,Heap.get?_none_of_le (Nat.le_refl _),Heap.get?_push_of_some _ (Heap.get?_push_at rfl rfl)⟩) (fun r s' z=>?_) fun _ _ z=>z))
  obtain⟨rfl,hQ⟩:=z
  wp_walk
  exact hQ
end
section
theorem slot_wget:Slot "wrapper_descriptor" "__get__" "wrapper_descriptor.__get__" :=
  .of (owner:="wrapper_descriptor") (n:="__get__") (by rw[typeLookup_type,builtinLookup_eq_fast];kernel_rfl) (by decide +kernel) (by decide +kernel) (by decide +kernel)
    (by first | exact .inl (by decide +kernel) | exact .inr (by decide +kernel)) (by rw[isSubtype_type];kernel_rfl)
theorem entry_wget:entryFor table "wrapper_descriptor.__get__"=some Builtin.«wrapper_descriptor.__get__»:=entryFor_of_tree (by kernel_rfl)
theorem args_wget (a b c:Value):argsOk "wrapper_descriptor.__get__" ⟨[a,b,c],[]⟩:=by unfold argsOk;kernel_rfl
theorem type_vini:typeOf (.builtin "ValueError.__init__")=pure (.type "wrapper_descriptor"):=by show builtinType _=_;rw[builtinType_eq_fast];kernel_rfl
abbrev wrapObj (e:Addr):Obj:={ cls:=.type "method-wrapper",dict:=none,data:=.fields #[.builtin "ValueError.__init__",.ref e],slots:=#[] }
section
variable {prog:Program} {w:World} {M:Model} {A:Around} {E:Value→Shared→Prop} {h:Heap} {g:Array GenState} {d:Drawn} {t:Nat} {os:OsState}
theorem owner_vini:".".intercalate ("ValueError.__init__".cutAt '.').dropLast="ValueError":=by decide +kernel
theorem looks_mro {K:Frag} {C:Addr} {cd:ClassData} (X:K.In h) (hc:clsIn K C=some cd):Looks M h (mroOf (.ref C)) cd.mro:=(looks_clsIn X hc).andThen .now
theorem sup_ga {so D e C:Addr} {oe:Obj} {l0 l:List Value} {K:Frag} {tk:Tok} {Q:Fin→Shared→Prop}
    (hso:h.get? so=some { cls:=.type "super",dict:=none,data:=.fields #[.ref D,.ref e,.ref C],slots:=#[] }) (hno:Looks (model prog w) h (opaqueClassAbove (.ref C)) none) (hm:Looks (model prog w) h (mroOf (.ref C)) l0) (hl:(l0.dropWhile (· != .ref D)).drop 1=l)
    (X:K.In h) (hf:alongIn K "__init__" l=some (some (.builtin "ValueError.__init__"))) (hx:h.get? e=some oe) (hc:oe.cls=.ref C) (hi:Looks (model prog w) h (isSubtype (.ref C) (.type "ValueError")) true) (hne:e≠C)
    (k:Q (.done (.ret (.ref h.objs.size))) ⟨h.push (wrapObj e),g,d,t,os⟩):wpAny (model prog w) A (Builtin.«super.__getattribute__» ⟨[.ref so,.str "__init__" tk],[]⟩) Q E ⟨h,g,d,t,os⟩:=by
  have lk1:=slot_wget.lookup
  have ne:(Value.ref e == Value.ref C)=false:=by simp[hne]
  have tv:=type_vini
  have hT:∀ s:Shared,s.TypeIs (.builtin "ValueError.__init__") "wrapper_descriptor":=fun s=>type_vini
  have hdt:({ cls:=.type "super",dict:=none,data:=.fields #[.ref D,.ref e,.ref C],slots:=#[] }:Obj).data=.fields #[.ref D,.ref e,.ref C]:=rfl
  have f0:(#[.ref D,.ref e,.ref C]:Array Value)[0]?=some (.ref D):=rfl
  have f1:(#[.ref D,.ref e,.ref C]:Array Value)[1]?=some (.ref e):=rfl
  have f2:(#[.ref D,.ref e,.ref C]:Array Value)[2]?=some (.ref C):=rfl
  have hn:(("__init__":Str) == ("__class__":Str))=false:=by decide
  unfold Builtin.«super.__getattribute__»
  repeat (first
    | (with_reducible refine wpAny_field hso hdt f2 ?_) | (with_reducible refine wpAny_field hso hdt f1 ?_) | (with_reducible refine wpAny_field hso hdt f0 ?_)
    | (with_reducible refine Looks.at hm ?_;rw[hl])
    | (with_reducible refine ks_wpAny_notOpaque hno ?_)
    | (refine ks_forIn_along X (fun _ _=>rfl) rfl ?_ hf)
    | (with_reducible refine wpAny_typeOf (hT _) ?_)
    | (with_reducible refine wpAny_call_entry slot_wget (hT _) entry_wget ?_ (args_wget _ _ _))
    | (with_reducible refine⟨_,rfl,?_⟩)
    | (simp only[hn,ne,Bool.or_false,Bool.false_eq_true,if_false])
    | wp_step
    | dsimp only)
  rw[hc,owner_vini]
  repeat lk
  exact⟨_,rfl,wpAny_pure (wpAny_pure k)⟩
theorem sup_method {so D e C:Addr} {oe:Obj} {l0 l:List Value} {K:Frag} {pl:Sem Bool} {Q:Value×List Value→Shared→Prop}
    (hso:h.get? so=some { cls:=.type "super",dict:=none,data:=.fields #[.ref D,.ref e,.ref C],slots:=#[] }) (hno:Looks (model prog w) h (opaqueClassAbove (.ref C)) none) (hm:Looks (model prog w) h (mroOf (.ref C)) l0) (hl:(l0.dropWhile (· != .ref D)).drop 1=l)
    (X:K.In h) (hf:alongIn K "__init__" l=some (some (.builtin "ValueError.__init__"))) (hx:h.get? e=some oe) (hc:oe.cls=.ref C) (hi:Looks (model prog w) h (isSubtype (.ref C) (.type "ValueError")) true) (hne:e≠C)
    (k:Q (.ref h.objs.size,[]) ⟨h.push (wrapObj e),g,d,t+1,os⟩):wpAny (model prog w) A (getMethod (.ref so) "__init__" pl) Q E ⟨h,g,d,t,os⟩:=by
  have hlk:=F.ks_slot_super_ga.lookup
  have hT:∀ t',(⟨h,g,d,t',os⟩:Shared).TypeIs (.ref so) "super":=fun _=>⟨_,hso,rfl⟩
  unfold getMethod
  refine wpAny_bind (wpAny_specialOf (hT _) hlk (show wpAny _ _ (if (Manifest.canonical "super.__getattribute__" != "object.__getattribute__")=true then _ else _) _ _ _ from ?_))
  rw[if_pos F.ks_canon_super_ga]
  unfold getAttr getAttrBy
  refine wpAny_bind (wpAny_bind (wpAny_mkText (wpAny_holding (wpAny_bind (wpAny_typeOf (hT _) (wpAny_bind (wpAny_of_eq hlk (show wpAny _ _ (getAttrByItsOwn (.ref so) (.str "__init__" t) (.type "super") (.builtin "super.__getattribute__") true false) _ _ _ from ?_))))))))
  unfold getAttrByItsOwn hookBefore callGetattribute boundAndCalled
  refine wpAny_bind (wpAny_of_eq (show (if onTheHeap (.type "super") then typeLookup (.type "super") "__getattr__" else pure none)=pure none from rfl) (wpAny_bind (wpAny_attempt (wpAny_holding ?_))))
  refine (show wpAny _ _ (bindSpecial (.builtin "super.__getattribute__") (.ref so) >>= _) _ _ _ from wpAny_bind (wpAny_of_eq (F.ks_slot_super_ga.bind _) ?_))
  refine wpAny_mono (Q:=fun v s'=>v=.ref h.objs.size∧s'=⟨h.push (wrapObj e),g,d,t+1,os⟩) (E:=fun _ _=>False)
    (wpAny_call_entry F.ks_slot_super_ga (hT _) F.ks_entry_super_ga (sup_ga hso hno hm hl X hf hx hc hi hne ⟨_,rfl,rfl,rfl⟩) (F.ks_gaArgs_super _ _)) (fun v s' z=>?_) fun _ _ z=>z.elim
  obtain⟨rfl,rfl⟩:=z
  exact wpAny_pure (wpAny_pure k)
end
end
section
theorem entry_vini:entryFor table "ValueError.__init__"=some Builtin.«BaseException.__init__»:=PySem.F.excBase_ValueError.initEntry
section
variable {prog:Program} {w:World} {M:Model} {A:Around} {E:Value→Shared→Prop} {h:Heap} {g:Array GenState} {d:Drawn} {t:Nat} {os:OsState}
variable {nm q:Str} {C N:Addr} {bs bm:List Value} {hdct:Bool} {sn:List Str} {sub:List Value} {ab:Bool} {col:Option Bool} {dd:Option Addr} {k0 k1 k2 k3 k5:Option Value} {nid:String}
abbrev fldErr (C t:Addr) (dd:Option Addr):Obj:={ cls:=.ref C,dict:=dd,data:=.fields #[.ref t,.none,.none,.none,.bool false,.none] }
abbrev tupOf (vs:List Value):Obj:={ cls:=.type "tuple",data:=.seq vs.toArray }
theorem run_vini {e t0:Addr} {v:Value} {Q:Fin→Shared→Prop} (hx:h.get? e=some (fldErr C t0 none))
    (k:∀ h',h'.get? e=some (fldErr C h.objs.size none)→(∀ b o,b≠e→h.get? b=some o→h'.get? b=some o)→h'.get? h.objs.size=some (tupOf [v])→Q (.done (.ret .none)) ⟨h',g,d,t,os⟩) :
    wpAny (model prog w) A (Builtin.«BaseException.__init__» ⟨[.ref e,v],[]⟩) Q E ⟨h,g,d,t,os⟩:=by
  unfold Builtin.«BaseException.__init__»
  wp_walk
  refine k _ (Heap.get?_update_self _ (Heap.get?_push_of_some _ hx) rfl) (fun b o hb hbo=>?_) ?_
  · rw[Heap.get?_update_other _ _ (Ne.symm hb)]
    exact Heap.get?_push_of_some _ hbo
  · rw[Heap.get?_update_other _ _ (Nat.ne_of_lt (Heap.lt_size hx))]
    exact Heap.get?_push_at rfl rfl
theorem bound_vini {e t0:Addr} {v:Value} {Q:Unit→Shared→Prop} (hC:h.get? C=some (excClassObj nm q C N bs bm hdct sn sub ab col dd k0 k1 k2 k3 k5 nid)) (hx:h.get? e=some (fldErr C t0 none)) (k:Q () ⟨h,g,d,t,os⟩) :
    wpAny M A (checkBoundCall "ValueError.__init__" ⟨[.ref e,v],[]⟩) Q E ⟨h,g,d,t,os⟩:=by
  have F:=PySem.F.excBase_ValueError
  have fs:=F.noStar
  unfold checkBoundCall
  simp only[F.initKind,F.initRow]
  refine (show wpAny M A (Bind.checkArgs "ValueError.__init__" ⟨.positional,"*","ValueError",.self,[⟨"args",.varPos,false⟩]⟩ ⟨[.ref e,v],[]⟩) Q E _ from ?_)
  unfold Bind.checkArgs
  repeat (first | with_reducible refine wpAny_loadPart_at hx ?_ | with_reducible refine wpAny_loadPart_at hC ?_ | wp_step)
  exact k
theorem call_wrap {u e t0:Addr} {v:Value} {Q:Value→Shared→Prop} (hC:h.get? C=some (excClassObj nm q C N bs bm hdct sn sub ab col dd k0 k1 k2 k3 k5 nid)) (hu:h.get? u=some (wrapObj e)) (hx:h.get? e=some (fldErr C t0 none))
    (k:∀ h',h'.get? e=some (fldErr C h.objs.size none)→(∀ b o,b≠e→h.get? b=some o→h'.get? b=some o)→h'.get? h.objs.size=some (tupOf [v])→Q .none ⟨h',g,d,t,os⟩) :
    wpAny (model prog w) A (call (.ref u) [v]) Q E ⟨h,g,d,t,os⟩:=by
  refine wpAny_call (codeAny_of_tree (show wpAny _ _ (callAny (.ref u) _) _ _ _ from ?_))
  unfold callAny
  refine wpAny_bind (wpAny_load hu ?_)
  refine (show wpAny _ _ (checkBoundCall "ValueError.__init__" ⟨[.ref e,v],[]⟩ >>= _) _ _ _ from wpAny_bind (bound_vini hC hx ?_))
  refine wpAny_bind (wpAny_pure (wpAny_pure ⟨Code.quiet_builtin _ (by decide +kernel),codeAny_builtin entry_vini ?_⟩))
  exact run_vini hx k
end
end
end
end PySem.W.Own
namespace PySem.W.Own
noncomputable section
open PySem PySem.Spec PySem.Calls PyProof.Rows Builtin Builtin.ObjectAttr
section
variable {prog:Program} {w:World} {M:Model} {A:Around} {E:Value→Shared→Prop} {h:Heap} {g:Array GenState} {d:Drawn} {t:Nat} {os:OsState} {K:Frag}
variable {nm q:Str} {C N:Addr} {bs bm:List Value} {hdct:Bool} {sn:List Str} {sub:List Value} {ab:Bool} {col:Option Bool} {dd:Option Addr} {k0 k1 k2 k3 k5:Option Value} {nid:String}
theorem refuse_tail {self:Value} {h:Heap} {bmB:List Value} (hb:refuseLoop self "__setattr__" bmB=pure ()):∀ {l:List Value},OwnTail h bmB l→refuseLoop self "__setattr__" l=pure ()
  | _,.base=>hb
  | _,.own _ _ _ T=>by rw[refuseLoop_ref];exact refuse_tail hb T
theorem set_fld {e t0:Addr} {f:Str} {v:Value} {Q:Unit→Shared→Prop} (X:K.In h) (hC:h.get? C=some (excClassObj nm q C N bs bm true sn sub ab col dd k0 k1 k2 k3 k5 nid)) (T:OwnTail h [.type "ValueError",.type "Exception",.type "BaseException",.type "object"] bm)
    (fs:findIn K (.ref C) "__setattr__"=some (some (.builtin "object.__setattr__"))) (ff:findIn K (.ref C) f=some none) (hx:h.get? e=some (fldErr C t0 none))
    (k:∀ h' tk dx,h'.get? e=some (fldErr C t0 (some dx))→h.get? dx=none→h'.Ns1 dx (fun y=>if y=f then some v else none)→(∀ b o,b≠e→h.get? b=some o→h'.get? b=some o)→Q () ⟨h',g,d,tk,os⟩) :
    wpAny (model prog w) A (setAttr (.ref e) f v) Q E ⟨h,g,d,t,os⟩:=by
  have SF:=PySem.F.store_object
  have I:InstAt h e (fldErr C t0 none) C none:=⟨hx,rfl,rfl,trivial⟩
  have hb:(Value.ref C :: bm).contains (.type "object")=true:=by rw[List.contains_cons,T.hasType (b:=true) (by decide +kernel)];rfl
  have L0:Looks (model prog w) h (typeOf (.ref e)) (.ref C):=I.type
  have L1:Looks (model prog w) h (isSubtype (.ref C) (.type "object")) true:=fun A' Q' E' s' kk z=>by
    obtain⟨hh,g',d',t',os'⟩:=s'
    refine wpAny_isSubtype_exc (kk _ _ hC) ?_
    rw[hb];exact z
  have L2:Looks (model prog w) h (mroOf (.ref C)) (.ref C :: bm):=fun A' Q' E' s' kk z=>by
    obtain⟨hh,g',d',t',os'⟩:=s'
    exact wpAny_mroOf_exc (kk _ _ hC) z
  have hr:refuseLoop (.ref e) "__setattr__" (.ref C :: bm)=pure ():=by
    rw[refuseLoop_ref]
    exact refuse_tail (PySem.F.store_ValueError.passes _) T
  refine set_plain X I fs (codeAny_call_builtin SF.slot.plain SF.entry (@check_slot (model prog w) _ _ _ "object.__setattr__" "object" "__setattr__" (.ref e) [.str f t,v] [] _ SF.kind SF.split (L0.andThen L1) (SF.args (.ref e) (.str f t) v) ?_))
  rw[osa_eq,refuse_eq]
  refine wpAny_bind (wpAny_bind (L0.at (wpAny_bind (L2.at ?_))))
  rw[hr]
  refine wpAny_pure (wpAny_bind (L0.at (wpAny_bind ((looks_findIn X ff).at (wpAny_bind (wpAny_pure ?_))))))
  refine wpAny_bind (wpAny_pure (wpAny_bind ?_))
  refine (show wpAny _ _ (instanceDict e true) _ _ _ from ?_)
  unfold instanceDict
  refine wpAny_bind (wpAny_loadPart hx ?_)
  refine wpAny_bind (wpAny_bind (wpAny_load hC ?_))
  refine wpAny_pure (show wpAny _ _ (alloc { cls:=Value.type "dict",data:=Data.dict #[] } >>= _) _ _ _ from wpAny_bind (wpAny_alloc' ?_))
  have hxs:e≠h.objs.size:=Nat.ne_of_lt (Heap.lt_size hx)
  have hx1:(h.push { cls:=.type "dict",data:=.dict #[] }).get? e=some (fldErr C t0 none):=Heap.get?_push_of_some _ hx
  refine wpAny_bind (wpAny_update' hx1 (wpAny_pure ?_))
  generalize hu:(h.push { cls:=.type "dict",data:=.dict #[] }).update e (fun o=>{ cls:=o.cls,dict:=some h.objs.size,data:=o.data,slots:=o.slots })=h2
  have ge:h2.get? e=some (fldErr C t0 (some h.objs.size)):=by rw[← hu];exact Heap.get?_update_self _ hx1 rfl
  have gd:h2.get? h.objs.size=some { cls:=.type "dict",data:=.dict #[] }:=by rw[← hu];exact (Heap.get?_update_ne _ _ _ _ hxs.symm).trans (Heap.get?_push_at rfl rfl)
  have go:∀ b o,b≠e→h.get? b=some o→h2.get? b=some o:=fun b o n z=>by rw[← hu];exact (Heap.get?_update_ne _ _ _ _ n).trans (Heap.get?_push_of_some _ z)
  have nd:h2.Ns h.objs.size (fun _=>none):=⟨_,#[],_,gd,rfl,fun _ z=>absurd z (by simp),fun _=>rfl⟩
  refine (show wpAny _ _ (Builtin.ObjectAttr.storeInDict h.objs.size (.str f t) f v) _ _ _ from ?_)
  unfold Builtin.ObjectAttr.storeInDict newKeyGuard
  refine wpAny_bind (wpAny_pure (wpAny_bind (wpAny_nsSet1 (Heap.Ns1.of_empty nd) fun h3 n3 s3=>?_)))
  obtain⟨oD,esD,epD,hoD,hdD,hcD⟩:=n3.count (Within.cons f v Within.nil)
  refine wpAny_bind (wpAny_lookBehind hoD (by rw[hdD];exact pastItsLine_dict (Nat.le_trans hcD (by rw[List.length_cons,List.length_nil,sizeLine_eq];omega))) ?_)
  wp_walk
  exact k h3 _ h.objs.size ((s3.2 e hxs).trans ge) (Heap.get?_none_of_le (Nat.le_refl _)) n3 fun b o n z=>(s3.2 b (Nat.ne_of_lt (Heap.lt_size z))).trans (go b o n z)
end
section
variable {prog:Program} {w:World} {M:Model} {A:Around} {E:Value→Shared→Prop} {s:Shared} {env:Env}
theorem callWith_wrap {pos:Pos} {u e:Addr} {first:List Value} {args:List (Bool×Sem Value)} {Q:Value→Shared→Prop} (hpl:args.any (·.1)=false)
    (k:wpAny M A (evalArgs (.ref u) true args []) (fun x s1=>s1.heap.get? u=some (wrapObj e)∧wpAny M A (call (.ref u) (first++x.pos) x.kw) Q E s1) E s):wpAny M A (callWith pos (.ref u) first args []) Q E s:=by
  unfold callWith
  refine wpAny_bind (wpAny_holding (wpAny_mono k (fun x s1 ⟨ho,z⟩=>wpAny_bind (wpAny_standAt ?_)) fun _ _ z=>z))
  simp only[hpl,List.any_nil,Bool.or_false]
  refine wpAny_bind (m:=keeperOf (.ref u)) ?_
  unfold keeperOf
  refine wpAny_bind (wpAny_load ho ?_)
  refine (show wpAny _ _ (if (Value.type "method-wrapper" != Value.type "method")=true then _ else _) _ _ _ from ?_)
  rw[if_pos (by decide)]
  refine (show wpAny _ _ (pure (if (Value.type "method-wrapper" == Value.type "builtin_function_or_method" || Value.type "method-wrapper" == Value.type "method-wrapper")=true then Keeper.machine else _)) _ _ _ from ?_)
  rw[if_pos (by decide)]
  exact wpAny_pure (wpAny_bind (wpAny_mono z (fun r s2 y=>wpAny_bind (wpAny_holding (wpAny_point (wpAny_pure y)))) fun _ _ y=>y))
theorem text_fld {f a b:Str} {n:Int} {tk:Tok} {m:Str→Option Value} {q1 q2 q3 q4 q5:Pos} {Q:Value→Shared→Prop} (hk:env.scope.kind=.function) (hl:env.kindOf f=some .local) (hn:s.heap.Ns env.locals m) (hm:m f=some (.int n tk)) (h1:n.natAbs.log2 < 1920)
    (hz:a.length+b.length≤1000) (hd:(f == ("__debug__":Str))=false) (k:∀ x tk' t',Q (.str x tk') { s with toks:=t' }) :
    wpAny (model prog w) A (eval (.JoinedStr [.Constant (.str a) 0 q1,.FormattedValue (.Name f q2) (-1) none q3,.Constant (.str b) 0 q4] q5) env) Q E s:=by
  have e:=int_text_length_le (k:=1920) (by decide) h1
  have z:=sizeLine_eq
  have e0:Str.empty.length=0:=rfl
  have er:(Str.ofString (toString n)).length=(toString n).length:=ofString_length _
  refine wpAny_JoinedStr ?_
  refine Constant_str ⟨a,_,rfl,?_,wpAny_FormattedValue_plain (wpAny_Name (wpAny_loadName_local hk hl hn hm (wpAny_formatField_int h1 ⟨_,_,rfl,?_,Constant_str ⟨b,_,rfl,?_,?_,k _ _ _⟩⟩)) hd)⟩
  all_goals simp only[strLen_append,er,e0]
  all_goals omega
end
section
abbrev vBases:List Value:=[.type "ValueError",.type "Exception",.type "BaseException",.type "object"]
structure IniB (prog:Program) (f:Str) (fd:FuncData):Prop where
  body:∃ a b p0 p1 p2 p3 p4 q1 q2 q3 q4 q5 r1 r2 r3 r4,fd.body=.stmts [.Expr (.Call (.Attribute (.Call (.Name "super" p0) [] [] p1) "__init__" p2) [.JoinedStr [.Constant (.str a) 0 q1,.FormattedValue (.Name f q2) (-1) none q3,.Constant (.str b) 0 q4] q5] [] p3) p4,.Assign [.Attribute (.Name "self" r1) f r2] (.Name f r3) r4]∧a.length+b.length≤1000 ∧
    ∀ env,∃ pl:Sem Bool,eval (.Call (.Attribute (.Call (.Name "super" p0) [] [] p1) "__init__" p2) [.JoinedStr [.Constant (.str a) 0 q1,.FormattedValue (.Name f q2) (-1) none q3,.Constant (.str b) 0 q4] q5] [] p3) env=(do
      let ov ← attributeBase (.Call (.Name "super" p0) [] [] p1) "__init__" env (eval (.Call (.Name "super" p0) [] [] p1) env)
      standAt p2.atName
      let (f',first) ← holding [ov] (getMethod ov "__init__" pl)
      callWith p3 f' first (backTo p3 (starEach [.JoinedStr [.Constant (.str a) 0 q1,.FormattedValue (.Name f q2) (-1) none q3,.Constant (.str b) 0 q4] q5] env)) [])
  kind:fd.scope.kind=.function
  co:fd.scope.isCoroutine=false
  gen:fd.scope.isGenerator=false
  cell:∀ x∈fd.scope.names,x.2≠.cell
  nsup:fd.scope.names.lookup ("super":Str)=some .globalImplicit
  ncls:fd.scope.names.lookup ("__class__":Str)=some .free
  nself:fd.scope.names.lookup ("self":Str)=some .local
  nf:fd.scope.names.lookup f=some .local
  par:∃ ar,(fd.params.posonlyargs++fd.params.args).head?=some ar∧ar.arg="self"
  fne:(f == ("self":Str))=false
  fdb:(f == ("__debug__":Str))=false
  glo:fd.globals=mainGlobals
  blt:fd.builtins=builtinsNs
  top:(prog.main.scope.names.lookup ("super":Str)).isSome=false
structure IniK (prog:Program) (K:Frag) (C fI cc cda:Addr) (f:Str) (fd:FuncData):Prop where
  fn:∃ od osl,K.lookup fI=some ⟨.type "function",od,.func fd,osl⟩
  code:∃ ccl cdd vs ccs file tf,fd.code=.ref cda∧K.lookup cda=some ⟨ccl,cdd,.fields vs,ccs⟩∧vs[2]?=some (.str file tf)∧(prog.main.file == file)=true
  rec_:codeIn K fd.code fd.qualname=true
  clo:fd.closure.lookup ("__class__":Str)=some cc
  cell:∃ cl cld csl,K.lookup cc=some ⟨cl,cld,.cell (some (.ref C)),csl⟩
  bind:∀ (s:Shared) (e v:Value),K.In s.heap→BindsTo s fd ⟨[e,v],[]⟩ [("self",e),(f,v)]
  sup:ks_superIn K C C "__init__"=some (some (.builtin "ValueError.__init__"))
  self:mroIn K C (.ref C)=some true
  val:mroIn K C (.type "ValueError")=some true
  opq:nsIn K cStatics "thirdparty.any"=some none
  sa:findIn K (.ref C) "__setattr__"=some (some (.builtin "object.__setattr__"))
  nof:findIn K (.ref C) f=some none
section
variable {prog:Program} {w:World} {A:Around} {E:Value→Shared→Prop} {s:Shared} {K:Frag} {mg mb:Str→Option Value} {f:Str} {fd:FuncData} {fI cc cda:Addr}
variable {nm q:Str} {C N:Addr} {bs bm:List Value} {sn:List Str} {sub:List Value} {ab:Bool} {col:Option Bool} {dd:Option Addr} {k0 k1 k2 k3 k5:Option Value} {nid:String}
structure MadeFld (C:Addr) (f:Str) (v:Value) (h h':Heap) (e dx t:Addr):Prop where
  keeps:∀ b o,b≠e→h.get? b=some o→h'.get? b=some o
  at_e:h'.get? e=some (fldErr C t (some dx))
  newd:h.get? dx=none
  newt:h.get? t=none
  ns:h'.Ns1 dx (fun y=>if y=f then some v else none)
theorem init_call (IB:IniB prog f fd) (IK:IniK prog K C fI cc cda f fd) (X:K.In s.heap) (lim:s.heap.NoLimit) (hg:s.heap.Ns mainGlobals mg) (hsup:mg "super"=none) (hb:s.heap.Ns builtinsNs mb) (hbs:mb "super"=some (.type "super"))
    (hC:s.heap.get? C=some (excClassObj nm q C N bs bm true sn sub ab col dd k0 k1 k2 k3 k5 nid)) (T:tailIn K vBases bm=true) (room:A.depth < recursionLimit) {e t0:Addr} {n:Int} {tk:Tok} (hKe:K.lookup e=none) (hx:s.heap.get? e=some (fldErr C t0 none)) (h1:n.natAbs.log2 < 1920) {Q:Value→Shared→Prop}
    (k:∀ h' dx t tk',MadeFld C f (.int n tk) s.heap h' e dx t→Q .none { s with heap:=h',toks:=tk' }):wpAny (model prog w) A (call (.ref fI) [.ref e,.int n tk]) Q E s:=by
  obtain⟨od,osl,hfn⟩:=IK.fn
  obtain⟨a,b,p0,p1,p2,p3,p4,q1,q2,q3,q4,q5,r1,r2,r3,r4,hbody,hab,hev⟩:=IB.body
  obtain⟨ccl,cdd,vs,ccs,file,tf,hcda,hlk,hvs,hfile⟩:=IK.code
  obtain⟨ar,har,hself⟩:=IB.par
  obtain⟨cl,cld,csl,hcell⟩:=IK.cell
  have fne:¬ f=("self":Str):=fun z=>by have:=IB.fne;rw[z] at this;exact Bool.noConfusion (this.symm.trans (show (("self":Str) == ("self":Str))=true by decide +kernel))
  refine wpAny_call (ks_codeAny_call_defAt (fd:=fd) (binds:=[("self",.ref e),(f,.int n tk)]) room (X _ _ hfn) rfl lim (codeRec_of X IK.rec_) hbody (IK.bind s _ _ X) IB.cell (fun y hy=>?_) (fun h0 hns hk=>?_) IB.co IB.gen IB.kind)
  · rcases List.mem_cons.mp hy with rfl | hy
    · exact IB.nself
    · rw[List.mem_singleton.mp hy];exact IB.nf
  have X0:K.In h0:=X.keeps hk
  have m1:(fun x=>([(("self":Str),Value.ref e),(f,Value.int n tk)]:List (Str×Value)).reverse.lookup x) "self"=some (.ref e):=by
    show List.lookup ("self":Str) [(f,Value.int n tk),(("self":Str),Value.ref e)]=_
    rw[List.lookup_cons,show (("self":Str) == f)=false from beq_eq_false_iff_ne.mpr fun z=>fne z.symm,List.lookup_cons_self]
  have m2:(fun x=>([(("self":Str),Value.ref e),(f,Value.int n tk)]:List (Str×Value)).reverse.lookup x) f=some (.int n tk):=by
    show List.lookup f [(f,Value.int n tk),(("self":Str),Value.ref e)]=_
    rw[List.lookup_cons_self]
  generalize hm:(fun x=>([(("self":Str),Value.ref e),(f,Value.int n tk)]:List (Str×Value)).reverse.lookup x)=m at hns m1 m2
  generalize hL:s.heap.objs.size=L at hns
  obtain⟨pl,he⟩:=hev (callEnv fd L fI)
  have hkf:(callEnv fd L fI).scope.kind=.function:=IB.kind
  have hi:interactive (callEnv fd L fI)=false:=by unfold interactive;rw[hkf];rfl
  refine ks_wpAt_execs_cons (ks_wpAt_Expr_any (hi:=hi) (ks_wpAt_MethodCall (pl:=pl) (he:=he) (ks_wpAt_super_base (env:=callEnv fd L fI) IB.nsup IB.ncls (by decide) rfl (X0 _ _ hfn) rfl har hcda (X0 _ _ hlk) rfl hvs hfile IB.top ?_)))
  have hg0:h0.Ns (callEnv fd L fI).globals mg:=by rw[show (callEnv fd L fI).globals=fd.globals from rfl,IB.glo];exact hg.keeps hk
  have hb0:h0.Ns (callEnv fd L fI).builtins mb:=by rw[show (callEnv fd L fI).builtins=fd.builtins from rfl,IB.blt];exact hb.keeps hk
  have C0:=hk _ _ hC
  have x0:=hk _ _ hx
  refine ks_loadName_global hkf IB.nsup (loadGlobal_builtin hg0 hsup hb0 hbs ⟨rfl,?_⟩)
  refine wpAny_loadName_free hkf IB.ncls IK.clo ⟨_,X0 _ _ hcell,rfl⟩ ?_
  rw[hself]
  refine wpAny_loadName_local hkf IB.nself hns m1 ?_
  refine ks_wpAny_isType_cls C0 rfl ⟨rfl,?_⟩
  refine ks_wpAny_call_super C0 rfl x0 rfl (fun c z=>by cases z) (looks_mroIn X0 IK.self) (fun h2 hso k2=>?_)
  obtain⟨cd,hcd,hal⟩:=Option.bind_eq_some_iff.mp IK.sup
  have X2:=X0.keeps k2
  have x2:=k2 _ _ x0
  have C2:=k2 _ _ C0
  have hne:e≠C:=fun z=>by rw[z,C2] at x2;cases x2
  refine sup_method hso (looks_opaque X2 IK.opq) (looks_mro X2 hcd) rfl X2 hal x2 rfl (looks_mroIn X2 IK.val) hne ?_
  have up3:∀ y o,h2.get? y=some o→(h2.push (wrapObj e)).get? y=some o:=fun y o z=>Heap.get?_push_of_some _ z
  have hu:(h2.push (wrapObj e)).get? h2.objs.size=some (wrapObj e):=Heap.get?_push_at rfl rfl
  generalize h2.push (wrapObj e)=h3 at hu up3
  have ns3:h3.Ns (callEnv fd L fI).locals m:=(hns.keeps k2).keeps up3
  have x3:=up3 _ _ x2
  have C3:=up3 _ _ C2
  refine callWith_wrap (e:=e) rfl (evalArgs_plain (spliced_cons ?_))
  rw[if_neg Bool.false_ne_true]
  refine text_fld (q5:=q5) hkf IB.nf ns3 m2 h1 hab IB.fdb fun x tk' t'=>spliced_nil ⟨hu,?_⟩
  refine call_wrap C3 hu x3 fun h4 x4 k4 t4=>?_
  have k04:∀ b o,b≠e→h0.get? b=some o→h4.get? b=some o:=fun b o n z=>k4 b o n (up3 _ _ (k2 _ _ z))
  have hLe:L≠e:=fun z=>by
    have:=Heap.lt_size hx
    rw[hL,z] at this
    exact Nat.lt_irrefl _ this
  have ns4:h4.Ns (callEnv fd L fI).locals m:=by
    obtain⟨o,es,ep,ho,r⟩:=hns
    exact⟨o,es,ep,k04 _ _ hLe ho,r⟩
  have C4:=k04 _ _ (Ne.symm hne) C0
  have X4:K.In h4:=fun y o z=>k04 _ _ (fun q=>by rw[q,hKe] at z;cases z) (X0 _ _ z)
  have T4:OwnTail h4 vBases bm:=tail_of_in X4 T
  refine ks_wpAt_execs_cons (ks_wpAt_Assign_Attr (wpAt_of_wpAny (wpAny_Name (wpAny_loadName_local hkf IB.nf ns4 m2 (wpAny_Name (wpAny_loadName_local hkf IB.nself ns4 m1 ?_) (by decide))) IB.fdb)))
  refine set_fld X4 C4 T4 IK.sa IK.nof x4 fun h5 tk5 dx x5 hd5 ns5 k5=>?_
  have k0:∀ b o,s.heap.get? b=some o→h3.get? b=some o:=fun b o z=>up3 _ _ (k2 _ _ (hk _ _ z))
  refine wpAt_of_wpAny (wpAny_execs_nil (k h5 dx h3.objs.size tk5 ⟨fun b o n z=>k5 b o n (k04 b o n (hk _ _ z)),x5,?_,?_,ns5⟩))
  · cases z:s.heap.get? dx with
    | none=>rfl
    | some o =>
      by_cases q:dx=e
      · rw[q,x4] at hd5;cases hd5
      · rw[k04 _ _ q (hk _ _ z)] at hd5;cases hd5
  · cases z:s.heap.get? h3.objs.size with
    | none=>rfl
    | some o=>exact absurd (Heap.lt_size (k0 _ _ z)) (Nat.lt_irrefl _)
end
end
end
end PySem.W.Own
namespace PySem.W.Own
noncomputable section
open PySem PySem.Spec PySem.Calls PyProof.Rows
def Dk (h h':Heap):Prop:=∀ (b:Nat) (o:Obj),h.objs[b]?=some o→∃ o':Obj,h'.objs[b]?=some o'∧o'.dict=o.dict
theorem Dk.refl (h:Heap):Dk h h:=fun _ o e=>⟨o,e,rfl⟩
theorem Dk.trans {a b c:Heap} (x:Dk a b) (y:Dk b c):Dk a c:=fun k o e=>by
  obtain⟨o1,e1,d1⟩:=x k o e
  obtain⟨o2,e2,d2⟩:=y k o1 e1
  exact⟨o2,e2,d2.trans d1⟩
theorem Dk.push (h:Heap) (o:Obj):Dk h (h.push o):=fun b u e=>⟨u,by
  rw[Heap.objs_push,Array.getElem?_push]
  have:=(Array.getElem?_eq_some_iff.mp e).1
  rw[if_neg (Nat.ne_of_lt this)]
  exact e,rfl⟩
theorem Dk.upd {h:Heap} {a:Addr} {f:Obj→Obj} (hf:∀ o,(f o).dict=o.dict):Dk h (h.update a f):=fun b u e=>by
  show ∃ o',(h.objs.modify a f)[b]?=some o'∧_
  rw[Array.getElem?_modify]
  split
  · rw[e];exact⟨_,rfl,hf _⟩
  · exact⟨u,e,rfl⟩
def Nice {α:Type}:Sem α→Prop
  | .pure _=>True
  | .raise _=>False
  | .unsupported _=>True
  | .finish _=>True
  | .rule _ k=>Nice (k ())
  | .at _ k=>Nice (k ())
  | .load _ _ k=>∀ o,Nice (k o)
  | .update _ _ f k=>(∀ o,(f o).dict=o.dict)∧Nice (k ())
  | .alloc _ k=>∀ a,Nice (k a)
  | .loadIfAlive _ k=>∀ o,Nice (k o)
  | .point _ k=>Nice (k ())
  | .register _ _=>True
  | .fresh k=>∀ t,Nice (k t)
  | .ask k=>∀ t,Nice (k t)
  | .handled _ k=>∀ v,Nice (k v)
  | .stack k=>∀ v,Nice (k v)
  | _=>False
theorem nice_wp {α:Type} {M:Model} {Γ:Ctx}:∀ (t:Sem α) (Q:α→Pos→Shared→Prop) (E:Value→Pos→Shared→Prop) (p:Pos) (s:Shared),Nice t→Sem.wp M Γ t Q E p s →
    Sem.wp M Γ t (fun a p' s'=>Q a p' s'∧Dk s.heap s'.heap) (fun _ _ _=>False) p s:=by
  intro t
  induction t with
  | pure a=>intro Q E p s _ h;exact⟨h,.refl _⟩
  | raise e=>intro Q E p s n h;exact n.elim
  | unsupported _=>intro Q E p s _ h;exact h.elim
  | finish _=>intro Q E p s _ h;exact h.elim
  | rule _ k ih=>intro Q E p s n h;exact ih () Q E p s n h
  | «at» _ k ih=>intro Q E p s n h;exact ih () Q E _ s n h
  | load a _ k ih=>intro Q E p s n h;obtain⟨o,e,h⟩:=h;exact⟨o,e,ih o Q E p s (n o) h⟩
  | update a _ f k ih=>intro Q E p s n h;exact⟨h.1,Sem.wp_mono M Γ _ (fun _ _ _ z=>⟨z.1,(Dk.upd n.1).trans z.2⟩) (fun _ _ _ z=>z) _ _ (ih () Q E p _ n.2 h.2)⟩
  | alloc o k ih=>intro Q E p s n h;exact Sem.wp_mono M Γ _ (fun _ _ _ z=>⟨z.1,(Dk.push _ _).trans z.2⟩) (fun _ _ _ z=>z) _ _ (ih _ Q E p _ (n _) h)
  | loadIfAlive _ k ih=>intro Q E p s n h;exact ih _ Q E p s (n _) h
  | point _ k ih=>intro Q E p s n h;exact ih () Q E p s n h
  | register _ _=>intro Q E p s _ h;exact h.elim
  | fresh k ih=>intro Q E p s n h;exact ih _ Q E p _ (n _) h
  | ask k ih=>intro Q E p s n h;exact ih _ Q E p s (n _) h
  | handled _ k ih=>intro Q E p s n h;exact ih _ Q E p s (n _) h
  | stack k ih=>intro Q E p s n h;exact ih _ Q E p s (n _) h
  | _=>intro Q E p s n h;exact n.elim
theorem Nice.any {α:Type} {M:Model} {A:Around} {t:Sem α} {Q:α→Shared→Prop} {E:Value→Shared→Prop} {s:Shared} (n:Nice t) (h:wpAny M A t Q E s):wpAny M A t (fun a s'=>Q a s'∧Dk s.heap s'.heap) (fun _ _=>False) s :=
  fun Γ p g=>nice_wp t _ _ p s n (h Γ p g)
theorem Nice.bind {α β:Type} {f:α→Sem β} (hf:∀ a,Nice (f a)):∀ (m:Sem α),Nice m→Nice (m.bind f):=by
  intro m
  induction m with
  | pure a=>intro _;exact hf a
  | raise _=>intro n;exact n.elim
  | unsupported _=>intro _;trivial
  | finish _=>intro _;trivial
  | rule _ k ih=>intro n;exact ih () n
  | «at» _ k ih=>intro n;exact ih () n
  | load a _ k ih=>intro n o;exact ih o (n o)
  | update a _ f k ih=>intro n;exact⟨n.1,ih () n.2⟩
  | alloc o k ih=>intro n a;exact ih a (n a)
  | loadIfAlive _ k ih=>intro n o;exact ih o (n o)
  | point _ k ih=>intro n;exact ih () n
  | register _ _=>intro _;trivial
  | fresh k ih=>intro n a;exact ih a (n a)
  | ask k ih=>intro n a;exact ih a (n a)
  | handled _ k ih=>intro n a;exact ih a (n a)
  | stack k ih=>intro n a;exact ih a (n a)
  | _=>intro n;exact n.elim
theorem Nice.bnd {α β:Type} {m:Sem α} {f:α→Sem β} (h:Nice m) (hf:∀ a,Nice (f a)):Nice (m >>= f):=Nice.bind hf m h
theorem nice_fieldsOf (v:Value):Nice (fieldsOf v):=by
  unfold fieldsOf
  split
  · refine Nice.bnd (fun o=>trivial) fun o=>?_
    split <;> trivial
  · trivial
theorem nice_field (v:Value) (i:Nat):Nice (field v i):=by
  unfold field
  refine Nice.bnd (nice_fieldsOf v) fun vs=>?_
  split <;> trivial
theorem dict_map (f:Array Value→Array Value) (o:Obj):(Obj.mapFields f o).dict=o.dict:=by
  unfold Obj.mapFields
  split <;> rfl
theorem nice_setField (v:Value) (i:Nat) (x:Value):Nice (setField v i x):=by
  unfold setField
  split
  · unfold updateField
    refine Nice.bnd (fun o=>trivial) fun o=>?_
    split
    · split
      · exact⟨dict_map _,trivial⟩
      · trivial
    · trivial
  · trivial
theorem nice_setFlight (e:Value) (f:Option Addr):Nice (setFlight e f):=by
  unfold setFlight
  refine Nice.bnd (nice_field _ _) fun tb=>?_
  split
  · exact nice_setField _ _ _
  · trivial
theorem nice_import (env:Env) (outer:List Env):Nice (behindIsImport env outer):=by
  unfold behindIsImport
  split
  · trivial
  · split
    · trivial
    · exact Nice.bnd (nice_field _ _) fun _=>trivial
theorem nice_back (env:Env) (b:Bool) (l:List Env):Nice (keptBack env b l):=by
  unfold keptBack
  split
  · split
    · trivial
    · refine Nice.bnd ?_ fun _=>trivial
      unfold underTheClaimsCaller
      exact Nice.bnd (fun _=>trivial) fun _=>trivial
  · trivial
theorem nice_ready:∀ l:List Env,Nice (readyFrames l)
  | []=>trivial
  | env :: outer=>by
    unfold readyFrames
    split
    · refine Nice.bnd (fun _=>trivial) fun o=>?_
      split
      · trivial
      · refine Nice.bnd (nice_import _ _) fun i=>Nice.bnd (nice_back _ _ _) fun v=>Nice.bnd ⟨fun o=>rfl,trivial⟩ fun _=>nice_ready outer
    · trivial
theorem nice_frameOf (env:Env):Nice (frameOf env):=by
  unfold frameOf
  refine Nice.bnd (Nice.bnd (fun _=>trivial) fun _=>trivial) fun l=>Nice.bnd ?_ fun r=>?_
  · unfold frameObject
    split
    · trivial
    · exact Nice.bnd (nice_ready _) fun _=>trivial
  · split <;> trivial
theorem nice_place (f:Addr) (b:Bool):Nice (entryPlaceOf f b):=by
  unfold entryPlaceOf
  refine Nice.bnd (fun _=>trivial) fun acts=>?_
  split <;> trivial
theorem nice_newObj (T:String) (vs:Array Value):Nice (newObj (.type T) (.fields vs)):=by
  unfold newObj
  dsimp only
  split
  · trivial
  · exact fun a=>trivial
theorem nice_entry (a b c d e:Value) (l:List Value):Nice (EntryCells.newEntry a b c d e l):=nice_newObj _ _
theorem nice_note (e:Value) (env:Env):Nice (noteFrame e env):=by
  unfold noteFrame
  split
  · rename_i f hf
    refine Nice.bnd (nice_field _ _) fun head=>?_
    have tl:Nice (do setField e 1 (← EntryCells.newEntry head (← frameOf env) .none (rawInt f) .none (← entryPlaceOf f (head != .none)))) :=
      Nice.bnd (nice_frameOf _) fun _=>Nice.bnd (nice_place _ _) fun _=>Nice.bnd (nice_entry _ _ _ _ _ _) fun _=>nice_setField _ _ _
    dsimp only
    split
    · refine Nice.bnd (nice_field _ _) fun x=>?_
      split
      · trivial
      · exact Nice.bnd (nice_setField _ _ _) fun _=>tl
    · exact tl
  · trivial
theorem nice_leaving (env:Env) (e:Value):Nice (leaving env e):=by
  unfold leaving
  exact Nice.bnd (nice_note _ _) fun _=>nice_setFlight _ _
theorem Dk.at {h h':Heap} (x:Dk h h') {b:Addr} {o o':Obj} (e:h.get? b=some o) (e':h'.get? b=some o'):o'.dict=o.dict:=by
  obtain⟨u,z,d⟩:=x b o (Heap.get?_some_iff.mp e).1
  rw[(Heap.get?_some_iff.mp e').1] at z
  cases z
  exact d
end
end PySem.W.Own
namespace PySem.W.Own
noncomputable section
open PySem PySem.Spec PySem.Calls PyProof.Rows Builtin Builtin.ObjectAttr Builtin.Getset_descriptor
section
theorem lookIn_ns {h:Heap} {d:Addr} {m:Str→Option Value} {f:Str} {u:Value} (n:h.Ns1 d m) (hm:m f=some u):∃ od,h.get? d=some od∧lookIn f od=some (some u):=by
  obtain⟨o,es,ep,ho,hd,_,_,hf⟩:=n
  refine⟨o,ho,?_⟩
  have e:nsFind es f=some u:=(hf f).trans hm
  unfold nsFind findBy at e
  unfold lookIn
  rw[hd]
  dsimp only
  rw[Array.find?_toList]
  cases z:es.find? (fun e=>e.key.isStr f) with
  | none=>rw[z] at e;cases e
  | some x=>rw[z] at e;cases e;rfl
structure FldE (K:Frag) (D:Addr) (f:Str):Prop where
  ga:findIn K (.ref D) "__getattribute__"=some (some (.builtin "BaseException.__getattribute__"))
  gt:findIn K (.ref D) "__getattr__"=some none
  nf:findIn K (.ref D) f=some none
  hb:mroIn K D (.type "BaseException")=some true
  hd:(clsIn K D).any (·.hasDict)=true
section
variable {prog:Program} {w:World} {A:Around} {E:Value→Shared→Prop} {s:Shared} {K:Frag} {x D d:Addr} {f:Str} {oe:Obj} {u:Value}
theorem find_fld {M:Model} {h:Heap} {m:Str→Option Value} (X:K.In h) (F:FldE K D f) (hx:h.get? x=some oe) (hc:oe.cls=.ref D) (hn:notCls oe=true) (hd:oe.dict=some d) (n:h.Ns1 d m) (hm:m f=some u):Looks M h (find (.ref x) (.ref D) f) (.value u):=by
  obtain⟨od,ho,hl⟩:=lookIn_ns n hm
  obtain⟨cd,hcd,hh⟩:=any_some F.hd
  refine looks_find X (ox:=oe) (od:=some od) ⟨hx,hc,hn,by rw[hd];exact ho⟩ ?_
  unfold findObj
  rw[hcd,Option.bind_some,F.nf,Option.bind_some,Option.bind_some,Option.bind_some]
  unfold ownOf
  rw[hh,if_pos rfl]
  show (lookIn f od).bind _=_
  rw[hl]
  rfl
theorem get_fld {m:Str→Option Value} {Q:Value→Shared→Prop} (X:K.In s.heap) (F:FldE K D f) (hx:s.heap.get? x=some oe) (hc:oe.cls=.ref D) (hn:notCls oe=true) (hd:oe.dict=some d) (n:s.heap.Ns1 d m) (hm:m f=some u) (hu:handedOut u=pure u)
    (k:∀ tk,Q u { s with toks:=tk }):wpAny (model prog w) A (getAttr (.ref x) f true) Q E s:=by
  have L1:=looks_findIn (M:=model prog w) X F.ga
  have L2:=looks_findIn (M:=model prog w) X F.gt
  have L3:=looks_mroIn (M:=model prog w) X F.hb
  have L4:=find_fld (M:=model prog w) X F hx hc hn hd n hm
  have L0:Looks (model prog w) s.heap (typeOf (.ref x)) (.ref D):=hc ▸ (Looks.ld hx).andThen .now
  obtain⟨hh,g,dr,t,os⟩:=s
  have gb:=PySem.F.excAttr_ValueError.ga
  have hx2:(onTheHeap (Value.ref D) && Value.builtin "BaseException.__getattribute__" == Value.builtin "object.__getattribute__")=false:=by
    rw[show (Value.builtin "BaseException.__getattribute__" == Value.builtin "object.__getattribute__")=false by decide +kernel];rfl
  unfold getAttr getAttrBy
  refine wpAny_bind (wpAny_mkText (wpAny_holding (wpAny_bind (L0.at (wpAny_bind (L1.at ?_))))))
  dsimp only
  rw[if_neg (by rw[hx2];exact Bool.false_ne_true)]
  unfold getAttrByItsOwn hookBefore
  rw[if_pos (show onTheHeap (Value.ref D)=true from rfl)]
  refine wpAny_bind (L2.at (wpAny_bind (wpAny_attempt (wpAny_holding ?_))))
  unfold callGetattribute
  rw[if_neg (show ¬ (true && onTheHeap (Value.builtin "BaseException.__getattribute__"))=true from Bool.false_ne_true)]
  unfold boundAndCalled
  rw[gb.bind (.ref x)]
  refine wpAny_bind (wpAny_pure ?_)
  have hk:builtinKind "BaseException.__getattribute__"=some .slot:=by decide +kernel
  have hsplit:splitId "BaseException.__getattribute__"=some ("BaseException","__getattribute__"):=by decide +kernel
  have ha:=PySem.F.args_bexc_ga (.ref x) (.str f t)
  refine wpAny_mono (Q:=fun v s'=>v=u∧s'=⟨hh,g,dr,t+1,os⟩) (E:=fun _ _=>False) (wpAny_call (codeAny_call_builtin gb.plain PySem.F.entry_bexc_ga ?_)) (fun v s' z=>?_) fun _ _ z=>z.elim
  · simp only[checkBuiltinCall,hk,hsplit]
    refine wpAny_bind ?_
    unfold isInstance
    iterate 22 lk
    refine wpAny_pure ?_
    refine wpAny_bind (wpAny_pure (wpAny_bind (wpAny_pure (wpAny_bind (L0.at (wpAny_bind (L4.at ?_)))))))
    exact wpAny_pure ⟨rfl,rfl⟩
  · obtain⟨rfl,rfl⟩:=z
    show wpAny _ _ (handedOut v) _ _ _
    rw[hu]
    exact wpAny_pure (k _)
end
end
end
end PySem.W.Own
namespace Ev
noncomputable section
open PySem PySem.Spec PyProof.Rows L2 W.Own
section
def DLink (dv:Option Addr) (x:Addr) (h:Heap):Prop:=∀ d,dv=some d→∃ oe:Obj,h.get? x=some oe∧oe.dict=some d
theorem DLink.keep {dv:Option Addr} {x:Addr} {h h':Heap} (l:DLink dv x h) (k:Dk h h') (t:∃ o:Obj,h'.get? x=some o):DLink dv x h':=fun d e=>by
  obtain⟨oe,ho,hd⟩:=l d e
  obtain⟨o',ho'⟩:=t
  exact⟨o',ho',(k.at ho ho').trans hd⟩
def CXF (P:Program) (w:World):CXT:=fun outer H s E e s'=>∃ x C H' dv,e=.ref x∧Fly P w outer H H' s s' x C∧DLink dv x s'.heap∧E (.ref C) dv H'
section
variable {P:Program} {w:World} {K:W.Frag} {mg:Str→Option Value} {base:Heap} {N:List Str} {qual:Str} {scope:Scope} {f:Addr} {cd:Value} {A:Around} {outer:List Env} {s:Shared} {H:Hp} {E:XK}
end
end
end
end Ev
section
namespace PySem.W.Own
open PySem PySem.Spec
structure NewErr (C:Addr) (f:Str) (v:Value) (h h':Heap) (e dx:Addr):Prop where
  keeps:∀ b o,h.get? b=some o→h'.get? b=some o
  at_e:∃ t,h'.get? e=some (fldErr C t (some dx))
  newe:h.get? e=none
  newd:h.get? dx=none
  ns:h'.Ns1 dx (fun y=>if y=f then some v else none)
theorem NewErr.ne {C:Addr} {f:Str} {v:Value} {h h':Heap} {e dx:Addr} (n:NewErr C f v h h' e dx):dx≠e:=fun z=>by
  obtain⟨t,ht⟩:=n.at_e
  obtain⟨o,es,ep,ho,hd,_⟩:=n.ns
  rw[z,ht] at ho
  cases ho
  cases hd
end PySem.W.Own
namespace Ev
open PySem PySem.Spec PyProof.Rows L2 PySem.W.Own
abbrev xdOf (f:Str) (n:Int):HO:=.xd [(f,.int n)]
noncomputable def RaisesF (X:Cx) (E:XK):Prop:=∀ (pins:List (Addr×Obj)) (σ:L2.St) (H:Hp) (s:Shared) (h':Heap) (e C dx:Addr) (f:Str) (n:Int) (tk tk':Nat),L2.Inv X pins σ H s→NewErr C f (.int n tk) s.heap h' e dx→H dx=none→E (.ref C) (some dx) (L2.upd H dx (xdOf f n))→X.xe (.ref e) { s with heap:=h',toks:=tk' }
section
variable {P:Program} {w:World} {K:PySem.W.Frag} {mg:Str→Option Value} {base:Heap} {N:List Str} {qual:Str} {scope:Scope} {f:Addr} {cd:Value} {A:Around} {outer:List Env} {s:Shared} {H:Hp} {E:XK}
theorem raisesF:RaisesF (cxOf (CXF P w) P w K mg base N qual scope f cd A outer s H E) E:=by
  intro pins σ H1 s1 h' x C dx fl n tk tk' I ne hdx q
  let L:Addr:=s.heap.objs.size
  let env:Env:=envOfC qual scope L f cd
  obtain⟨t,hx⟩:=ne.at_e
  have hfr:∀ b∈L :: frs outer,H1 b=none:=I.stkFree
  have u1:L2.Un (frs outer) [] H H1 s.heap s1.heap:=I.base
  have frf:∀ b∈frs outer,H b=none:=I.ok.frf
  have fun0:s.heap.FunFrames base outer:=I.ok.funs
  have stF:s1.heap.FunFrames base (env :: outer):=I.stack
  have stF':h'.FunFrames base (env :: outer):=stF.of_keeps fun b o hb _=>⟨o,ne.keeps b o hb,rfl⟩
  have hin:∀ e∈(env :: outer),∀ b,e.frame=some b→b∈x :: L :: frs outer:=fun e he b hb =>
    .tail _ (show b∈(env :: outer).filterMap (·.frame) from List.mem_filterMap.mpr ⟨e,he,hb⟩)
  let B:Heap:=PySem.W.hideAll h' (x :: L :: frs outer)
  have hBx:B.get? x=none:=PySem.W.hideAll_none _ (by simp)
  have kB:∀ b o,B.get? b=some o→h'.get? b=some o:=fun b o e=>PySem.W.of_hideAll _ e
  have nL:∀ {b:Addr} {o:Obj},s.heap.get? b=some o→b∉frs outer→b∉L :: frs outer:=fun {b o} e hb z=>by
    rcases List.mem_cons.mp z with z | z
    · exact absurd (Heap.lt_size e) (by rw[z];exact Nat.lt_irrefl _)
    · exact hb z
  have lt1:∀ b∈L :: frs outer,∃ o,s1.heap.get? b=some o:=fun b hb=>by
    obtain⟨_,o,ho,_⟩:=stF.mem (b:=b) hb
    exact⟨o,ho⟩
  have dnf:dx∉L :: frs outer:=fun z=>by
    obtain⟨o,ho⟩:=lt1 dx z
    rw[ne.newd] at ho;cases ho
  have xnf:x∉L :: frs outer:=fun z=>by
    obtain⟨o,ho⟩:=lt1 x z
    rw[ne.newe] at ho;cases ho
  refine (show wpAny _ _ (leaving env (.ref x)) _ _ { s1 with heap:=h',toks:=tk' } from ?_)
  refine wpAny_mono (Nice.any (E:=fun _ _=>False) (nice_leaving env (.ref x)) (wpAny_leaving_firstW (base:=B) (Q:=fun _ s2=>∃ h2,s2={ s1 with heap:=h2,toks:=tk' }∧Heap.LeftW B (env :: outer) x (.ref C) (.ref t) h' h2) I.ok.frames (PySem.W.funFrames_hide stF' hin) rfl hx kB hBx rfl rfl rfl fun h2 hl=>⟨h2,rfl,hl⟩)) (fun _ s2 ⟨⟨h2,e2,hl⟩,dk⟩=>?_) fun _ _ z=>z.elim
  subst e2
  obtain⟨k1,⟨_,_,k2⟩,k3,k4⟩:=hl
  have sm:h'.UpToSlots h2:=k4
  have flw:Heap.FlyingW B outer x (.ref C) (.ref t) h2:=⟨k1,hBx,k2,k3⟩
  have old:∀ b o,h'.get? b=some o→b∉L :: frs outer→b≠x→B.get? b=some o∧h2.get? b=some o:=fun b o e hb hx =>
    have z:B.get? b=some o:=PySem.W.hideAll_get (x :: L :: frs outer) e fun z=>by
      rcases List.mem_cons.mp z with z | z
      · exact hx z
      · exact hb z
    ⟨z,k1 b o z⟩
  have dne:dx≠x:=ne.ne
  have n1:∀ {b:Addr} {o:Obj},s1.heap.get? b=some o→b≠x∧b≠dx:=fun {b o} e=>⟨fun z=>(by rw[z,ne.newe] at e;cases e),fun z=>(by rw[z,ne.newd] at e;cases e)⟩
  have h1n:∀ {b:Addr} {u:HO},H1 b=some u→b≠dx:=fun {b u} h z=>by rw[z,hdx] at h;cases h
  have n0:∀ {b:Addr} {o:Obj},s.heap.get? b=some o→∃ o',s1.heap.get? b=some o':=fun {b o} e=>u1.there b o e (by simp)
  refine⟨x,C,_,some dx,rfl,⟨I.os,I.bare,?_,fun a o e=>?_,B,.ref t,flw,fun b o e hb hc=>?_⟩,fun d e=>?_,q⟩
  · have slot:∀ b o,s.heap.get? b=some o→H b=none→b∈frs outer→∃ sl,h2.get? b=some { o with slots:=sl }:=fun b o e n hb=>by
      obtain⟨sl,e1⟩:=u1.slot b o e n hb (by simp)
      obtain⟨_,o',ho',nf⟩:=fun0.mem (b:=b) hb
      rw[e] at ho'
      cases ho'
      obtain⟨sl2,e3⟩:=sm b _ (ne.keeps b _ e1) nf
      exact⟨sl2,e3⟩
    refine⟨fun b o e n hb hx=>(old b o (ne.keeps b o (u1.keep b o e n hb hx)) (nL e hb) (n1 (u1.keep b o e n hb hx)).1).2,fun b o e n hb hx=>slot b o e n hb,fun b o e n hx=>?_,fun b o e hx=>?_,fun b xs h=>?_,fun b o u h=>?_,fun b ps h=>?_⟩
    · obtain⟨o',e'⟩:=n0 e
      rw[upd_ne (n1 e').2]
      exact u1.free b o e n hx
    · by_cases hb:b∈frs outer
      · obtain⟨sl,e'⟩:=slot b o e (frf b hb) hb
        exact⟨_,e'⟩
      · obtain⟨o1,e1⟩:=n0 e
        exact⟨o1,(old b o1 (ne.keeps b o1 e1) (nL e hb) (n1 e1).1).2⟩
    · have z:=u1.tups b xs h
      rw[upd_ne (h1n z)];exact z
    · have z:=u1.frzs b o u h
      rw[upd_ne (h1n z)];exact z
    · obtain⟨m,z⟩:=u1.tbls b ps h
      exact⟨m,by rw[upd_ne (h1n z)];exact z⟩
  · by_cases za:a=dx
    · subst za
      rw[upd_same] at e
      cases e
      have nd:=ne.ns
      obtain⟨od,es,ep,ho,r⟩:=nd
      refine⟨_,⟨od,es,ep,(old _ _ ho dnf dne).2,r⟩,fun y=>?_⟩
      show RelO (List.lookup y [(fl,V.int n)]) (if y=fl then some (Value.int n tk) else none)
      by_cases hy:y=fl
      · subst hy
        rw[List.lookup_cons_self,if_pos rfl]
        exact⟨_,rfl⟩
      · rw[List.lookup_cons,show (y == fl)=false from beq_eq_false_iff_ne.mpr hy,if_neg hy]
        trivial
    · rw[upd_ne za] at e
      refine (I.hok a o e).stay (fun b u hb eb=>?_) (fun b h=>by rw[upd_ne (h1n h)];exact h) fun b ys h=>by rw[upd_ne (h1n h)];exact h
      have hn:H1 b≠none:=by
        rcases hb with rfl | hb
        · rw[e];simp
        · rw[hb];simp
      exact (old b u (ne.keeps b u eb) (fun z=>hn (hfr b z)) (n1 eb).1).2
  · have fin:∀ o',h'.get? b=some o'→b∉L :: frs outer→b≠x→B.get? b=some o:=fun o' e' hb' hx'=>by
      obtain⟨z1,z2⟩:=old b o' e' hb' hx'
      have e:h2.get? b=some o:=e
      rw[e] at z2
      cases z2
      exact z1
    rcases hc with hc | ⟨u,hu⟩
    · by_cases zb:b=dx
      · subst zb
        obtain⟨od,es,ep,ho,_⟩:=ne.ns
        exact fin od ho dnf dne
      · rw[upd_ne zb] at hc
        cases z:H1 b with
        | none=>exact absurd z hc
        | some v =>
          obtain⟨o',e'⟩:=objOk_at (I.hok b v z)
          exact fin o' (ne.keeps _ _ e') (fun zz=>hc (hfr b zz)) (n1 e').1
    · obtain⟨o1,e1⟩:=n0 hu
      exact fin o1 (ne.keeps _ _ e1) (nL hu hb) (n1 e1).1
  · cases e
    obtain⟨ob,ho,_⟩:=flw.there
    exact⟨ob,ho,dk.at hx ho⟩
end
end Ev

end
section
namespace PySem.W.Own
open PySem PySem.Spec PySem.Calls PyProof.Rows
section
variable {prog:Program} {w:World} {A:Around} {E:Value→Shared→Prop} {s:Shared} {env:Env}
variable {nm q:Str} {C N:Addr} {bs bm:List Value} {hdct:Bool} {sn:List Str} {sub:List Value} {ab:Bool} {col:Option Bool} {dd:Option Addr} {k0 k1 k2 k3 k5:Option Value} {nid:String}
theorem raise_fld {x:Sem Value} {Q:Flow→Shared→Prop} (hbase:bm.contains (.type "BaseException")=true) (hh:A.handled=none)
    (k:wpAny (model prog w) A x (fun v s1=>∃ e t dx,v=.ref e∧s1.heap.get? C=some (excClassObj nm q C N bs bm hdct sn sub ab col dd k0 k1 k2 k3 k5 nid)∧s1.heap.get? e=some (fldErr C t (some dx))∧E (.ref e) s1) E s):wpAny (model prog w) A (raiseStmt env (some x) none) Q E s:=by
  have hb:(Value.ref C :: bm).contains (.type "BaseException")=true:=by rw[List.contains_cons,hbase,Bool.or_true]
  unfold raiseStmt
  refine wpAny_bind (wpAny_mono k (fun v s1 ⟨e,t,dx,ev,hC,he,hE⟩=>?_) fun _ _ z=>z)
  subst ev
  obtain⟨hp,g,d,tk,os⟩:=s1
  repeat (first | (with_reducible refine wpAny_isSubtype_exc hC ?_;rw[hb]) | with_reducible refine wpAny_loadPart_at hC ?_ | with_reducible refine wpAny_loadPart_at he ?_ | wp_step)
  exact wpAny_raiseNew_none hh hE
end
end PySem.W.Own
namespace PySem.W.Own
open PySem PySem.Spec PySem.Calls PyProof.Rows
def fldIn (K:Frag) (C fI:Addr):Bool:=(K.lookup C).any fun o=>o.cls == .type "type" && match o.data with
  | .cls cd=>!cd.hasDel && cd.hasDict && nsOkIn K cd.ns && nsIn K cd.ns "__init__" == some (some (.ref fI)) && match cd.mro with
    | .ref D :: bm=>D == C && tailIn K vBases bm && match o.slots.toList with
      | [_,_,_,_,some (.builtin n),_]=>n == "ValueError.__new__"
      | _=>false
    | _=>false
  | _=>false
theorem ns_some_at {K:Frag} {h:Heap} {N:Addr} {mN:Str→Option Value} {n:Str} {v:Value} (X:K.In h) (G:h.Ns N mN) (e:nsIn K N n=some (some v)):mN n=some v:=by
  obtain⟨o,es,ep,ho,hd,_,hf⟩:=G
  unfold nsIn at e
  split at e
  · rename_i q
    have:=X _ _ q
    rw[ho] at this
    cases this
    cases hd
    split at e
    · rename_i en he
      cases e
      rw[← hf]
      unfold nsFind findBy
      rw[← Array.find?_toList,he]
      rfl
    · split at e <;> cases e
  · cases e
theorem fld_at {K:Frag} {C fI:Addr} (q:fldIn K C fI=true) {h:Heap} (X:K.In h) :
    ∃ tl N nm qn bs sn sub ab col dd k0 k1 k2 k3 k5 mN,h.get? C=some (excClassObj nm qn C N bs tl true sn sub ab col dd k0 k1 k2 k3 k5 "ValueError.__new__")∧h.Ns N mN∧mN "__init__"=some (.ref fI)∧tailIn K vBases tl=true:=by
  unfold fldIn at q
  cases hl:K.lookup C with
  | none=>rw[hl] at q;cases q
  | some o =>
    rw[hl] at q
    obtain⟨oc,dd,dt,sl⟩:=o
    simp only[Option.any_some,Bool.and_eq_true] at q
    obtain⟨q0,q⟩:=q
    have q0:oc=.type "type":=by simpa using q0
    subst q0
    cases dt with
    | cls cd =>
      simp only[Bool.and_eq_true,Bool.not_eq_true',beq_iff_eq] at q
      obtain⟨⟨⟨⟨a1,a2⟩,a3⟩,a4⟩,q⟩:=q
      obtain⟨nm,bs,mro,ns,qn,hd,sn,sub,ab,col,del⟩:=cd
      dsimp only at a1 a2 a3 a4 q
      subst a1 a2
      cases mro with
      | nil=>cases q
      | cons v bm =>
        cases v with
        | ref D =>
          simp only[Bool.and_eq_true,beq_iff_eq] at q
          obtain⟨⟨rfl,a5⟩,q⟩:=q
          obtain⟨l⟩:=sl
          match l,q with
          | [k0,k1,k2,k3,some (.builtin n),k5],q =>
            have q:n="ValueError.__new__":=by simpa using q
            subst q
            have n0:h.Ns ns _:=.of_isNs (isNs_of_in X a3)
            exact⟨bm,ns,nm,qn,bs,sn,sub,ab,col,dd,k0,k1,k2,k3,k5,_,X _ _ hl,n0,ns_some_at X n0 a4,a5⟩
        | _=>cases q
    | _=>cases q
end PySem.W.Own

end
namespace Ev
noncomputable section
open PySem PySem.Spec PyProof.Rows L2 W.Own PySem.Calls
section
structure ErrF (P:Program) (K:W.Frag) (mg:Str→Option Value) (C:Addr) (f:Str):Prop where
  ex:∃ fI cc cda fd,fldIn K C fI=true∧IniB P f fd∧IniK P K C fI cc cda f fd
  sup:mg "super"=none
section
variable {X:Cx} {x f:Str} {C:Addr} {np cpos pos:Pos} {e:Expr} {te:TE} {E:XK}
theorem ps_raiseF (hx:RaisesF X E) (hc:X.calm=true) (hr:X.A.depth+1 < recursionLimit) (hg:Gl X x) (hm:X.mg x=some (.ref C)) (EF:ErrF X.prog X.K X.mg C f) (he:PE X.nox e te) (hdb:(x == ("__debug__":Str))=false:=by decide)
    (hs:starEach [e] X.env=[(false,eval e X.env)]:=by rfl):PS X (.Raise (some (.Call (.Name x np) [e] [] cpos)) none pos) (fun _ σ H=>te σ H fun v H1=>∃ n:Int,v=.int n∧n.natAbs.log2 < 1920∧∀ dx,H1 dx=none→E (.ref C) (some dx) (L2.upd H1 dx (xdOf f n))):=by
  intro pins s σ H D I h
  obtain⟨fI,cc,cda,fd,hfl,IB,IK⟩:=EF.ex
  obtain⟨tl,Ns,nm,qn,bs,sn,sub,ab,col,dd,k0,k1,k2,k3,k5,mN,hC,hN,hni,T⟩:=fld_at hfl I.ok.mod.kin
  have pl:(backTo cpos (starEach [e] X.env)).any (·.1)=false:=by rw[hs];rfl
  have FB:=PySem.F.excBase_ValueError
  have TB:OwnTail X.base vBases tl:=W.tail_of_in I.ok.mod.kin T
  obtain⟨od,osl,hfn⟩:=IK.fn
  rw[arm_exec_Raise]
  refine wpAny_bind (wpAny_standAt (raise_fld (C:=C) (nm:=nm) (q:=qn) (N:=Ns) (bs:=bs) (bm:=tl) (hdct:=true) (sn:=sn) (sub:=sub) (ab:=ab) (col:=col) (dd:=dd) (k0:=k0) (k1:=k1) (k2:=k2) (k3:=k3) (k5:=k5) (nid:="ValueError.__new__") (TB.hasType FB.hasBase) (I.ok.hd hc) ?_))
  refine wpAny_bind (wpAny_mono (wpAny_Call_ofName (ld_glob I hg hm ?_ hdb)) (fun v s3 z=>wpAny_bind (wpAny_standAt (wpAny_pure z))) fun _ _ z=>z)
  unfold callWith
  rw[hs]
  refine wpAny_bind (wpAny_holding (Calls.evalArgs_plain (Calls.spliced_cons (wpAny_mono (he pins s σ H _ (I.wish _) h) (fun v s1 ⟨y,H1,I1,r1,n,en,hn,q⟩=>?_) fun _ _ z=>z.elim))))
  have I1:=I1.unwish
  subst en
  obtain⟨tk,rfl⟩:=(show ∃ t,v=Value.int n t from r1)
  refine Calls.spliced_nil (wpAny_bind (wpAny_standAt ?_))
  have C1:=I1.bk _ _ hC
  have X1:=I1.kIn
  have lim1:=I1.nolimit
  have gl1:=I1.mod.glob.keeps I1.bk
  obtain⟨mb,hb1,hb2⟩:=I1.mod.blt
  have bl1:=hb1.keeps I1.bk
  have N1:=hN.keeps I1.bk
  have T1:OwnTail s1.heap vBases tl:=W.tail_of_in X1 T
  have f1:=X1 _ _ hfn
  obtain⟨hp,gg,dr,tk1,os⟩:=s1
  refine wpAny_bind (wpAny_keeperOf_exc C1 ?_)
  refine wpAny_bind (made_own FB T1 C1 N1 hni f1 rfl (by show 1≤sizeLine;decide) fun h' e2 mk=>?_)
  have Xh:X.K.In h':=X1.keeps mk.keeps
  obtain⟨t,ht,_,_⟩:=mk.there
  have hKe:X.K.lookup e2=none:=by
    cases z:X.K.lookup e2 with
    | none=>rfl
    | some o=>have:=X1 _ _ z;rw[mk.new] at this;cases this
  refine init_call (s:=⟨h',gg,dr,tk1,os⟩) IB IK Xh (lim1.keeps mk.keeps) (gl1.keeps mk.keeps) EF.sup (bl1.keeps mk.keeps) ((hb2 _ (by decide)).trans (by decide +kernel)) (mk.keeps _ _ C1) T ?_ hKe ht hn fun h2 dx t2 tk2 mf=>⟨rfl,?_⟩
  · rw[make_depth];exact hr
  · have up:∀ b o,hp.get? b=some o→h2.get? b=some o:=fun b o z=>mf.keeps b o (fun q=>by rw[q,mk.new] at z;cases z) (mk.keeps _ _ z)
    have nd:hp.get? dx=none:=by
      cases z:hp.get? dx with
      | none=>rfl
      | some o =>
        have y:=mf.newd
        rw[mk.keeps _ _ z] at y
        cases y
    have ne:NewErr C f (.int n tk) hp h2 e2 dx:=⟨up,⟨_,mf.at_e⟩,mk.new,nd,mf.ns⟩
    have hd:H1 dx=none:=by
      cases z:H1 dx with
      | none=>rfl
      | some o =>
        obtain⟨u,hu⟩:=objOk_at (I1.hok _ _ z)
        have hu:hp.get? dx=some u:=hu
        rw[nd] at hu
        cases hu
    exact wpAny_bind (wpAny_holding (wpAny_point (wpAny_pure ⟨e2,t2,dx,rfl,up _ _ C1,mf.at_e,hx pins σ H1 ⟨hp,gg,dr,tk1,os⟩ h2 e2 C dx f n tk tk2 I1 ne hd (q dx hd)⟩)))
end
end
end
end Ev
namespace Ev
noncomputable section
open PySem PySem.Spec PyProof.Rows L2 W.Own
section
def ErrD (x C:Addr) (dv:Option Addr):HO:=.ext fun h=>∃ (oe:Obj) (vs:Array Value),h.get? x=some oe∧oe.cls=.ref C∧oe.data=.fields vs∧∀ d,dv=some d→oe.dict=some d
section
variable {X:Cx} {pins:List (Addr×Obj)} {σ:L2.St} {H1 H':Hp} {s1 s':Shared} {x C:Addr} {dv:Option Addr}
theorem caughtD (hst:X.stack=X.env :: X.outer) (hfr:X.env.frame=some X.env.locals) (I:L2.Inv X pins σ H1 s1) {h2:Heap} (I2:L2.Inv X pins σ H' { s' with heap:=h2 }) {T:Addr} {oe oT:Obj} (M:Met H' X.stack x C h2 T oe oT) (n1:s1.heap.get? x=none) (dl:DLink dv x h2) :
    L2.Inv X pins σ (L2.upd H' x (ErrD x C dv)) { s' with heap:=h2 }:=by
  obtain⟨vs,hd,_⟩:=M.dat
  have ne:∀ {b:Addr} {u:HO},H' b=some u→b≠x:=fun {b u} h z=>by rw[z,M.nx] at h;cases h
  refine { I2 with
    base:={ I2.base with
      free:=fun b o e n hx=>?_
      tups:=fun b xs h=>?_
      frzs:=fun b o u h=>?_
      tbls:=fun b ps h=>?_ }
    free:=?_
    freeC:=fun y c e=>?_
    pin:=fun p hp=>?_
    hok:=fun a o e=>?_ }
  · have : b≠x:=fun z=>by
      obtain⟨o',e'⟩:=I.base.there b o e hx
      rw[z,n1] at e';cases e'
    rw[upd_ne this]
    exact I2.base.free b o e n hx
  · have h2':=I2.base.tups b xs h
    rw[upd_ne (ne h2')];exact h2'
  · have h2':=I2.base.frzs b o u h
    rw[upd_ne (ne h2')];exact h2'
  · obtain⟨more,h2'⟩:=I2.base.tbls b ps h
    exact⟨more,by rw[upd_ne (ne h2')];exact h2'⟩
  · have hl:X.env.locals≠x:=fun z=>M.fx (by
      rw[hst]
      unfold frs
      rw[List.filterMap_cons,hfr,← z]
      exact .head _)
    rw[upd_ne hl];exact I2.free
  · have hc:c≠x:=fun z=>by
      obtain⟨v,o,ho,hdo⟩:=I2.cell y c e
      have ho:h2.get? c=some o:=ho
      rw[z,M.ex] at ho
      have eo:=Option.some.inj ho
      rw[← eo,hd] at hdo
      cases hdo
    rw[upd_ne hc];exact I2.freeC y c e
  · obtain⟨a,b,c⟩:=I2.pin p hp
    obtain⟨a1,_⟩:=I.pin p hp
    have : p.1≠x:=fun z=>by rw[z,n1] at a1;cases a1
    exact⟨a,by rw[upd_ne this];exact b,c⟩
  · by_cases z:a=x
    · subst z
      rw[upd_same] at e
      cases e
      refine⟨⟨oe,vs,M.ex,M.cls,hd,fun d q=>?_⟩,⟨oe,M.ex⟩,?_⟩
      · obtain⟨o',ho',hd'⟩:=dl d q
        rw[M.ex] at ho';cases ho';exact hd'
      · rintro g1 g2 ⟨oe',vs',e1,e2,e3,e4⟩ k
        exact⟨oe',vs',k _ e1,e2,e3,e4⟩
    · rw[upd_ne z] at e
      exact (I2.hok a o e).stay (fun b u _ h=>h) (fun b h=>by rw[upd_ne (ne h)];exact h) fun b ys h=>by rw[upd_ne (ne h)];exact h
end
def PXG (CX:CXT) (X:Cx) (e:Expr) (t:TX):Prop :=
  ∀ (F:Value→Shared→Prop) (pins:List (Addr×Obj)) (s:Shared) (σ:L2.St) (H:Hp) (Q:VK) (E:XK),L2.Inv X pins σ H s→t σ H Q E →
    (∀ H1 s1 u s',L2.Inv X pins σ H1 s1→CX X.stack H1 s1 E u s'→F u s')→wpAny (model X.prog X.w) X.A (eval e X.env) (EP X pins σ Q) F s
section
variable {X:Cx} {CX:CXT} {k:Nat} {f:Addr} {fd:FuncData} {ps ks:List Str} {sp:Sp} {x:Str} {p pos:Pos} {e:Expr} {es:List Expr} {kws:List Keyword} {t tk:TA} {g:List Value→List Value→List Value} {gV:List V→List V→List V}
theorem run_gx {F:Value→Shared→Prop} {E:XK} {pins:List (Addr×Obj)} {σ:L2.St} {H:Hp} {s:Shared} {Q:VK} {us:List Value} {vs:List V} (G:FnOk X.prog X.w X.K X.mg X.base CX k f fd ps sp) (hr:Room k X.A) (hb:Binds X.K fd ps [])
    (I:L2.Inv X pins σ H s) (r:Vals vs us) (h:sp vs H Q E) (z:∀ u s',CX X.stack H s E u s'→F u s'):wpAny (model X.prog X.w) X.A (call (.ref f) us) (EP X pins σ Q) F s:=by
  have r2:Vals (vs++[]) (us++[]):=r.append .nil
  have h2:sp (vs++[]) H Q E:=by rw[List.append_nil];exact h
  have hl:(us++[]).length=ps.length:=by rw[← r2.length];exact G.len _ _ _ _ h2
  refine wpAny_call (codeAny_mono (G.run X.A X.stack s H ⟨us,[]⟩ (us++[]) (vs++[]) Q E hr I.env0 (hb s us I.kIn hl) r2 h2) fun r s' hq=>?_)
  cases r with
  | error e=>exact z e s' hq
  | ok fl =>
    cases fl with
    | ret u=>exact I.after hq
    | next=>exact False.elim hq
    | brk=>exact False.elim hq
    | cont=>exact False.elim hq
theorem pxg_call (G:FnOk X.prog X.w X.K X.mg X.base CX k f fd ps sp) (hr:Room k X.A) (hg:Gl X x) (hm:X.mg x=some (.ref f)) (hk:W.keepIn X.K (.ref f)=true) (hb:Binds X.K fd ps []) (ha:PA X.nox (e :: es) t) (hdb:(x == ("__debug__":Str))=false:=by decide)
    (he:starEach (e :: es) X.env=(false,eval e X.env) :: starEach es X.env:=by rfl) (hpl:(backTo pos (starEach es X.env)).any (·.1)=false:=by rfl):PXG CX X (.Call (.Name x p) (e :: es) [] pos) (fun σ H Q E=>tCall sp [] E t σ H Q):=by
  intro F pins s σ H Q E I h z
  refine wpAny_Call_Name_kw (ld_glob I hg hm ?_ hdb)
  refine W.callWith_K (h₀:=X.base) I.ok.mod.kin hk (wpAny_mono (ha pos pins s σ H _ (I.wish _) h) (fun us s1 ⟨vs,H1,I1,r,q⟩=>⟨I1.kIn,?_⟩) fun _ _ z=>z.elim) he hpl
  have q:sp (vs++[]) H1 Q E:=q
  rw[List.append_nil] at q
  exact run_gx G hr hb I1.unwish r q fun u s' hq=>z H1 s1 u s' I1.unwish hq
end
end
section
variable {X:Cx} {CX:CXT} {k:Nat} {f C:Addr} {fd:FuncData} {ps ks:List Str} {sp:Sp} {x:Str} {p pos:Pos} {e:Expr} {es:List Expr} {kws:List Keyword} {t tk:TA} {g:List Value→List Value→List Value} {gV:List V→List V→List V}
end
section
variable {X:Cx} {pos pe np hp:Pos} {n:Str} {D0:Addr}
theorem ps_excF {e:Expr} {suite:List Stmt} {b0:Stmt} {tx:TX} {ts:TS} {nm:Str} {i:Nat} (hst:X.stack=X.env :: X.outer) (hfr:X.env.frame=some X.env.locals) (hb:PXG (CXF X.prog X.w) X e tx) (hg:Gl X n) (hm:X.mg n=some (.ref D0)) (hN:X.N.Nodup) (hi:X.N[i]?=some nm)
    (hlo:X.env.scope.names.lookup nm=some .local) (hk:X.env.kindOf nm=some .local) (hs:∀ x,PSs (Cx.fin X x) (b0 :: suite) ts) (hdb:(n == ("__debug__":Str))=false:=by decide) (hsw:swapsWith e none pe.line X.env=pure false:=by rfl) :
    PS X (.Try [.Expr e pe] [.ExceptHandler (some (.Name n np)) (some nm) (b0 :: suite) hp] [] [] pos) (fun D σ H=>tx σ H (fun _ H1=>D.nx σ H1) fun Cv dv H1=>W.exmOne X.K Cv (.ref D0)=some true∧∀ x C,Cv=.ref C→H1 x=none→ts ⟨fun _ _=>False,D.rt,fun _ _=>False,fun _ _=>False⟩ (σ.set i (some (.ref x))) (L2.upd H1 x (ErrD x C dv))):=by
  intro pins s0 σ H0 D I h
  refine wpAny_Try_except (wpAny_execs_cons (wpAny_Expr_any (wpAny_mono (hb _ pins s0 σ H0 _ _ I h fun H1 s1 u s' I1 q=>?_) (fun v s1 ⟨y,H1,I1,_,q⟩=>?_) fun _ _ z=>z) I.quiet hsw))
  · obtain⟨x,C,H',dv,rfl,F,dl,hq,q⟩:=q
    obtain⟨B,a0,fl,kB⟩:=F.fl
    have fr0:X.A.frames=some (X.env :: X.outer):=by rw[← hst];exact I1.ok.frames
    have fl0:Heap.FlyingW B (X.env :: X.outer) x (.ref C) a0 s'.heap:=by rw[← hst];exact fl
    refine wpAny_mono (Nice.any (E:=fun _ _=>False) (nice_note (.ref x) X.env) (wpAny_looks_onW (Q:=fun _ s2=>∃ h1,s2={ s' with heap:=h1 }∧Heap.HeldW B (X.env :: X.outer) x (.ref C) a0 X.env.locals h1∧s'.heap.UpToSlots h1) fr0 hfr fl0 fun h1 a b=>⟨h1,rfl,a,b⟩)) (fun _ s2 ⟨⟨h1,e1,held,sm1⟩,dk1⟩=>?_) fun _ _ z=>z.elim
    subst e1
    refine wpAny_mono (Nice.any (E:=fun _ _=>False) (nice_setFlight (.ref x) none) (wpAny_landsW (Q:=fun _ s2=>∃ h2,s2={ s' with heap:=h2 }∧Heap.FlyingW B (X.env :: X.outer) x (.ref C) a0 h2∧h1.UpToSlots h2) (s:={ s' with heap:=h1 }) held fun h2 a b=>⟨h2,rfl,a,b⟩)) (fun _ s2 ⟨⟨h2,e2,fl2,sm2⟩,dk2⟩=>?_) fun _ _ z=>z.elim
    subst e2
    have fl2':Heap.FlyingW B X.stack x (.ref C) a0 h2:=by rw[hst];exact fl2
    obtain⟨I2,T,oe,oT,M,nx,nT⟩:=caught I1 F kB fl2' (sm1.trans sm2)
    refine wpAny_handleBy_cons (codeAny_handlers_test (ld_glob (Inv.fin (x:=x) I2) hg hm ?_ hdb)) (by intro z;cases z)
    have LT:W.Looks (model X.prog X.w) h2 (typeOf (.ref x)) (.ref C):=by
      have this:W.Looks (model X.prog X.w) h2 (typeOf (.ref x)) oe.cls:=(W.Looks.ld M.ex).andThen .now
      rw[M.cls] at this
      exact this
    refine (W.exm_one I2.kIn LT hq).here ?_
    refine codeAny_handlers_suite_as (wpAny_mono (Nice.any (E:=fun _ _=>False) (nice_setFlight (.ref x) none) (lands_againW (Q:=fun _ s2=>∃ h3,s2={ s' with heap:=h3 }∧Heap.FlyingW B (X.env :: X.outer) x (.ref C) a0 h3∧h2.UpToSlots h3) (s:={ s' with heap:=h2 }) fl2 fun h3 a b=>⟨h3,rfl,a,b⟩)) (fun _ s3 ⟨⟨h3,e3,fl3,sm3⟩,dk3⟩=>?_) fun _ _ z=>z.elim)
    subst e3
    have fl3':Heap.FlyingW B X.stack x (.ref C) a0 h3:=by rw[hst];exact fl3
    obtain⟨I3,T3,oe3,oT3,M3,nx3,_⟩:=caught I1 F kB fl3' ((sm1.trans sm2).trans sm3)
    have I4:=caughtD hst hfr I1 I3 M3 nx3 (dl.keep ((dk1.trans dk2).trans dk3) ⟨_,M3.ex⟩)
    refine store_ok (v:=.ref x) I4 hN hi (.inl hlo) rfl (fun s4 I5=>?_) (.inr hlo)
    refine wpAny_mono (hs x pins s4 _ _ _ (Inv.fin I5) (q x C rfl M3.nx)) (fun f s2 q2=>?_) fun _ _ z=>z.elim
    cases f with
    | next=>obtain⟨_,_,_,z⟩:=q2;exact z.elim
    | brk=>obtain⟨_,_,_,z⟩:=q2;exact z.elim
    | cont=>obtain⟨_,_,_,z⟩:=q2;exact z.elim
    | ret u =>
      obtain⟨v,σ5,H5,I6,r,q3⟩:=q2
      have I7:=Inv.unfin I.ok.hd I6
      obtain⟨m,hn,_⟩:=id I7.loc
      refine wpAny_nameGoes hk hn (by rw[I7.ok.kind];rfl) fun h' m' hn' hs'=>?_
      exact⟨v,_,H5,forget I7 hn' hs',r,q3⟩
  · exact wpAny_execs_nil (wpAny_execs_nil ⟨σ,H1,I1,q⟩)
end
def rIsiD (K:W.Frag):List V→Hp→VK→Prop:=fun xs H Q=>∃ (x D:Addr) (dv:Option Addr) (c:V) (cv:Value) (b:Bool),xs=[.ref x,c]∧(∀ u,RelV c u→u=cv)∧H x=some (ErrD x D dv)∧W.Own.IsiE K D∧W.kitOne K (.ref D) cv=some b∧Q (.bl b) H
theorem call_isiD {X:Cx}:CallR X (.builtin "isinstance") (rIsiD X.K):=by
  intro pins s σ H xs us Q I r h
  obtain⟨x,D,dv,c,cv,b,rfl,hc,hx,e,hk,q⟩:=h
  cases r with
  | cons r1 r2 =>
    cases r2 with
    | cons r2 r3 =>
      cases r3
      have e1:=hc _ r2
      subst e1
      cases (show _=Value.ref x from r1)
      obtain⟨⟨oe,vs,h1,h2,_⟩,_⟩:=I.hok x _ hx
      exact W.kia_one (W.Own.kitx_err e) I.kIn ⟨oe,h1,h2⟩ hk (fun z=>nomatch z) fun tk=>⟨.bl b,H,I.tok _,rfl,q⟩
def tFldD (K:W.Frag) (te:TE) (f:Str):TE:=fun σ H Q=>te σ H fun v H1=>∃ (x C d:Addr) (fs:List (Str×V)) (n:Int),v=.ref x∧H1 x=some (ErrD x C (some d))∧H1 d=some (.xd fs)∧fs.lookup f=some (.int n)∧FldE K C f∧Q (.int n) H1
theorem pe_fldD {X:Cx} {e:Expr} {f:Str} {pos:Pos} {te:TE} (he:PE X e te) (hb:attributeBase e f X.env (eval e X.env)=eval e X.env):PE X (.Attribute e f pos) (tFldD X.K te f):=by
  intro pins s σ H Q I h
  refine attr_of hb (thn (he pins s σ H _ I h) fun u s1 ⟨y,H1,I1,rx,x,C,d,fs,n,ex,hx,hd,l,F,q⟩=>?_)
  subst ex
  obtain rfl:u=Value.ref x:=rx
  obtain⟨⟨oe,vs,h1,h2,h3,h4⟩,_⟩:=I1.hok x _ hx
  obtain⟨mA,n1,r⟩:=I1.hok d _ hd
  have rl:=r f
  rw[l] at rl
  cases hm:mA f with
  | none=>rw[hm] at rl;exact rl.elim
  | some u =>
    rw[hm] at rl
    obtain⟨tk,rfl⟩:=(show ∃ t,u=Value.int n t from rl)
    exact get_fld I1.kIn F h1 h2 (by unfold W.notCls;rw[h3]) (h4 d rfl) n1 hm rfl fun tk'=>⟨.int n,H1,I1.tok _,⟨tk,rfl⟩,q⟩
section
@[irreducible] noncomputable def UXG (CX:CXT) (X:Cx) (e:Expr) (t:TX):Prop:=PXG CX X e t
def tRaiseF (C:Addr) (f:Str) (te:TE) (E:XK):TS:=fun _ σ H=>te σ H fun v H1=>∃ n:Int,v=.int n∧n.natAbs.log2 < 1920∧∀ dx,H1 dx=none→E (.ref C) (some dx) (L2.upd H1 dx (xdOf f n))
def xCall (sp:Sp) (t:TA):TX:=fun σ H Q E=>tCall sp [] E t σ H Q
def tExcF (K:W.Frag) (D0:Addr) (i:Nat) (tx:TX) (ts:TS):TS:=fun D σ H=>tx σ H (fun _ H1=>D.nx σ H1) fun Cv dv H1=>W.exmOne K Cv (.ref D0)=some true∧∀ x C,Cv=.ref C→H1 x=none→ts ⟨fun _ _=>False,D.rt,fun _ _=>False,fun _ _=>False⟩ (σ.set i (some (.ref x))) (L2.upd H1 x (ErrD x C dv))
section
variable {X:Cx} {CX:CXT} {k:Nat} {f C D0:Addr} {fd:FuncData} {ps ks:List Str} {sp:Sp} {x fl n:Str} {p pos np cpos pe hp:Pos} {e:Expr} {es:List Expr} {kws:List Keyword} {te:TE} {t tk:TA} {y:Ly} {cv:List V} {tx:TX} {u:TS} {b0:Stmt} {suite:List Stmt}
theorem uxgCall (G:FnOk X.prog X.w X.K X.mg X.base CX k f fd ps sp) (hr:Room k X.A) (hm:X.mg x=some (.ref f)) (hk:W.keepIn X.K (.ref f)=true) (hb:Binds X.K fd ps []) (ha:UA X.nox (e :: es) t) (hg:Gl X x:=by rfl) (hdb:(x == ("__debug__":Str))=false:=by decide)
    (he:starEach (e :: es) X.env=(false,eval e X.env) :: starEach es X.env:=by rfl) (hpl:(backTo pos (starEach es X.env)).any (·.1)=false:=by rfl):UXG CX X (.Call (.Name x p) (e :: es) [] pos) (xCall sp t):=by with_unfolding_all exact pxg_call G hr hg hm hk hb ha hdb he hpl
theorem usExcF {nm:Str} (i:Nat) (hN:X.N.Nodup) (hb:UXG (CXF X.prog X.w) X e tx) (hm:X.mg n=some (.ref D0)) (hs:∀ x,UB (Cx.fin X x) (b0 :: suite) u) (hst:X.stack=X.env :: X.outer:=by rfl) (hfr:X.env.frame=some X.env.locals:=by rfl) (hg:Gl X n:=by rfl) (hi:X.N[i]?=some nm:=by rfl)
    (hlo:X.env.scope.names.lookup nm=some .local:=by rfl) (hk:X.env.kindOf nm=some .local:=by rfl) (hdb:(n == ("__debug__":Str))=false:=by decide) (hsw:swapsWith e none pe.line X.env=pure false:=by rfl) :
    US X (.Try [.Expr e pe] [.ExceptHandler (some (.Name n np)) (some nm) (b0 :: suite) hp] [] [] pos) (tExcF X.K D0 i tx u):=by with_unfolding_all exact ps_excF hst hfr hb hg hm hN hi hlo hk hs hdb hsw
theorem uFldD (he:UE X e te) (hb:attributeBase e fl X.env (eval e X.env)=eval e X.env:=by rfl):UE X (.Attribute e fl pos) (tFldD X.K te fl):=by with_unfolding_all exact pe_fldD he hb
end
section
variable {P:Program} {w:World} {K:W.Frag} {mg:Str→Option Value} {base:Heap} {N:List Str} {qual:Str} {scope:Scope} {f C:Addr} {cd:Value} {A:Around} {outer:List Env} {s:Shared} {H:Hp} {E:XK} {x fl:Str} {np cpos pos p:Pos} {e:Expr} {es:List Expr} {te:TE} {t:TA} {k:Nat} {g:Addr} {gd:FuncData} {ps:List Str} {sp:Sp}
theorem usRaiseF (EF:ErrF P K mg C fl) (hr:Room k (A.deeper (PyProof.Rows.envOfC qual scope s.heap.objs.size f cd))) (hm:mg x=some (.ref C)) (he:UE (cxOf (CXF P w) P w K mg base N qual scope f cd A outer s H E).nox e te) (hg:Gl (cxOf (CXF P w) P w K mg base N qual scope f cd A outer s H E) x:=by rfl) (hdb:(x == ("__debug__":Str))=false:=by decide)
    (hs:starEach [e] (cxOf (CXF P w) P w K mg base N qual scope f cd A outer s H E).env=[(false,eval e (cxOf (CXF P w) P w K mg base N qual scope f cd A outer s H E).env)]:=by rfl) :
    US (cxOf (CXF P w) P w K mg base N qual scope f cd A outer s H E) (.Raise (some (.Call (.Name x np) [e] [] cpos)) none pos) (tRaiseF C fl te E):=by
  with_unfolding_all exact ps_raiseF raisesF rfl (show (A.deeper (PyProof.Rows.envOfC qual scope s.heap.objs.size f cd)).depth+1 < recursionLimit from by have:=hr.dp;omega) hg hm EF he hdb hs
end
theorem uFnF {Pg:Program} {w:World} {K:W.Frag} {mg:Str→Option Value} {base:Heap} {x qual:Str} {st:Stmt} {f:Addr} {fd:FuncData} {Ns ps:List Str} {k:Nat} {sp:Sp} {t:XK→TS} (F:Fun K x qual st f fd) (S:FnScope Ns ps (defScope st)) (len:∀ vs H Q E,sp vs H Q E→vs.length=ps.length)
    (hbody:∀ (A:Around) (outer:List Env) (s:Shared) (H:Hp) (E:XK),Room k (A.deeper (PyProof.Rows.envOfC qual (defScope st) s.heap.objs.size f fd.code))→UB (cxOf (CXF Pg w) Pg w K mg base Ns qual (defScope st) f fd.code A outer s H E) (defBody st) (t E))
    (hr:∀ vs H Q E,sp vs H Q E→t E { nx:=fun _ H'=>Q .non H',rt:=Q } (start Ns vs) H):FnOk Pg w K mg base (CXF Pg w) (k+1) f fd ps sp:=by
  with_unfolding_all exact fn_ofX F S len fun A outer s H vs Q E hr' hsp=>⟨t E,hbody A outer s H E hr',hr vs H Q E hsp⟩
end
end
end Ev
namespace G
noncomputable section
open PySem PySem.Spec L2 Ev
def top (i:Nat):Stmt:=PySem.Challenge.pw_knockwell_k05_rows_refused.main.body.getD i (.Pass ⟨0,0,0,0⟩)
def y_Zd_0:Ly:=⟨2,2,[.p 0,.p 1,.k 0,.k 1],[]⟩
abbrev s_Z6:Stmt:=top 11
abbrev ns_Z6:List Str:=["value","least","most"]
abbrev ps_Z6:List Str:=["value","least","most"]
abbrev s_Zg:Stmt:=top 12
abbrev ns_Zg:List Str:=["value","sign"]
abbrev ps_Zg:List Str:=["value"]
abbrev s_Zr:Stmt:=top 13
abbrev ns_Zr:List Str:=["value","word","told"]
abbrev ps_Zr:List Str:=["value"]
abbrev s_Z1:Stmt:=top 14
abbrev ns_Z1:List Str:=["steps","masks","step"]
abbrev ps_Z1:List Str:=["steps"]
abbrev s_Z9:Stmt:=top 15
abbrev ns_Z9:List Str:=["value","step"]
abbrev ps_Z9:List Str:=["value"]
abbrev s_Zj:Stmt:=top 16
abbrev ns_Zj:List Str:=["steps","word","step"]
abbrev ps_Zj:List Str:=["steps","word"]
abbrev s_Za:Stmt:=top 26
abbrev ns_Za:List Str:=["value"]
abbrev ps_Za:List Str:=["value"]
abbrev s_Zp:Stmt:=top 27
abbrev ns_Zp:List Str:=["value","inner"]
abbrev ps_Zp:List Str:=["value","inner"]
abbrev s_Zs:Stmt:=top 28
abbrev ns_Zs:List Str:=["value","values","spans","at","inner","first","end"]
abbrev ps_Zs:List Str:=["value"]
abbrev s_Zo:Stmt:=top 29
abbrev ns_Zo:List Str:=["value","most","wide","rest"]
abbrev ps_Zo:List Str:=["value"]
abbrev s_Zq:Stmt:=top 30
abbrev ns_Zq:List Str:=["value","name","rank","up","guard","top"]
abbrev ps_Zq:List Str:=["value"]
abbrev s_Zk:Stmt:=top 31
abbrev ns_Zk:List Str:=["value"]
abbrev ps_Zk:List Str:=["value"]
abbrev s_Zi:Stmt:=top 32
abbrev ns_Zi:List Str:=["value","name","rank","steps"]
abbrev ps_Zi:List Str:=["value"]
abbrev s_Zh:Stmt:=top 33
abbrev ns_Zh:List Str:=["value","least","most"]
abbrev ps_Zh:List Str:=["value","least","most"]
abbrev s_Z5:Stmt:=top 34
abbrev ns_Z5:List Str:=["rows","at","row"]
abbrev ps_Z5:List Str:=["rows","at"]
abbrev s_Zf:Stmt:=top 35
abbrev ns_Zf:List Str:=["value","row"]
abbrev ps_Zf:List Str:=["value"]
abbrev s_Z7:Stmt:=top 36
abbrev ns_Z7:List Str:=["value","row"]
abbrev ps_Z7:List Str:=["value"]
abbrev s_Z8:Stmt:=top 37
abbrev ns_Z8:List Str:=["value","row"]
abbrev ps_Z8:List Str:=["value"]
abbrev s_Ze:Stmt:=top 38
abbrev ns_Ze:List Str:=["lines","bottoms","threads","steps","row","word","rows","names","name"]
abbrev ps_Ze:List Str:=["lines","bottoms","threads"]
abbrev s_Zd:Stmt:=inClass (top 39) 0
abbrev ns_Zd:List Str:=["self","lines","bottoms","threads"]
abbrev ps_Zd:List Str:=["self","lines","bottoms","threads"]
abbrev s_Zb:Stmt:=top 48
abbrev ns_Zb:List Str:=["_law_script","_law_k"]
abbrev ps_Zb:List Str:=["_law_script","_law_k"]
abbrev s_Zl:Stmt:=top 49
abbrev ns_Zl:List Str:=["_law_cell","_law_k","_law_most","_law_primes"]
abbrev ps_Zl:List Str:=["_law_cell","_law_k","_law_most"]
abbrev s_Zc:Stmt:=top 50
abbrev ns_Zc:List Str:=["_law_cell","_law_k","_law_limit","_law_rest","_law_turn","_law_small"]
abbrev ps_Zc:List Str:=["_law_cell","_law_k","_law_limit"]
abbrev s_Z3:Stmt:=top 43
abbrev ns_Z3:List Str:=["word","sign"]
abbrev ps_Z3:List Str:=["word"]
abbrev s_Zm:Stmt:=top 44
abbrev ns_Zm:List Str:=["text","words"]
abbrev ps_Zm:List Str:=["text"]
abbrev s_Zn:Stmt:=top 45
abbrev ns_Zn:List Str:=["text","words","steps","told","head","colon","tail","guard","part"]
abbrev ps_Zn:List Str:=["text"]
abbrev s_Zt:Stmt:=top 46
abbrev ns_Zt:List Str:=["text","texts","lines","bottoms","threads","at","row","word","told"]
abbrev ps_Zt:List Str:=["text"]
abbrev s_Z4:Stmt:=top 51
abbrev ns_Z4:List Str:=["_law_text","error"]
abbrev ps_Z4:List Str:=["_law_text"]
abbrev s_Z0:Stmt:=top 52
abbrev ns_Z0:List Str:=["_law_found"]
abbrev ps_Z0:List Str:=[]
abbrev s_Z2:Stmt:=top 53
abbrev ns_Z2:List Str:=["_law_found"]
abbrev ps_Z2:List Str:=[]
abbrev s_law:Stmt:=top 54
abbrev ns_law:List Str:=["_law_script","_law_lines","_law_others","_law_by","_law_row_here","_law_turned","_law_five","_law_lows","_law_rows","_law_at","_law_cell","_law_bad","_law_k","_law_late","_law_name","_law_thing"]
abbrev ps_law:List Str:=["_law_script"]
structure Ad where
  a_Z6:Addr
  d_Z6:FuncData
  a_Zg:Addr
  d_Zg:FuncData
  a_Zr:Addr
  d_Zr:FuncData
  a_Z1:Addr
  d_Z1:FuncData
  a_Z9:Addr
  d_Z9:FuncData
  a_Zj:Addr
  d_Zj:FuncData
  a_Za:Addr
  d_Za:FuncData
  a_Zp:Addr
  d_Zp:FuncData
  a_Zs:Addr
  d_Zs:FuncData
  a_Zo:Addr
  d_Zo:FuncData
  a_Zq:Addr
  d_Zq:FuncData
  a_Zk:Addr
  d_Zk:FuncData
  a_Zi:Addr
  d_Zi:FuncData
  a_Zh:Addr
  d_Zh:FuncData
  a_Z5:Addr
  d_Z5:FuncData
  a_Zf:Addr
  d_Zf:FuncData
  a_Z7:Addr
  d_Z7:FuncData
  a_Z8:Addr
  d_Z8:FuncData
  a_Ze:Addr
  d_Ze:FuncData
  a_Zd:Addr
  d_Zd:FuncData
  a_Zb:Addr
  d_Zb:FuncData
  a_Zl:Addr
  d_Zl:FuncData
  a_Zc:Addr
  d_Zc:FuncData
  a_Z3:Addr
  d_Z3:FuncData
  a_Zm:Addr
  d_Zm:FuncData
  a_Zn:Addr
  d_Zn:FuncData
  a_Zt:Addr
  d_Zt:FuncData
  a_Z4:Addr
  d_Z4:FuncData
  a_Z0:Addr
  d_Z0:FuncData
  a_Z2:Addr
  d_Z2:FuncData
  a_law:Addr
  d_law:FuncData
  c_Plan:Addr
  c_BadRows:Addr
  c_KnockError:Addr
  g_LONE_WORDS:Addr
  g_NAMING_WORDS:Addr
  g_Emp0_Plan_init_bottoms:Addr
  g_Emp0_Plan_init_threads:Addr
structure Txt (Pg:Program) (w:World) (K:W.Frag) (mg:Str→Option Value) (base:Heap) (ad:Ad):Prop where
  f_Z6:Fun K "is_number" "is_number" s_Z6 ad.a_Z6 ad.d_Z6
  n_Z6:Binds K ad.d_Z6 ps_Z6 []
  m_Z6:mg "is_number"=some (.ref ad.a_Z6)
  f_Zg:Fun K "is_name" "is_name" s_Zg ad.a_Zg ad.d_Zg
  n_Zg:Binds K ad.d_Zg ps_Zg []
  m_Zg:mg "is_name"=some (.ref ad.a_Zg)
  f_Zr:Fun K "is_step" "is_step" s_Zr ad.a_Zr ad.d_Zr
  n_Zr:Binds K ad.d_Zr ps_Zr []
  m_Zr:mg "is_step"=some (.ref ad.a_Zr)
  f_Z1:Fun K "opens_only_masked" "opens_only_masked" s_Z1 ad.a_Z1 ad.d_Z1
  n_Z1:Binds K ad.d_Z1 ps_Z1 []
  m_Z1:mg "opens_only_masked"=some (.ref ad.a_Z1)
  f_Z9:Fun K "are_steps" "are_steps" s_Z9 ad.a_Z9 ad.d_Z9
  n_Z9:Binds K ad.d_Z9 ps_Z9 []
  m_Z9:mg "are_steps"=some (.ref ad.a_Z9)
  f_Zj:Fun K "spoken_of" "spoken_of" s_Zj ad.a_Zj ad.d_Zj
  n_Zj:Binds K ad.d_Zj ps_Zj []
  m_Zj:mg "spoken_of"=some (.ref ad.a_Zj)
  f_Za:Fun K "inner_values" "inner_values" s_Za ad.a_Za ad.d_Za
  n_Za:Binds K ad.d_Za ps_Za []
  m_Za:mg "inner_values"=some (.ref ad.a_Za)
  f_Zp:Fun K "refilled" "refilled" s_Zp ad.a_Zp ad.d_Zp
  n_Zp:Binds K ad.d_Zp ps_Zp []
  m_Zp:mg "refilled"=some (.ref ad.a_Zp)
  f_Zs:Fun K "copied" "copied" s_Zs ad.a_Zs ad.d_Zs
  n_Zs:Binds K ad.d_Zs ps_Zs []
  m_Zs:mg "copied"=some (.ref ad.a_Zs)
  f_Zo:Fun K "is_guard" "is_guard" s_Zo ad.a_Zo ad.d_Zo
  n_Zo:Binds K ad.d_Zo ps_Zo []
  m_Zo:mg "is_guard"=some (.ref ad.a_Zo)
  f_Zq:Fun K "is_line" "is_line" s_Zq ad.a_Zq ad.d_Zq
  n_Zq:Binds K ad.d_Zq ps_Zq []
  m_Zq:mg "is_line"=some (.ref ad.a_Zq)
  f_Zk:Fun K "is_bottom" "is_bottom" s_Zk ad.a_Zk ad.d_Zk
  n_Zk:Binds K ad.d_Zk ps_Zk []
  m_Zk:mg "is_bottom"=some (.ref ad.a_Zk)
  f_Zi:Fun K "is_thread" "is_thread" s_Zi ad.a_Zi ad.d_Zi
  n_Zi:Binds K ad.d_Zi ps_Zi []
  m_Zi:mg "is_thread"=some (.ref ad.a_Zi)
  f_Zh:Fun K "are_many" "are_many" s_Zh ad.a_Zh ad.d_Zh
  n_Zh:Binds K ad.d_Zh ps_Zh []
  m_Zh:mg "are_many"=some (.ref ad.a_Zh)
  f_Z5:Fun K "are_unlike" "are_unlike" s_Z5 ad.a_Z5 ad.d_Z5
  n_Z5:Binds K ad.d_Z5 ps_Z5 []
  m_Z5:mg "are_unlike"=some (.ref ad.a_Z5)
  f_Zf:Fun K "are_lines" "are_lines" s_Zf ad.a_Zf ad.d_Zf
  n_Zf:Binds K ad.d_Zf ps_Zf []
  m_Zf:mg "are_lines"=some (.ref ad.a_Zf)
  f_Z7:Fun K "are_bottoms" "are_bottoms" s_Z7 ad.a_Z7 ad.d_Z7
  n_Z7:Binds K ad.d_Z7 ps_Z7 []
  m_Z7:mg "are_bottoms"=some (.ref ad.a_Z7)
  f_Z8:Fun K "are_threads" "are_threads" s_Z8 ad.a_Z8 ad.d_Z8
  n_Z8:Binds K ad.d_Z8 ps_Z8 []
  m_Z8:mg "are_threads"=some (.ref ad.a_Z8)
  f_Ze:Fun K "are_there" "are_there" s_Ze ad.a_Ze ad.d_Ze
  n_Ze:Binds K ad.d_Ze ps_Ze []
  m_Ze:mg "are_there"=some (.ref ad.a_Ze)
  f_Zd:Fun K "__init__" "Plan.__init__" s_Zd ad.a_Zd ad.d_Zd
  y_Zd_0:∃ cu,KB K ad.d_Zd ps_Zd ["bottoms","threads"] y_Zd_0 cu []
  f_Zb:Fun K "_law_cell_at" "_law_cell_at" s_Zb ad.a_Zb ad.d_Zb
  n_Zb:Binds K ad.d_Zb ps_Zb []
  m_Zb:mg "_law_cell_at"=some (.ref ad.a_Zb)
  f_Zl:Fun K "_law_draw" "_law_draw" s_Zl ad.a_Zl ad.d_Zl
  n_Zl:Binds K ad.d_Zl ps_Zl []
  m_Zl:mg "_law_draw"=some (.ref ad.a_Zl)
  f_Zc:Fun K "_law_number" "_law_number" s_Zc ad.a_Zc ad.d_Zc
  n_Zc:Binds K ad.d_Zc ps_Zc []
  m_Zc:mg "_law_number"=some (.ref ad.a_Zc)
  f_Z3:Fun K "read_number" "read_number" s_Z3 ad.a_Z3 ad.d_Z3
  n_Z3:Binds K ad.d_Z3 ps_Z3 []
  m_Z3:mg "read_number"=some (.ref ad.a_Z3)
  f_Zm:Fun K "read_step" "read_step" s_Zm ad.a_Zm ad.d_Zm
  n_Zm:Binds K ad.d_Zm ps_Zm []
  m_Zm:mg "read_step"=some (.ref ad.a_Zm)
  f_Zn:Fun K "read_row" "read_row" s_Zn ad.a_Zn ad.d_Zn
  n_Zn:Binds K ad.d_Zn ps_Zn []
  m_Zn:mg "read_row"=some (.ref ad.a_Zn)
  f_Zt:Fun K "read" "read" s_Zt ad.a_Zt ad.d_Zt
  n_Zt:Binds K ad.d_Zt ps_Zt []
  m_Zt:mg "read"=some (.ref ad.a_Zt)
  f_Z4:Fun K "_law_row" "_law_row" s_Z4 ad.a_Z4 ad.d_Z4
  n_Z4:Binds K ad.d_Z4 ps_Z4 []
  m_Z4:mg "_law_row"=some (.ref ad.a_Z4)
  f_Z0:Fun K "_law_bad_lines" "_law_bad_lines" s_Z0 ad.a_Z0 ad.d_Z0
  n_Z0:Binds K ad.d_Z0 ps_Z0 []
  m_Z0:mg "_law_bad_lines"=some (.ref ad.a_Z0)
  f_Z2:Fun K "_law_bad_others" "_law_bad_others" s_Z2 ad.a_Z2 ad.d_Z2
  n_Z2:Binds K ad.d_Z2 ps_Z2 []
  m_Z2:mg "_law_bad_others"=some (.ref ad.a_Z2)
  f_law:Fun K "law" "law" s_law ad.a_law ad.d_law
  n_law:Binds K ad.d_law ps_law []
  m_law:mg "law"=some (.ref ad.a_law)
  c_BadRows:mg "BadRows"=some (.ref ad.c_BadRows)
  c_KnockError:mg "KnockError"=some (.ref ad.c_KnockError)
  erf_BadRows:ErrF Pg K mg ad.c_BadRows "row"
  fle_BadRows:W.Own.FldE K ad.c_BadRows "row"
  exm_BadRows:W.exmOne K (.ref ad.c_BadRows) (.ref ad.c_KnockError)=some true
  ise_BadRows:W.Own.IsiE K ad.c_BadRows
  kiv_BadRows:W.kitOne K (.ref ad.c_BadRows) (.type "ValueError")=some true
  kit_BadRows_BadRows:W.kitOne K (.ref ad.c_BadRows) (.ref ad.c_BadRows)=some true
  cl_Plan:Cls K ad.c_Plan
  c_Plan:mg "Plan"=some (.ref ad.c_Plan)
  mk_Plan:Mk K ad.c_Plan ad.a_Zd
  no_Plan_line_rows:NoAttr K ad.c_Plan "line_rows"
  no_Plan_bottom_rows:NoAttr K ad.c_Plan "bottom_rows"
  no_Plan_thread_rows:NoAttr K ad.c_Plan "thread_rows"
  b_ValueError:mg "ValueError"=none
  b_all:mg "all"=none
  b_any:mg "any"=none
  b_bool:mg "bool"=none
  b_dict:mg "dict"=none
  b_enumerate:mg "enumerate"=none
  b_int:mg "int"=none
  b_isinstance:mg "isinstance"=none
  b_len:mg "len"=none
  b_list:mg "list"=none
  b_max:mg "max"=none
  b_min:mg "min"=none
  b_range:mg "range"=none
  b_reversed:mg "reversed"=none
  b_str:mg "str"=none
  b_tuple:mg "tuple"=none
  k_DIGITS:∃ t,mg "DIGITS"=some (Value.str "0123456789" t)
  k_LARGE:∃ t,mg "LARGE"=some (Value.int 100000 t)
  k_LETTERS:∃ t,mg "LETTERS"=some (Value.str "abcdefghijklmnopqrstuvwxyz" t)
  k_LONGEST_NAME:∃ t,mg "LONGEST_NAME"=some (Value.int 8 t)
  k_LONGEST_REST:∃ t,mg "LONGEST_REST"=some (Value.int 60 t)
  k_MOST_BOTTOMS:∃ t,mg "MOST_BOTTOMS"=some (Value.int 4 t)
  k_MOST_DIGITS:∃ t,mg "MOST_DIGITS"=some (Value.int 2 t)
  k_MOST_LET_BY:∃ t,mg "MOST_LET_BY"=some (Value.int 9 t)
  k_MOST_LINES:∃ t,mg "MOST_LINES"=some (Value.int 5 t)
  k_MOST_RANK:∃ t,mg "MOST_RANK"=some (Value.int 99 t)
  k_MOST_STEPS:∃ t,mg "MOST_STEPS"=some (Value.int 12 t)
  k_MOST_THREADS:∃ t,mg "MOST_THREADS"=some (Value.int 4 t)
  k_MOST_TICKS:∃ t,mg "MOST_TICKS"=some (Value.int 9 t)
  k_WIDEST:∃ t,mg "WIDEST"=some (Value.int 60 t)
  k_LONE_WORDS:mg "LONE_WORDS"=some (.ref ad.g_LONE_WORDS)
  t_LONE_WORDS:∃ ys,VRs [] [A.str [109,97,115,107],A.str [111,112,101,110]] ys∧KTup K ad.g_LONE_WORDS ys
  k_NAMING_WORDS:mg "NAMING_WORDS"=some (.ref ad.g_NAMING_WORDS)
  t_NAMING_WORDS:∃ ys,VRs [] [A.str [97,110,115,119,101,114],A.str [108,97,116,101,114],A.str [119,97,107,101]] ys∧KTup K ad.g_NAMING_WORDS ys
  t_Emp0_Plan_init_bottoms:∃ ys,VRs [] [] ys∧KTup K ad.g_Emp0_Plan_init_bottoms ys
  t_Emp0_Plan_init_threads:∃ ys,VRs [] [] ys∧KTup K ad.g_Emp0_Plan_init_threads ys
theorem sc_Z6:FnScope ns_Z6 ps_Z6 (defScope s_Z6):=⟨rfl,rfl,rfl,by decide +kernel,rfl,by decide +kernel,by decide +kernel⟩
theorem sc_Zg:FnScope ns_Zg ps_Zg (defScope s_Zg):=⟨rfl,rfl,rfl,by decide +kernel,rfl,by decide +kernel,by decide +kernel⟩
theorem sc_Zr:FnScope ns_Zr ps_Zr (defScope s_Zr):=⟨rfl,rfl,rfl,by decide +kernel,rfl,by decide +kernel,by decide +kernel⟩
theorem sc_Z1:FnScope ns_Z1 ps_Z1 (defScope s_Z1):=⟨rfl,rfl,rfl,by decide +kernel,rfl,by decide +kernel,by decide +kernel⟩
theorem sc_Z9:FnScope ns_Z9 ps_Z9 (defScope s_Z9):=⟨rfl,rfl,rfl,by decide +kernel,rfl,by decide +kernel,by decide +kernel⟩
theorem sc_Zj:FnScope ns_Zj ps_Zj (defScope s_Zj):=⟨rfl,rfl,rfl,by decide +kernel,rfl,by decide +kernel,by decide +kernel⟩
theorem sc_Za:FnScope ns_Za ps_Za (defScope s_Za):=⟨rfl,rfl,rfl,by decide +kernel,rfl,by decide +kernel,by decide +kernel⟩
theorem sc_Zp:FnScope ns_Zp ps_Zp (defScope s_Zp):=⟨rfl,rfl,rfl,by decide +kernel,rfl,by decide +kernel,by decide +kernel⟩
theorem sc_Zs:FnScope ns_Zs ps_Zs (defScope s_Zs):=⟨rfl,rfl,rfl,by decide +kernel,rfl,by decide +kernel,by decide +kernel⟩
theorem sc_Zo:FnScope ns_Zo ps_Zo (defScope s_Zo):=⟨rfl,rfl,rfl,by decide +kernel,rfl,by decide +kernel,by decide +kernel⟩
theorem sc_Zq:FnScope ns_Zq ps_Zq (defScope s_Zq):=⟨rfl,rfl,rfl,by decide +kernel,rfl,by decide +kernel,by decide +kernel⟩
theorem sc_Zk:FnScope ns_Zk ps_Zk (defScope s_Zk):=⟨rfl,rfl,rfl,by decide +kernel,rfl,by decide +kernel,by decide +kernel⟩
theorem sc_Zi:FnScope ns_Zi ps_Zi (defScope s_Zi):=⟨rfl,rfl,rfl,by decide +kernel,rfl,by decide +kernel,by decide +kernel⟩
theorem sc_Zh:FnScope ns_Zh ps_Zh (defScope s_Zh):=⟨rfl,rfl,rfl,by decide +kernel,rfl,by decide +kernel,by decide +kernel⟩
theorem sc_Z5:FnScope ns_Z5 ps_Z5 (defScope s_Z5):=⟨rfl,rfl,rfl,by decide +kernel,rfl,by decide +kernel,by decide +kernel⟩
theorem sc_Zf:FnScope ns_Zf ps_Zf (defScope s_Zf):=⟨rfl,rfl,rfl,by decide +kernel,rfl,by decide +kernel,by decide +kernel⟩
theorem sc_Z7:FnScope ns_Z7 ps_Z7 (defScope s_Z7):=⟨rfl,rfl,rfl,by decide +kernel,rfl,by decide +kernel,by decide +kernel⟩
theorem sc_Z8:FnScope ns_Z8 ps_Z8 (defScope s_Z8):=⟨rfl,rfl,rfl,by decide +kernel,rfl,by decide +kernel,by decide +kernel⟩
theorem sc_Ze:FnScope ns_Ze ps_Ze (defScope s_Ze):=⟨rfl,rfl,rfl,by decide +kernel,rfl,by decide +kernel,by decide +kernel⟩
theorem sc_Zd:FnScope ns_Zd ps_Zd (defScope s_Zd):=⟨rfl,rfl,rfl,by decide +kernel,rfl,by decide +kernel,by decide +kernel⟩
theorem sc_Zb:FnScope ns_Zb ps_Zb (defScope s_Zb):=⟨rfl,rfl,rfl,by decide +kernel,rfl,by decide +kernel,by decide +kernel⟩
theorem sc_Zl:FnScope ns_Zl ps_Zl (defScope s_Zl):=⟨rfl,rfl,rfl,by decide +kernel,rfl,by decide +kernel,by decide +kernel⟩
theorem sc_Zc:FnScope ns_Zc ps_Zc (defScope s_Zc):=⟨rfl,rfl,rfl,by decide +kernel,rfl,by decide +kernel,by decide +kernel⟩
theorem sc_Z3:FnScope ns_Z3 ps_Z3 (defScope s_Z3):=⟨rfl,rfl,rfl,by decide +kernel,rfl,by decide +kernel,by decide +kernel⟩
theorem sc_Zm:FnScope ns_Zm ps_Zm (defScope s_Zm):=⟨rfl,rfl,rfl,by decide +kernel,rfl,by decide +kernel,by decide +kernel⟩
theorem sc_Zn:FnScope ns_Zn ps_Zn (defScope s_Zn):=⟨rfl,rfl,rfl,by decide +kernel,rfl,by decide +kernel,by decide +kernel⟩
theorem sc_Zt:FnScope ns_Zt ps_Zt (defScope s_Zt):=⟨rfl,rfl,rfl,by decide +kernel,rfl,by decide +kernel,by decide +kernel⟩
theorem sc_Z4:FnScope ns_Z4 ps_Z4 (defScope s_Z4):=⟨rfl,rfl,rfl,by decide +kernel,rfl,by decide +kernel,by decide +kernel⟩
theorem sc_Z0:FnScope ns_Z0 ps_Z0 (defScope s_Z0):=⟨rfl,rfl,rfl,by decide +kernel,rfl,by decide +kernel,by decide +kernel⟩
theorem sc_Z2:FnScope ns_Z2 ps_Z2 (defScope s_Z2):=⟨rfl,rfl,rfl,by decide +kernel,rfl,by decide +kernel,by decide +kernel⟩
theorem sc_law:FnScope ns_law ps_law (defScope s_law):=⟨rfl,rfl,rfl,by decide +kernel,rfl,by decide +kernel,by decide +kernel⟩
abbrev s_Zu:Stmt:=inClass (top 3) 0
theorem inib_BadRows {Pg:Program} {cda_BadRows ecc_BadRows:Addr} {ean_BadRows:Option Addr} {edV_BadRows ekV_BadRows edc_BadRows epm_BadRows ect_BadRows:Value} (h:(Pg.main.scope.names.lookup ("super":Str)).isSome=false):W.Own.IniB Pg "row" (W.ksFn "__init__" "BadRows.__init__" (defArgs s_Zu) (defBody s_Zu) (defScope s_Zu) edV_BadRows ekV_BadRows edc_BadRows epm_BadRows ean_BadRows (.ref cda_BadRows) ect_BadRows ecc_BadRows) :=
  ⟨⟨_,_,_,_,_,_,_,_,_,_,_,_,_,_,_,_,rfl,by decide +kernel,fun env=>⟨_,rfl⟩⟩,rfl,rfl,rfl,(show ∀ x∈(defScope s_Zu).names,x.2≠.cell by decide +kernel),rfl,rfl,rfl,rfl,⟨_,rfl,rfl⟩,by decide +kernel,by decide +kernel,rfl,rfl,h⟩
theorem txt_mk {Pg:Program} {w:World} {K:W.Frag} {h:Heap} {mg:Str→Option Value} (X:K.In h) (G:h.Ns mainGlobals mg) {c_Plan:Addr} {a_Z6:Addr} {od_Z6 an_Z6:Option Addr} {sl_Z6:Array (Option Value)} {oc_Z6 kV_Z6 dc_Z6 pm_Z6 cd_Z6 ct_Z6:Value} {a_Zg:Addr} {od_Zg an_Zg:Option Addr} {sl_Zg:Array (Option Value)} {oc_Zg kV_Zg dc_Zg pm_Zg cd_Zg ct_Zg:Value} {a_Zr:Addr} {od_Zr an_Zr:Option Addr} {sl_Zr:Array (Option Value)} {oc_Zr kV_Zr dc_Zr pm_Zr cd_Zr ct_Zr:Value} {a_Z1:Addr} {od_Z1 an_Z1:Option Addr} {sl_Z1:Array (Option Value)} {oc_Z1 kV_Z1 dc_Z1 pm_Z1 cd_Z1 ct_Z1:Value} {a_Z9:Addr} {od_Z9 an_Z9:Option Addr} {sl_Z9:Array (Option Value)} {oc_Z9 kV_Z9 dc_Z9 pm_Z9 cd_Z9 ct_Z9:Value} {a_Zj:Addr} {od_Zj an_Zj:Option Addr} {sl_Zj:Array (Option Value)} {oc_Zj kV_Zj dc_Zj pm_Zj cd_Zj ct_Zj:Value} {a_Za:Addr} {od_Za an_Za:Option Addr} {sl_Za:Array (Option Value)} {oc_Za kV_Za dc_Za pm_Za cd_Za ct_Za:Value} {a_Zp:Addr} {od_Zp an_Zp:Option Addr} {sl_Zp:Array (Option Value)} {oc_Zp kV_Zp dc_Zp pm_Zp cd_Zp ct_Zp:Value} {a_Zs:Addr} {od_Zs an_Zs:Option Addr} {sl_Zs:Array (Option Value)} {oc_Zs kV_Zs dc_Zs pm_Zs cd_Zs ct_Zs:Value} {a_Zo:Addr} {od_Zo an_Zo:Option Addr} {sl_Zo:Array (Option Value)} {oc_Zo kV_Zo dc_Zo pm_Zo cd_Zo ct_Zo:Value} {a_Zq:Addr} {od_Zq an_Zq:Option Addr} {sl_Zq:Array (Option Value)} {oc_Zq kV_Zq dc_Zq pm_Zq cd_Zq ct_Zq:Value} {a_Zk:Addr} {od_Zk an_Zk:Option Addr} {sl_Zk:Array (Option Value)} {oc_Zk kV_Zk dc_Zk pm_Zk cd_Zk ct_Zk:Value} {a_Zi:Addr} {od_Zi an_Zi:Option Addr} {sl_Zi:Array (Option Value)} {oc_Zi kV_Zi dc_Zi pm_Zi cd_Zi ct_Zi:Value} {a_Zh:Addr} {od_Zh an_Zh:Option Addr} {sl_Zh:Array (Option Value)} {oc_Zh kV_Zh dc_Zh pm_Zh cd_Zh ct_Zh:Value} {a_Z5:Addr} {od_Z5 an_Z5:Option Addr} {sl_Z5:Array (Option Value)} {oc_Z5 kV_Z5 dc_Z5 pm_Z5 cd_Z5 ct_Z5:Value} {a_Zf:Addr} {od_Zf an_Zf:Option Addr} {sl_Zf:Array (Option Value)} {oc_Zf kV_Zf dc_Zf pm_Zf cd_Zf ct_Zf:Value} {a_Z7:Addr} {od_Z7 an_Z7:Option Addr} {sl_Z7:Array (Option Value)} {oc_Z7 kV_Z7 dc_Z7 pm_Z7 cd_Z7 ct_Z7:Value} {a_Z8:Addr} {od_Z8 an_Z8:Option Addr} {sl_Z8:Array (Option Value)} {oc_Z8 kV_Z8 dc_Z8 pm_Z8 cd_Z8 ct_Z8:Value} {a_Ze:Addr} {od_Ze an_Ze:Option Addr} {sl_Ze:Array (Option Value)} {oc_Ze kV_Ze dc_Ze pm_Ze cd_Ze ct_Ze:Value} {a_Zd:Addr} {od_Zd an_Zd:Option Addr} {sl_Zd:Array (Option Value)} {oc_Zd dc_Zd pm_Zd cd_Zd ct_Zd:Value} {kd_Zd:Addr} {ke_Zd:Option Addr} {kc_Zd:Value} {kn_Zd:Nat} {ksl_Zd:Array (Option Value)} {kh_Plan_init_bottoms:Int} {kt_Plan_init_bottoms:Tok} {kh_Plan_init_threads:Int} {kt_Plan_init_threads:Tok} {a_Zb:Addr} {od_Zb an_Zb:Option Addr} {sl_Zb:Array (Option Value)} {oc_Zb kV_Zb dc_Zb pm_Zb cd_Zb ct_Zb:Value} {a_Zl:Addr} {od_Zl an_Zl:Option Addr} {sl_Zl:Array (Option Value)} {oc_Zl kV_Zl dc_Zl pm_Zl cd_Zl ct_Zl:Value} {a_Zc:Addr} {od_Zc an_Zc:Option Addr} {sl_Zc:Array (Option Value)} {oc_Zc kV_Zc dc_Zc pm_Zc cd_Zc ct_Zc:Value} {a_Z3:Addr} {od_Z3 an_Z3:Option Addr} {sl_Z3:Array (Option Value)} {oc_Z3 kV_Z3 dc_Z3 pm_Z3 cd_Z3 ct_Z3:Value} {a_Zm:Addr} {od_Zm an_Zm:Option Addr} {sl_Zm:Array (Option Value)} {oc_Zm kV_Zm dc_Zm pm_Zm cd_Zm ct_Zm:Value} {a_Zn:Addr} {od_Zn an_Zn:Option Addr} {sl_Zn:Array (Option Value)} {oc_Zn kV_Zn dc_Zn pm_Zn cd_Zn ct_Zn:Value} {a_Zt:Addr} {od_Zt an_Zt:Option Addr} {sl_Zt:Array (Option Value)} {oc_Zt kV_Zt dc_Zt pm_Zt cd_Zt ct_Zt:Value} {a_Z4:Addr} {od_Z4 an_Z4:Option Addr} {sl_Z4:Array (Option Value)} {oc_Z4 kV_Z4 dc_Z4 pm_Z4 cd_Z4 ct_Z4:Value} {a_Z0:Addr} {od_Z0 an_Z0:Option Addr} {sl_Z0:Array (Option Value)} {oc_Z0 kV_Z0 dc_Z0 pm_Z0 cd_Z0 ct_Z0:Value} {a_Z2:Addr} {od_Z2 an_Z2:Option Addr} {sl_Z2:Array (Option Value)} {oc_Z2 kV_Z2 dc_Z2 pm_Z2 cd_Z2 ct_Z2:Value} {a_law:Addr} {od_law an_law:Option Addr} {sl_law:Array (Option Value)} {oc_law kV_law dc_law pm_law cd_law ct_law:Value} {c_BadRows:Addr} {c_KnockError:Addr} {fi_BadRows cda_BadRows ecc_BadRows:Addr} {eo_BadRows ecb_BadRows ekb_BadRows ean_BadRows:Option Addr} {es_BadRows ecs_BadRows ekc_BadRows:Array (Option Value)} {evs_BadRows:Array Value} {edV_BadRows ekV_BadRows edc_BadRows epm_BadRows ect_BadRows eca_BadRows eka_BadRows:Value} {t_DIGITS:Tok} {t_LARGE:Tok} {t_LETTERS:Tok} {t_LONGEST_NAME:Tok} {t_LONGEST_REST:Tok} {t_MOST_BOTTOMS:Tok} {t_MOST_DIGITS:Tok} {t_MOST_LET_BY:Tok} {t_MOST_LINES:Tok} {t_MOST_RANK:Tok} {t_MOST_STEPS:Tok} {t_MOST_THREADS:Tok} {t_MOST_TICKS:Tok} {t_WIDEST:Tok} {g_LONE_WORDS:Addr} {gd_LONE_WORDS:Option Addr} {gn_LONE_WORDS:Nat} {gs_LONE_WORDS:Array (Option Value)} {t_LONE_WORDS_0:Tok} {t_LONE_WORDS_1:Tok} {g_NAMING_WORDS:Addr} {gd_NAMING_WORDS:Option Addr} {gn_NAMING_WORDS:Nat} {gs_NAMING_WORDS:Array (Option Value)} {t_NAMING_WORDS_0:Tok} {t_NAMING_WORDS_1:Tok} {t_NAMING_WORDS_2:Tok} {g_Emp0_Plan_init_bottoms:Addr} {gd_Emp0_Plan_init_bottoms:Option Addr} {gn_Emp0_Plan_init_bottoms:Nat} {gs_Emp0_Plan_init_bottoms:Array (Option Value)} {g_Emp0_Plan_init_threads:Addr} {gd_Emp0_Plan_init_threads:Option Addr} {gn_Emp0_Plan_init_threads:Nat} {gs_Emp0_Plan_init_threads:Array (Option Value)}
    (g_c_Plan:W.nsIn K mainGlobals "Plan"=some (some (.ref c_Plan)))
    (g_Z6:W.nsIn K mainGlobals "is_number"=some (some (.ref a_Z6)))
    (l_Z6:K.lookup a_Z6=some ⟨oc_Z6,od_Z6,.func (W.fnOf "is_number" "is_number" (defArgs s_Z6) (defBody s_Z6) (defScope s_Z6) .none kV_Z6 dc_Z6 pm_Z6 an_Z6 cd_Z6 ct_Z6),sl_Z6⟩)
    (o_Z6:W.codeIn K cd_Z6 "is_number"=true)
    (k_Z6:W.keepIn K (.ref a_Z6)=true)
    (g_Zg:W.nsIn K mainGlobals "is_name"=some (some (.ref a_Zg)))
    (l_Zg:K.lookup a_Zg=some ⟨oc_Zg,od_Zg,.func (W.fnOf "is_name" "is_name" (defArgs s_Zg) (defBody s_Zg) (defScope s_Zg) .none kV_Zg dc_Zg pm_Zg an_Zg cd_Zg ct_Zg),sl_Zg⟩)
    (o_Zg:W.codeIn K cd_Zg "is_name"=true)
    (k_Zg:W.keepIn K (.ref a_Zg)=true)
    (g_Zr:W.nsIn K mainGlobals "is_step"=some (some (.ref a_Zr)))
    (l_Zr:K.lookup a_Zr=some ⟨oc_Zr,od_Zr,.func (W.fnOf "is_step" "is_step" (defArgs s_Zr) (defBody s_Zr) (defScope s_Zr) .none kV_Zr dc_Zr pm_Zr an_Zr cd_Zr ct_Zr),sl_Zr⟩)
    (o_Zr:W.codeIn K cd_Zr "is_step"=true)
    (k_Zr:W.keepIn K (.ref a_Zr)=true)
    (g_Z1:W.nsIn K mainGlobals "opens_only_masked"=some (some (.ref a_Z1)))
    (l_Z1:K.lookup a_Z1=some ⟨oc_Z1,od_Z1,.func (W.fnOf "opens_only_masked" "opens_only_masked" (defArgs s_Z1) (defBody s_Z1) (defScope s_Z1) .none kV_Z1 dc_Z1 pm_Z1 an_Z1 cd_Z1 ct_Z1),sl_Z1⟩)
    (o_Z1:W.codeIn K cd_Z1 "opens_only_masked"=true)
    (k_Z1:W.keepIn K (.ref a_Z1)=true)
    (g_Z9:W.nsIn K mainGlobals "are_steps"=some (some (.ref a_Z9)))
    (l_Z9:K.lookup a_Z9=some ⟨oc_Z9,od_Z9,.func (W.fnOf "are_steps" "are_steps" (defArgs s_Z9) (defBody s_Z9) (defScope s_Z9) .none kV_Z9 dc_Z9 pm_Z9 an_Z9 cd_Z9 ct_Z9),sl_Z9⟩)
    (o_Z9:W.codeIn K cd_Z9 "are_steps"=true)
    (k_Z9:W.keepIn K (.ref a_Z9)=true)
    (g_Zj:W.nsIn K mainGlobals "spoken_of"=some (some (.ref a_Zj)))
    (l_Zj:K.lookup a_Zj=some ⟨oc_Zj,od_Zj,.func (W.fnOf "spoken_of" "spoken_of" (defArgs s_Zj) (defBody s_Zj) (defScope s_Zj) .none kV_Zj dc_Zj pm_Zj an_Zj cd_Zj ct_Zj),sl_Zj⟩)
    (o_Zj:W.codeIn K cd_Zj "spoken_of"=true)
    (k_Zj:W.keepIn K (.ref a_Zj)=true)
    (g_Za:W.nsIn K mainGlobals "inner_values"=some (some (.ref a_Za)))
    (l_Za:K.lookup a_Za=some ⟨oc_Za,od_Za,.func (W.fnOf "inner_values" "inner_values" (defArgs s_Za) (defBody s_Za) (defScope s_Za) .none kV_Za dc_Za pm_Za an_Za cd_Za ct_Za),sl_Za⟩)
    (o_Za:W.codeIn K cd_Za "inner_values"=true)
    (k_Za:W.keepIn K (.ref a_Za)=true)
    (g_Zp:W.nsIn K mainGlobals "refilled"=some (some (.ref a_Zp)))
    (l_Zp:K.lookup a_Zp=some ⟨oc_Zp,od_Zp,.func (W.fnOf "refilled" "refilled" (defArgs s_Zp) (defBody s_Zp) (defScope s_Zp) .none kV_Zp dc_Zp pm_Zp an_Zp cd_Zp ct_Zp),sl_Zp⟩)
    (o_Zp:W.codeIn K cd_Zp "refilled"=true)
    (k_Zp:W.keepIn K (.ref a_Zp)=true)
    (g_Zs:W.nsIn K mainGlobals "copied"=some (some (.ref a_Zs)))
    (l_Zs:K.lookup a_Zs=some ⟨oc_Zs,od_Zs,.func (W.fnOf "copied" "copied" (defArgs s_Zs) (defBody s_Zs) (defScope s_Zs) .none kV_Zs dc_Zs pm_Zs an_Zs cd_Zs ct_Zs),sl_Zs⟩)
    (o_Zs:W.codeIn K cd_Zs "copied"=true)
    (k_Zs:W.keepIn K (.ref a_Zs)=true)
    (g_Zo:W.nsIn K mainGlobals "is_guard"=some (some (.ref a_Zo)))
    (l_Zo:K.lookup a_Zo=some ⟨oc_Zo,od_Zo,.func (W.fnOf "is_guard" "is_guard" (defArgs s_Zo) (defBody s_Zo) (defScope s_Zo) .none kV_Zo dc_Zo pm_Zo an_Zo cd_Zo ct_Zo),sl_Zo⟩)
    (o_Zo:W.codeIn K cd_Zo "is_guard"=true)
    (k_Zo:W.keepIn K (.ref a_Zo)=true)
    (g_Zq:W.nsIn K mainGlobals "is_line"=some (some (.ref a_Zq)))
    (l_Zq:K.lookup a_Zq=some ⟨oc_Zq,od_Zq,.func (W.fnOf "is_line" "is_line" (defArgs s_Zq) (defBody s_Zq) (defScope s_Zq) .none kV_Zq dc_Zq pm_Zq an_Zq cd_Zq ct_Zq),sl_Zq⟩)
    (o_Zq:W.codeIn K cd_Zq "is_line"=true)
    (k_Zq:W.keepIn K (.ref a_Zq)=true)
    (g_Zk:W.nsIn K mainGlobals "is_bottom"=some (some (.ref a_Zk)))
    (l_Zk:K.lookup a_Zk=some ⟨oc_Zk,od_Zk,.func (W.fnOf "is_bottom" "is_bottom" (defArgs s_Zk) (defBody s_Zk) (defScope s_Zk) .none kV_Zk dc_Zk pm_Zk an_Zk cd_Zk ct_Zk),sl_Zk⟩)
    (o_Zk:W.codeIn K cd_Zk "is_bottom"=true)
    (k_Zk:W.keepIn K (.ref a_Zk)=true)
    (g_Zi:W.nsIn K mainGlobals "is_thread"=some (some (.ref a_Zi)))
    (l_Zi:K.lookup a_Zi=some ⟨oc_Zi,od_Zi,.func (W.fnOf "is_thread" "is_thread" (defArgs s_Zi) (defBody s_Zi) (defScope s_Zi) .none kV_Zi dc_Zi pm_Zi an_Zi cd_Zi ct_Zi),sl_Zi⟩)
    (o_Zi:W.codeIn K cd_Zi "is_thread"=true)
    (k_Zi:W.keepIn K (.ref a_Zi)=true)
    (g_Zh:W.nsIn K mainGlobals "are_many"=some (some (.ref a_Zh)))
    (l_Zh:K.lookup a_Zh=some ⟨oc_Zh,od_Zh,.func (W.fnOf "are_many" "are_many" (defArgs s_Zh) (defBody s_Zh) (defScope s_Zh) .none kV_Zh dc_Zh pm_Zh an_Zh cd_Zh ct_Zh),sl_Zh⟩)
    (o_Zh:W.codeIn K cd_Zh "are_many"=true)
    (k_Zh:W.keepIn K (.ref a_Zh)=true)
    (g_Z5:W.nsIn K mainGlobals "are_unlike"=some (some (.ref a_Z5)))
    (l_Z5:K.lookup a_Z5=some ⟨oc_Z5,od_Z5,.func (W.fnOf "are_unlike" "are_unlike" (defArgs s_Z5) (defBody s_Z5) (defScope s_Z5) .none kV_Z5 dc_Z5 pm_Z5 an_Z5 cd_Z5 ct_Z5),sl_Z5⟩)
    (o_Z5:W.codeIn K cd_Z5 "are_unlike"=true)
    (k_Z5:W.keepIn K (.ref a_Z5)=true)
    (g_Zf:W.nsIn K mainGlobals "are_lines"=some (some (.ref a_Zf)))
    (l_Zf:K.lookup a_Zf=some ⟨oc_Zf,od_Zf,.func (W.fnOf "are_lines" "are_lines" (defArgs s_Zf) (defBody s_Zf) (defScope s_Zf) .none kV_Zf dc_Zf pm_Zf an_Zf cd_Zf ct_Zf),sl_Zf⟩)
    (o_Zf:W.codeIn K cd_Zf "are_lines"=true)
    (k_Zf:W.keepIn K (.ref a_Zf)=true)
    (g_Z7:W.nsIn K mainGlobals "are_bottoms"=some (some (.ref a_Z7)))
    (l_Z7:K.lookup a_Z7=some ⟨oc_Z7,od_Z7,.func (W.fnOf "are_bottoms" "are_bottoms" (defArgs s_Z7) (defBody s_Z7) (defScope s_Z7) .none kV_Z7 dc_Z7 pm_Z7 an_Z7 cd_Z7 ct_Z7),sl_Z7⟩)
    (o_Z7:W.codeIn K cd_Z7 "are_bottoms"=true)
    (k_Z7:W.keepIn K (.ref a_Z7)=true)
    (g_Z8:W.nsIn K mainGlobals "are_threads"=some (some (.ref a_Z8)))
    (l_Z8:K.lookup a_Z8=some ⟨oc_Z8,od_Z8,.func (W.fnOf "are_threads" "are_threads" (defArgs s_Z8) (defBody s_Z8) (defScope s_Z8) .none kV_Z8 dc_Z8 pm_Z8 an_Z8 cd_Z8 ct_Z8),sl_Z8⟩)
    (o_Z8:W.codeIn K cd_Z8 "are_threads"=true)
    (k_Z8:W.keepIn K (.ref a_Z8)=true)
    (g_Ze:W.nsIn K mainGlobals "are_there"=some (some (.ref a_Ze)))
    (l_Ze:K.lookup a_Ze=some ⟨oc_Ze,od_Ze,.func (W.fnOf "are_there" "are_there" (defArgs s_Ze) (defBody s_Ze) (defScope s_Ze) .none kV_Ze dc_Ze pm_Ze an_Ze cd_Ze ct_Ze),sl_Ze⟩)
    (o_Ze:W.codeIn K cd_Ze "are_there"=true)
    (k_Ze:W.keepIn K (.ref a_Ze)=true)
    (g_Zd:W.findIn K (.ref c_Plan) "__init__"=some (some (.ref a_Zd)))
    (i_Zd:W.isFn K (.ref a_Zd)=true)
    (l_Zd:K.lookup a_Zd=some ⟨oc_Zd,od_Zd,.func (W.fnOf "__init__" "Plan.__init__" (defArgs s_Zd) (defBody s_Zd) (defScope s_Zd) .none (.ref kd_Zd) dc_Zd pm_Zd an_Zd cd_Zd ct_Zd),sl_Zd⟩)
    (q_Zd:K.lookup kd_Zd=some ⟨kc_Zd,ke_Zd,.dict #[⟨kh_Plan_init_bottoms,Value.str "bottoms" kt_Plan_init_bottoms,Value.ref g_Emp0_Plan_init_bottoms⟩,⟨kh_Plan_init_threads,Value.str "threads" kt_Plan_init_threads,Value.ref g_Emp0_Plan_init_threads⟩] kn_Zd,ksl_Zd⟩)
    (o_Zd:W.codeIn K cd_Zd "Plan.__init__"=true)
    (k_Zd:W.keepIn K (.ref a_Zd)=true)
    (g_Zb:W.nsIn K mainGlobals "_law_cell_at"=some (some (.ref a_Zb)))
    (l_Zb:K.lookup a_Zb=some ⟨oc_Zb,od_Zb,.func (W.fnOf "_law_cell_at" "_law_cell_at" (defArgs s_Zb) (defBody s_Zb) (defScope s_Zb) .none kV_Zb dc_Zb pm_Zb an_Zb cd_Zb ct_Zb),sl_Zb⟩)
    (o_Zb:W.codeIn K cd_Zb "_law_cell_at"=true)
    (k_Zb:W.keepIn K (.ref a_Zb)=true)
    (g_Zl:W.nsIn K mainGlobals "_law_draw"=some (some (.ref a_Zl)))
    (l_Zl:K.lookup a_Zl=some ⟨oc_Zl,od_Zl,.func (W.fnOf "_law_draw" "_law_draw" (defArgs s_Zl) (defBody s_Zl) (defScope s_Zl) .none kV_Zl dc_Zl pm_Zl an_Zl cd_Zl ct_Zl),sl_Zl⟩)
    (o_Zl:W.codeIn K cd_Zl "_law_draw"=true)
    (k_Zl:W.keepIn K (.ref a_Zl)=true)
    (g_Zc:W.nsIn K mainGlobals "_law_number"=some (some (.ref a_Zc)))
    (l_Zc:K.lookup a_Zc=some ⟨oc_Zc,od_Zc,.func (W.fnOf "_law_number" "_law_number" (defArgs s_Zc) (defBody s_Zc) (defScope s_Zc) .none kV_Zc dc_Zc pm_Zc an_Zc cd_Zc ct_Zc),sl_Zc⟩)
    (o_Zc:W.codeIn K cd_Zc "_law_number"=true)
    (k_Zc:W.keepIn K (.ref a_Zc)=true)
    (g_Z3:W.nsIn K mainGlobals "read_number"=some (some (.ref a_Z3)))
    (l_Z3:K.lookup a_Z3=some ⟨oc_Z3,od_Z3,.func (W.fnOf "read_number" "read_number" (defArgs s_Z3) (defBody s_Z3) (defScope s_Z3) .none kV_Z3 dc_Z3 pm_Z3 an_Z3 cd_Z3 ct_Z3),sl_Z3⟩)
    (o_Z3:W.codeIn K cd_Z3 "read_number"=true)
    (k_Z3:W.keepIn K (.ref a_Z3)=true)
    (g_Zm:W.nsIn K mainGlobals "read_step"=some (some (.ref a_Zm)))
    (l_Zm:K.lookup a_Zm=some ⟨oc_Zm,od_Zm,.func (W.fnOf "read_step" "read_step" (defArgs s_Zm) (defBody s_Zm) (defScope s_Zm) .none kV_Zm dc_Zm pm_Zm an_Zm cd_Zm ct_Zm),sl_Zm⟩)
    (o_Zm:W.codeIn K cd_Zm "read_step"=true)
    (k_Zm:W.keepIn K (.ref a_Zm)=true)
    (g_Zn:W.nsIn K mainGlobals "read_row"=some (some (.ref a_Zn)))
    (l_Zn:K.lookup a_Zn=some ⟨oc_Zn,od_Zn,.func (W.fnOf "read_row" "read_row" (defArgs s_Zn) (defBody s_Zn) (defScope s_Zn) .none kV_Zn dc_Zn pm_Zn an_Zn cd_Zn ct_Zn),sl_Zn⟩)
    (o_Zn:W.codeIn K cd_Zn "read_row"=true)
    (k_Zn:W.keepIn K (.ref a_Zn)=true)
    (g_Zt:W.nsIn K mainGlobals "read"=some (some (.ref a_Zt)))
    (l_Zt:K.lookup a_Zt=some ⟨oc_Zt,od_Zt,.func (W.fnOf "read" "read" (defArgs s_Zt) (defBody s_Zt) (defScope s_Zt) .none kV_Zt dc_Zt pm_Zt an_Zt cd_Zt ct_Zt),sl_Zt⟩)
    (o_Zt:W.codeIn K cd_Zt "read"=true)
    (k_Zt:W.keepIn K (.ref a_Zt)=true)
    (g_Z4:W.nsIn K mainGlobals "_law_row"=some (some (.ref a_Z4)))
    (l_Z4:K.lookup a_Z4=some ⟨oc_Z4,od_Z4,.func (W.fnOf "_law_row" "_law_row" (defArgs s_Z4) (defBody s_Z4) (defScope s_Z4) .none kV_Z4 dc_Z4 pm_Z4 an_Z4 cd_Z4 ct_Z4),sl_Z4⟩)
    (o_Z4:W.codeIn K cd_Z4 "_law_row"=true)
    (k_Z4:W.keepIn K (.ref a_Z4)=true)
    (g_Z0:W.nsIn K mainGlobals "_law_bad_lines"=some (some (.ref a_Z0)))
    (l_Z0:K.lookup a_Z0=some ⟨oc_Z0,od_Z0,.func (W.fnOf "_law_bad_lines" "_law_bad_lines" (defArgs s_Z0) (defBody s_Z0) (defScope s_Z0) .none kV_Z0 dc_Z0 pm_Z0 an_Z0 cd_Z0 ct_Z0),sl_Z0⟩)
    (o_Z0:W.codeIn K cd_Z0 "_law_bad_lines"=true)
    (k_Z0:W.keepIn K (.ref a_Z0)=true)
    (g_Z2:W.nsIn K mainGlobals "_law_bad_others"=some (some (.ref a_Z2)))
    (l_Z2:K.lookup a_Z2=some ⟨oc_Z2,od_Z2,.func (W.fnOf "_law_bad_others" "_law_bad_others" (defArgs s_Z2) (defBody s_Z2) (defScope s_Z2) .none kV_Z2 dc_Z2 pm_Z2 an_Z2 cd_Z2 ct_Z2),sl_Z2⟩)
    (o_Z2:W.codeIn K cd_Z2 "_law_bad_others"=true)
    (k_Z2:W.keepIn K (.ref a_Z2)=true)
    (g_law:W.nsIn K mainGlobals "law"=some (some (.ref a_law)))
    (l_law:K.lookup a_law=some ⟨oc_law,od_law,.func (W.fnOf "law" "law" (defArgs s_law) (defBody s_law) (defScope s_law) .none kV_law dc_law pm_law an_law cd_law ct_law),sl_law⟩)
    (o_law:W.codeIn K cd_law "law"=true)
    (k_law:W.keepIn K (.ref a_law)=true)
    (g_c_BadRows:W.nsIn K mainGlobals "BadRows"=some (some (.ref c_BadRows)))
    (g_c_KnockError:W.nsIn K mainGlobals "KnockError"=some (some (.ref c_KnockError)))
    (exm_BadRows:W.exmOne K (.ref c_BadRows) (.ref c_KnockError)=some true)
    (ih_BadRows:W.findIn K (.ref c_BadRows) "__getattribute__"=some (some (.builtin "BaseException.__getattribute__")))
    (iq_BadRows:W.findIn K (.ref c_BadRows) "__getattr__"=some none)
    (ib_BadRows:W.mroIn K c_BadRows (.type "BaseException")=some true)
    (ic_BadRows:(W.clsIn K c_BadRows).isSome=true)
    (ia_BadRows:W.findIn K (.ref c_BadRows) "__class__"=some (some (.builtin "object.__class__")))
    (in_BadRows:W.specialIn K (.builtin "object.__class__") "__get__"=some (some (.builtin "getset_descriptor.__get__")))
    (it_BadRows:W.takesIn K (.builtin "object.__class__")=some true)
    (im_BadRows:W.mroIn K c_BadRows (.type "object")=some true)
    (kiv_BadRows:W.kitOne K (.ref c_BadRows) (.type "ValueError")=some true)
    (kit_BadRows_BadRows:W.kitOne K (.ref c_BadRows) (.ref c_BadRows)=some true)
    (ei_BadRows:W.findIn K (.ref c_BadRows) "__init__"=some (some (.ref fi_BadRows)))
    (el_BadRows:K.lookup fi_BadRows=some ⟨.type "function",eo_BadRows,.func (W.ksFn "__init__" "BadRows.__init__" (defArgs s_Zu) (defBody s_Zu) (defScope s_Zu) edV_BadRows ekV_BadRows edc_BadRows epm_BadRows ean_BadRows (.ref cda_BadRows) ect_BadRows ecc_BadRows),es_BadRows⟩)
    (eo2_BadRows:W.codeIn K (.ref cda_BadRows) "BadRows.__init__"=true)
    (ec_BadRows:K.lookup cda_BadRows=some ⟨eca_BadRows,ecb_BadRows,.fields evs_BadRows,ecs_BadRows⟩)
    (ef_BadRows:∃ a b,evs_BadRows[2]?=some (.str a b)∧(Pg.main.file == a)=true)
    (ek_BadRows:K.lookup ecc_BadRows=some ⟨eka_BadRows,ekb_BadRows,.cell (some (.ref c_BadRows)),ekc_BadRows⟩)
    (en_BadRows:W.Own.fldIn K c_BadRows fi_BadRows=true)
    (eself_BadRows:W.mroIn K c_BadRows (.ref c_BadRows)=some true)
    (eval_BadRows:W.mroIn K c_BadRows (.type "ValueError")=some true)
    (eopq_BadRows:W.nsIn K cStatics "thirdparty.any"=some none)
    (esa_BadRows:W.findIn K (.ref c_BadRows) "__setattr__"=some (some (.builtin "object.__setattr__")))
    (enof_BadRows:W.findIn K (.ref c_BadRows) "row"=some none)
    (eu_BadRows:W.ks_superIn K c_BadRows c_BadRows "__init__"=some (some (.builtin "ValueError.__init__")))
    (et_BadRows:(Pg.main.scope.names.lookup ("super":Str)).isSome=false)
    (eb_BadRows:∀ (S:Setting) (e v:Value),W.peek K S (bindArgs (W.ksFn "__init__" "BadRows.__init__" (defArgs s_Zu) (defBody s_Zu) (defScope s_Zu) edV_BadRows ekV_BadRows edc_BadRows epm_BadRows ean_BadRows (.ref cda_BadRows) ect_BadRows ecc_BadRows) ⟨[e,v],[]⟩)=some ([("self",e),("row",v)]:List (Str×Value)))
    (ehd_BadRows:(W.clsIn K c_BadRows).any (·.hasDict)=true)
    (esup:W.nsIn K mainGlobals "super"=some none)
    (pg_Plan:W.plainGet K c_Plan Str.empty=true)
    (hd_Plan:W.hasDictIn K c_Plan=true)
    (po_Plan:W.plainOver K c_Plan=true)
    (sa_Plan:W.findIn K (.ref c_Plan) "__setattr__"=some (some (.builtin "object.__setattr__")))
    (mk_Plan:W.makesIn K c_Plan=true)
    (kc_Plan:W.keepIn K (.ref c_Plan)=true)
    (no_Plan_line_rows:W.findIn K (.ref c_Plan) "line_rows"=some none)
    (no_Plan_bottom_rows:W.findIn K (.ref c_Plan) "bottom_rows"=some none)
    (no_Plan_thread_rows:W.findIn K (.ref c_Plan) "thread_rows"=some none)
    (b_ValueError:W.nsIn K mainGlobals "ValueError"=some none)
    (b_all:W.nsIn K mainGlobals "all"=some none)
    (b_any:W.nsIn K mainGlobals "any"=some none)
    (b_bool:W.nsIn K mainGlobals "bool"=some none)
    (b_dict:W.nsIn K mainGlobals "dict"=some none)
    (b_enumerate:W.nsIn K mainGlobals "enumerate"=some none)
    (b_int:W.nsIn K mainGlobals "int"=some none)
    (b_isinstance:W.nsIn K mainGlobals "isinstance"=some none)
    (b_len:W.nsIn K mainGlobals "len"=some none)
    (b_list:W.nsIn K mainGlobals "list"=some none)
    (b_max:W.nsIn K mainGlobals "max"=some none)
    (b_min:W.nsIn K mainGlobals "min"=some none)
    (b_range:W.nsIn K mainGlobals "range"=some none)
    (b_reversed:W.nsIn K mainGlobals "reversed"=some none)
    (b_str:W.nsIn K mainGlobals "str"=some none)
    (b_tuple:W.nsIn K mainGlobals "tuple"=some none)
    (v_DIGITS:W.nsIn K mainGlobals "DIGITS"=some (some (Value.str "0123456789" t_DIGITS)))
    (v_LARGE:W.nsIn K mainGlobals "LARGE"=some (some (Value.int 100000 t_LARGE)))
    (v_LETTERS:W.nsIn K mainGlobals "LETTERS"=some (some (Value.str "abcdefghijklmnopqrstuvwxyz" t_LETTERS)))
    (v_LONGEST_NAME:W.nsIn K mainGlobals "LONGEST_NAME"=some (some (Value.int 8 t_LONGEST_NAME)))
    (v_LONGEST_REST:W.nsIn K mainGlobals "LONGEST_REST"=some (some (Value.int 60 t_LONGEST_REST)))
    (v_MOST_BOTTOMS:W.nsIn K mainGlobals "MOST_BOTTOMS"=some (some (Value.int 4 t_MOST_BOTTOMS)))
    (v_MOST_DIGITS:W.nsIn K mainGlobals "MOST_DIGITS"=some (some (Value.int 2 t_MOST_DIGITS)))
    (v_MOST_LET_BY:W.nsIn K mainGlobals "MOST_LET_BY"=some (some (Value.int 9 t_MOST_LET_BY)))
    (v_MOST_LINES:W.nsIn K mainGlobals "MOST_LINES"=some (some (Value.int 5 t_MOST_LINES)))
    (v_MOST_RANK:W.nsIn K mainGlobals "MOST_RANK"=some (some (Value.int 99 t_MOST_RANK)))
    (v_MOST_STEPS:W.nsIn K mainGlobals "MOST_STEPS"=some (some (Value.int 12 t_MOST_STEPS)))
    (v_MOST_THREADS:W.nsIn K mainGlobals "MOST_THREADS"=some (some (Value.int 4 t_MOST_THREADS)))
    (v_MOST_TICKS:W.nsIn K mainGlobals "MOST_TICKS"=some (some (Value.int 9 t_MOST_TICKS)))
    (v_WIDEST:W.nsIn K mainGlobals "WIDEST"=some (some (Value.int 60 t_WIDEST)))
    (v_LONE_WORDS:W.nsIn K mainGlobals "LONE_WORDS"=some (some (.ref g_LONE_WORDS)))
    (w_LONE_WORDS:K.lookup g_LONE_WORDS=some ⟨Value.type "tuple",gd_LONE_WORDS,.seq #[Value.str "mask" t_LONE_WORDS_0,Value.str "open" t_LONE_WORDS_1] gn_LONE_WORDS,gs_LONE_WORDS⟩)
    (v_NAMING_WORDS:W.nsIn K mainGlobals "NAMING_WORDS"=some (some (.ref g_NAMING_WORDS)))
    (w_NAMING_WORDS:K.lookup g_NAMING_WORDS=some ⟨Value.type "tuple",gd_NAMING_WORDS,.seq #[Value.str "answer" t_NAMING_WORDS_0,Value.str "later" t_NAMING_WORDS_1,Value.str "wake" t_NAMING_WORDS_2] gn_NAMING_WORDS,gs_NAMING_WORDS⟩)
    (w_Emp0_Plan_init_bottoms:K.lookup g_Emp0_Plan_init_bottoms=some ⟨Value.type "tuple",gd_Emp0_Plan_init_bottoms,.seq #[] gn_Emp0_Plan_init_bottoms,gs_Emp0_Plan_init_bottoms⟩)
    (w_Emp0_Plan_init_threads:K.lookup g_Emp0_Plan_init_threads=some ⟨Value.type "tuple",gd_Emp0_Plan_init_threads,.seq #[] gn_Emp0_Plan_init_threads,gs_Emp0_Plan_init_threads⟩)
    (z_Zd_0:∀ (S:Setting) (us ws:List Value),us.length=2→ws.length=2→W.peek K S (bindArgs (W.fnOf "__init__" "Plan.__init__" (defArgs s_Zd) (defBody s_Zd) (defScope s_Zd) .none (.ref kd_Zd) dc_Zd pm_Zd an_Zd cd_Zd ct_Zd) ⟨us,List.zip ["bottoms","threads"] ws⟩)=some (List.zip ps_Zd (arr .none [] us ws y_Zd_0.ar))):∃ ad:Ad,(∀ base:Heap,K.In base→BmOk [] mg base→Txt Pg w K mg base ad)∧mg "law"=some (.ref ad.a_law)∧(∀ (s:Shared) (v:Value),BindsTo s ad.d_law ⟨[v],[]⟩ [("_law_script",v)]):=by
  have F_Z6:=fun_mk (st:=s_Z6) l_Z6 o_Z6 k_Z6
  have n_Z6:=F_Z6.binds (ps:=ps_Z6) fun _ _ _ _ _ _ us hl=>match us,hl with | [_,_,_],_=>rfl
  have F_Zg:=fun_mk (st:=s_Zg) l_Zg o_Zg k_Zg
  have n_Zg:=F_Zg.binds (ps:=ps_Zg) fun _ _ _ _ _ _ us hl=>match us,hl with | [_],_=>rfl
  have F_Zr:=fun_mk (st:=s_Zr) l_Zr o_Zr k_Zr
  have n_Zr:=F_Zr.binds (ps:=ps_Zr) fun _ _ _ _ _ _ us hl=>match us,hl with | [_],_=>rfl
  have F_Z1:=fun_mk (st:=s_Z1) l_Z1 o_Z1 k_Z1
  have n_Z1:=F_Z1.binds (ps:=ps_Z1) fun _ _ _ _ _ _ us hl=>match us,hl with | [_],_=>rfl
  have F_Z9:=fun_mk (st:=s_Z9) l_Z9 o_Z9 k_Z9
  have n_Z9:=F_Z9.binds (ps:=ps_Z9) fun _ _ _ _ _ _ us hl=>match us,hl with | [_],_=>rfl
  have F_Zj:=fun_mk (st:=s_Zj) l_Zj o_Zj k_Zj
  have n_Zj:=F_Zj.binds (ps:=ps_Zj) fun _ _ _ _ _ _ us hl=>match us,hl with | [_,_],_=>rfl
  have F_Za:=fun_mk (st:=s_Za) l_Za o_Za k_Za
  have n_Za:=F_Za.binds (ps:=ps_Za) fun _ _ _ _ _ _ us hl=>match us,hl with | [_],_=>rfl
  have F_Zp:=fun_mk (st:=s_Zp) l_Zp o_Zp k_Zp
  have n_Zp:=F_Zp.binds (ps:=ps_Zp) fun _ _ _ _ _ _ us hl=>match us,hl with | [_,_],_=>rfl
  have F_Zs:=fun_mk (st:=s_Zs) l_Zs o_Zs k_Zs
  have n_Zs:=F_Zs.binds (ps:=ps_Zs) fun _ _ _ _ _ _ us hl=>match us,hl with | [_],_=>rfl
  have F_Zo:=fun_mk (st:=s_Zo) l_Zo o_Zo k_Zo
  have n_Zo:=F_Zo.binds (ps:=ps_Zo) fun _ _ _ _ _ _ us hl=>match us,hl with | [_],_=>rfl
  have F_Zq:=fun_mk (st:=s_Zq) l_Zq o_Zq k_Zq
  have n_Zq:=F_Zq.binds (ps:=ps_Zq) fun _ _ _ _ _ _ us hl=>match us,hl with | [_],_=>rfl
  have F_Zk:=fun_mk (st:=s_Zk) l_Zk o_Zk k_Zk
  have n_Zk:=F_Zk.binds (ps:=ps_Zk) fun _ _ _ _ _ _ us hl=>match us,hl with | [_],_=>rfl
  have F_Zi:=fun_mk (st:=s_Zi) l_Zi o_Zi k_Zi
  have n_Zi:=F_Zi.binds (ps:=ps_Zi) fun _ _ _ _ _ _ us hl=>match us,hl with | [_],_=>rfl
  have F_Zh:=fun_mk (st:=s_Zh) l_Zh o_Zh k_Zh
  have n_Zh:=F_Zh.binds (ps:=ps_Zh) fun _ _ _ _ _ _ us hl=>match us,hl with | [_,_,_],_=>rfl
  have F_Z5:=fun_mk (st:=s_Z5) l_Z5 o_Z5 k_Z5
  have n_Z5:=F_Z5.binds (ps:=ps_Z5) fun _ _ _ _ _ _ us hl=>match us,hl with | [_,_],_=>rfl
  have F_Zf:=fun_mk (st:=s_Zf) l_Zf o_Zf k_Zf
  have n_Zf:=F_Zf.binds (ps:=ps_Zf) fun _ _ _ _ _ _ us hl=>match us,hl with | [_],_=>rfl
  have F_Z7:=fun_mk (st:=s_Z7) l_Z7 o_Z7 k_Z7
  have n_Z7:=F_Z7.binds (ps:=ps_Z7) fun _ _ _ _ _ _ us hl=>match us,hl with | [_],_=>rfl
  have F_Z8:=fun_mk (st:=s_Z8) l_Z8 o_Z8 k_Z8
  have n_Z8:=F_Z8.binds (ps:=ps_Z8) fun _ _ _ _ _ _ us hl=>match us,hl with | [_],_=>rfl
  have F_Ze:=fun_mk (st:=s_Ze) l_Ze o_Ze k_Ze
  have n_Ze:=F_Ze.binds (ps:=ps_Ze) fun _ _ _ _ _ _ us hl=>match us,hl with | [_,_,_],_=>rfl
  have F_Zd:=fun_mk (st:=s_Zd) l_Zd o_Zd k_Zd
  have F_Zb:=fun_mk (st:=s_Zb) l_Zb o_Zb k_Zb
  have n_Zb:=F_Zb.binds (ps:=ps_Zb) fun _ _ _ _ _ _ us hl=>match us,hl with | [_,_],_=>rfl
  have F_Zl:=fun_mk (st:=s_Zl) l_Zl o_Zl k_Zl
  have n_Zl:=F_Zl.binds (ps:=ps_Zl) fun _ _ _ _ _ _ us hl=>match us,hl with | [_,_,_],_=>rfl
  have F_Zc:=fun_mk (st:=s_Zc) l_Zc o_Zc k_Zc
  have n_Zc:=F_Zc.binds (ps:=ps_Zc) fun _ _ _ _ _ _ us hl=>match us,hl with | [_,_,_],_=>rfl
  have F_Z3:=fun_mk (st:=s_Z3) l_Z3 o_Z3 k_Z3
  have n_Z3:=F_Z3.binds (ps:=ps_Z3) fun _ _ _ _ _ _ us hl=>match us,hl with | [_],_=>rfl
  have F_Zm:=fun_mk (st:=s_Zm) l_Zm o_Zm k_Zm
  have n_Zm:=F_Zm.binds (ps:=ps_Zm) fun _ _ _ _ _ _ us hl=>match us,hl with | [_],_=>rfl
  have F_Zn:=fun_mk (st:=s_Zn) l_Zn o_Zn k_Zn
  have n_Zn:=F_Zn.binds (ps:=ps_Zn) fun _ _ _ _ _ _ us hl=>match us,hl with | [_],_=>rfl
  have F_Zt:=fun_mk (st:=s_Zt) l_Zt o_Zt k_Zt
  have n_Zt:=F_Zt.binds (ps:=ps_Zt) fun _ _ _ _ _ _ us hl=>match us,hl with | [_],_=>rfl
  have F_Z4:=fun_mk (st:=s_Z4) l_Z4 o_Z4 k_Z4
  have n_Z4:=F_Z4.binds (ps:=ps_Z4) fun _ _ _ _ _ _ us hl=>match us,hl with | [_],_=>rfl
  have F_Z0:=fun_mk (st:=s_Z0) l_Z0 o_Z0 k_Z0
  have n_Z0:=F_Z0.binds (ps:=ps_Z0) fun _ _ _ _ _ _ us hl=>match us,hl with | [],_=>rfl
  have F_Z2:=fun_mk (st:=s_Z2) l_Z2 o_Z2 k_Z2
  have n_Z2:=F_Z2.binds (ps:=ps_Z2) fun _ _ _ _ _ _ us hl=>match us,hl with | [],_=>rfl
  have F_law:=fun_mk (st:=s_law) l_law o_law k_law
  have n_law:=F_law.binds (ps:=ps_law) fun _ _ _ _ _ _ us hl=>match us,hl with | [_],_=>rfl
  exact⟨⟨a_Z6,_,a_Zg,_,a_Zr,_,a_Z1,_,a_Z9,_,a_Zj,_,a_Za,_,a_Zp,_,a_Zs,_,a_Zo,_,a_Zq,_,a_Zk,_,a_Zi,_,a_Zh,_,a_Z5,_,a_Zf,_,a_Z7,_,a_Z8,_,a_Ze,_,a_Zd,_,a_Zb,_,a_Zl,_,a_Zc,_,a_Z3,_,a_Zm,_,a_Zn,_,a_Zt,_,a_Z4,_,a_Z0,_,a_Z2,_,a_law,_,c_Plan,c_BadRows,c_KnockError,g_LONE_WORDS,g_NAMING_WORDS,g_Emp0_Plan_init_bottoms,g_Emp0_Plan_init_threads⟩,fun base hK hB=>⟨F_Z6,n_Z6,W.mg_of X G g_Z6,F_Zg,n_Zg,W.mg_of X G g_Zg,F_Zr,n_Zr,W.mg_of X G g_Zr,F_Z1,n_Z1,W.mg_of X G g_Z1,F_Z9,n_Z9,W.mg_of X G g_Z9,F_Zj,n_Zj,W.mg_of X G g_Zj,F_Za,n_Za,W.mg_of X G g_Za,F_Zp,n_Zp,W.mg_of X G g_Zp,F_Zs,n_Zs,W.mg_of X G g_Zs,F_Zo,n_Zo,W.mg_of X G g_Zo,F_Zq,n_Zq,W.mg_of X G g_Zq,F_Zk,n_Zk,W.mg_of X G g_Zk,F_Zi,n_Zi,W.mg_of X G g_Zi,F_Zh,n_Zh,W.mg_of X G g_Zh,F_Z5,n_Z5,W.mg_of X G g_Z5,F_Zf,n_Zf,W.mg_of X G g_Zf,F_Z7,n_Z7,W.mg_of X G g_Z7,F_Z8,n_Z8,W.mg_of X G g_Z8,F_Ze,n_Ze,W.mg_of X G g_Ze,F_Zd,⟨[],⟨by decide,.nil,fun s us ws hK hu hw=>W.kp_binds hK fun S=>z_Zd_0 S us ws hu hw⟩⟩,F_Zb,n_Zb,W.mg_of X G g_Zb,F_Zl,n_Zl,W.mg_of X G g_Zl,F_Zc,n_Zc,W.mg_of X G g_Zc,F_Z3,n_Z3,W.mg_of X G g_Z3,F_Zm,n_Zm,W.mg_of X G g_Zm,F_Zn,n_Zn,W.mg_of X G g_Zn,F_Zt,n_Zt,W.mg_of X G g_Zt,F_Z4,n_Z4,W.mg_of X G g_Z4,F_Z0,n_Z0,W.mg_of X G g_Z0,F_Z2,n_Z2,W.mg_of X G g_Z2,F_law,n_law,W.mg_of X G g_law,W.mg_of X G g_c_BadRows,W.mg_of X G g_c_KnockError,⟨⟨fi_BadRows,ecc_BadRows,cda_BadRows,_,en_BadRows,inib_BadRows et_BadRows,⟨⟨_,_,el_BadRows⟩,(let ⟨a,b,e1,e2⟩:=ef_BadRows;⟨_,_,_,_,a,b,rfl,ec_BadRows,e1,e2⟩),eo2_BadRows,rfl,⟨_,_,_,ek_BadRows⟩,fun s e v hK=>W.kp_binds hK fun S=>eb_BadRows S e v,eu_BadRows,eself_BadRows,eval_BadRows,eopq_BadRows,esa_BadRows,enof_BadRows⟩⟩,W.mg_none_of X G esup⟩,⟨ih_BadRows,iq_BadRows,enof_BadRows,ib_BadRows,ehd_BadRows⟩,exm_BadRows,⟨ih_BadRows,iq_BadRows,ib_BadRows,ic_BadRows,ia_BadRows,in_BadRows,it_BadRows,im_BadRows⟩,kiv_BadRows,kit_BadRows_BadRows,⟨pg_Plan,hd_Plan,po_Plan,sa_Plan⟩,W.mg_of X G g_c_Plan,⟨mk_Plan,g_Zd,i_Zd,kc_Plan⟩,no_Plan_line_rows,no_Plan_bottom_rows,no_Plan_thread_rows,W.mg_none_of X G b_ValueError,W.mg_none_of X G b_all,W.mg_none_of X G b_any,W.mg_none_of X G b_bool,W.mg_none_of X G b_dict,W.mg_none_of X G b_enumerate,W.mg_none_of X G b_int,W.mg_none_of X G b_isinstance,W.mg_none_of X G b_len,W.mg_none_of X G b_list,W.mg_none_of X G b_max,W.mg_none_of X G b_min,W.mg_none_of X G b_range,W.mg_none_of X G b_reversed,W.mg_none_of X G b_str,W.mg_none_of X G b_tuple,⟨_,W.mg_of X G v_DIGITS⟩,⟨_,W.mg_of X G v_LARGE⟩,⟨_,W.mg_of X G v_LETTERS⟩,⟨_,W.mg_of X G v_LONGEST_NAME⟩,⟨_,W.mg_of X G v_LONGEST_REST⟩,⟨_,W.mg_of X G v_MOST_BOTTOMS⟩,⟨_,W.mg_of X G v_MOST_DIGITS⟩,⟨_,W.mg_of X G v_MOST_LET_BY⟩,⟨_,W.mg_of X G v_MOST_LINES⟩,⟨_,W.mg_of X G v_MOST_RANK⟩,⟨_,W.mg_of X G v_MOST_STEPS⟩,⟨_,W.mg_of X G v_MOST_THREADS⟩,⟨_,W.mg_of X G v_MOST_TICKS⟩,⟨_,W.mg_of X G v_WIDEST⟩,W.mg_of X G v_LONE_WORDS,⟨[V.str "mask",V.str "open"],.cons (congrArg V.str (by decide +kernel)) (.cons (congrArg V.str (by decide +kernel)) (.nil)),_,_,_,w_LONE_WORDS,rfl,rfl,(show 2≤sizeLine by decide),.cons ⟨_,rfl⟩ (.cons ⟨_,rfl⟩ (.nil))⟩,W.mg_of X G v_NAMING_WORDS,⟨[V.str "answer",V.str "later",V.str "wake"],.cons (congrArg V.str (by decide +kernel)) (.cons (congrArg V.str (by decide +kernel)) (.cons (congrArg V.str (by decide +kernel)) (.nil))),_,_,_,w_NAMING_WORDS,rfl,rfl,(show 3≤sizeLine by decide),.cons ⟨_,rfl⟩ (.cons ⟨_,rfl⟩ (.cons ⟨_,rfl⟩ (.nil)))⟩,⟨[],.nil,_,_,_,w_Emp0_Plan_init_bottoms,rfl,rfl,(show 0≤sizeLine by decide),.nil⟩,⟨[],.nil,_,_,_,w_Emp0_Plan_init_threads,rfl,rfl,(show 0≤sizeLine by decide),.nil⟩⟩,W.mg_of X G g_law,fun s v=>.of_eq rfl⟩
end
end G
section
noncomputable section
namespace L2
open PySem PySem.Spec PySem.Calls PyProof.Rows Builtin Builtin.ObjectAttr Builtin.Getset_descriptor
def ItS (x:Str):It :=
  ⟨fun i _=>i < x.cps.size,fun i H v H'=>∃ T c,v=.ref T∧H T=none∧H'=upd H T (.tup [.int (i:Nat),.str ⟨#[c]⟩])∧x.cps[i]?=some c,fun i _=>i=x.cps.size⟩
theorem draws_str {P:Program} {w:World} {A:Around} (hh:A.handled=none) (it:Addr) (x:Str) (t:Tok) {ty:String} (hty:ty="str_ascii_iterator"∨ty="str_iterator") :
    Draws P w A it [it] x.cps.size (fun i v=>∃ c u,x.cps[i]?=some c∧v=.str ⟨#[c]⟩ u) (fun i h=>h.IsStrIter it ty x t i):=by
  rcases hty with rfl | rfl
  · exact Draws.strAscii hh it x t
  · exact Draws.strWide hh it x t
theorem turn_enumS {P:Program} {w:World} {K:W.Frag} {elts:List Expr} {kk:Nat} {tpos:Pos} (e it:Addr) (x:Str) (t:Tok) (ty:String) (hty:ty="str_ascii_iterator"∨ty="str_iterator") :
    Turn P w K (.Tuple elts kk tpos) (ItS x) [e,it] e (fun i h=>(∃ old,IsEnum h e it ((i:Nat):Int) old)∧h.IsStrIter it ty x t i∧e≠it) where
  mem:=by simp
  obj:=fun i h st b hb=>by
    obtain⟨⟨old,he⟩,⟨o,ho,hc,hd⟩,_⟩:=st
    have e':b=e∨b=it:=by simpa using hb
    rcases e' with z | z
    · rw[z];exact⟨_,he,fun v q=>nomatch q⟩
    · rw[z];exact⟨o,ho,fun v q=>by rw[hd] at q;cases q⟩
  keep:=fun i h h' st k=>let ⟨⟨old,he⟩,⟨o,ho,r⟩,hne⟩:=st;⟨⟨old,k e (by simp) _ he⟩,⟨o,k it (by simp) o ho,r⟩,hne⟩
  item:=by
    intro X hP hw hK hc i pins s σ H E I hf st hg
    subst hP hw hK
    obtain⟨⟨old,he⟩,hit,hne⟩:=st
    have D:=draws_str (P:=X.prog) (w:=X.w) (A:=X.A.in1) (I.ok.hd hc) it x t hty
    have hel:e < s.heap.objs.size:=Heap.lt_size he
    have hil:it < s.heap.objs.size:=by obtain⟨_,q,_⟩:=hit;exact Heap.lt_size q
    refine wpAny_pyNext_enum_itemD D he hit hg hne (by simpa using hne) fun u h' tk hv ho hit' hT hsz hk=>?_
    obtain⟨c,tok,hcx,rfl⟩:=hv
    refine⟨_,rfl,wpAny_letOwnedTupleGo_enum (s:={ s with heap:=h',toks:=tk+1 }) ho fun h'' he' sb=>?_⟩
    have hT2:h''.get? s.heap.objs.size=some { cls:=.type "tuple",data:=.seq #[.int i tk,.str ⟨#[c]⟩ tok] }:=(sb.2 _ (Nat.ne_of_gt hel)).trans hT
    have new:ObjOk X.prog X.w (upd H s.heap.objs.size (.tup [.int (i:Nat),.str ⟨#[c]⟩])) h'' s.heap.objs.size (.tup [.int (i:Nat),.str ⟨#[c]⟩]) :=
      ⟨by show 2≤sizeLine;decide,[.int i tk,.str ⟨#[c]⟩ tok],.cons ⟨_,rfl⟩ (.cons ⟨_,rfl⟩ .nil),⟨_,hT2,rfl,_,rfl⟩⟩
    have I1:Inv X pins σ (upd H s.heap.objs.size (.tup [.int (i:Nat),.str ⟨#[c]⟩])) { s with heap:=h'',toks:=tk+1 } :=
      I.turnedNew (ch:=[e,it]) (fun b ob hb q=>(sb.2 b (fun z=>hb (by simp[z]))).trans (hk b ob (fun z=>hb (by simp[z])) (fun z=>hb (by simp[z])) q)) hf (Nat.le_refl _) new
    refine⟨.ref s.heap.objs.size,_,I1,rfl,⟨_,c,rfl,I.hok.fresh (Nat.le_refl _),rfl,hcx⟩,⟨⟨.str ⟨#[c]⟩ tok,?_⟩,?_,hne⟩,fun b hb=>?_⟩
    · have e1:((i+1:Nat):Int)=(i:Int)+1:=by omega
      rw[e1];exact he'
    · obtain⟨o,ho',r⟩:=hit'
      exact⟨o,(sb.2 it (Ne.symm hne)).trans ho',r⟩
    · have hb':b < s.heap.objs.size:=by
        have e':b=e∨b=it:=by simpa using hb
        rcases e' with z | z
        · rw[z];exact hel
        · rw[z];exact hil
      rw[upd_ne (Nat.ne_of_lt hb')]
      exact (hf b hb).1
  done:=by
    intro X hP hw hK hc i pins s σ H E I hf st hg
    subst hP hw hK
    obtain⟨⟨old,he⟩,hit,hne⟩:=st
    have hg:i=x.cps.size:=hg
    subst hg
    have D:=draws_str (P:=X.prog) (w:=X.w) (A:=X.A.in1) (I.ok.hd hc) it x t hty
    obtain⟨f0,f1,f2,f3,f4,f5⟩:=hf it (by simp)
    exact wpAny_pyNext_enum_endD D he hit fun h' eb=>⟨rfl,I.turned (t':=s.toks) (fun b o hb q=>eb b o hb q) f0 f1 f3 f4 f5⟩
  self:=fun A i s Q E st h=>let ⟨⟨_,he⟩,_⟩:=st;wpAny_pyIter_enum he h
def iEnumS (ta:TA):TI:=fun σ H R=>ta σ H fun vs H1=>∃ x,vs=[.str x]∧R (ItS x) H1
theorem pi_enumS {X:Cx} {e:Expr} {ta:TA} {p pos tpos:Pos} {elts:List Expr} {kk:Nat} (hg:Gl X "enumerate") (hm:X.mg "enumerate"=none) (ha:PA X [e] ta) (hs:starEach [e] X.env=[(false,eval e X.env)]:=by rfl) :
    PI X (.Tuple elts kk tpos) (.Call (.Name "enumerate" p) [e] [] pos) (iEnumS ta):=by
  intro pins s σ H R I h
  refine Call_ (ld_blt I hg hm boot_enumerate (PyProof.Rows.callWith_type1 (thn (ha pos pins s σ H _ I h) fun us s1 ⟨vs,H1,I1,r1,q1⟩=>?_) hs rfl))
  obtain⟨x,ex,q⟩:=q1
  subst ex
  cases r1 with
  | cons r rr =>
    cases rr
    obtain⟨t,rfl⟩:=r
    refine call_enumerate_str fun h' he hit hsz hk=>wpAny_pyIter_enum he ?_
    have I2:Inv X pins σ H1 { s1 with heap:=h' }:=I1.kept (t':=s1.toks) hk
    have hty:strIterType x="str_ascii_iterator"∨strIterType x="str_iterator":=by
      unfold strIterType
      split
      · exact .inl rfl
      · exact .inr rfl
    refine⟨s1.heap.objs.size+1,[s1.heap.objs.size+1,s1.heap.objs.size],_,_,H1,rfl,I2,turn_enumS (s1.heap.objs.size+1) s1.heap.objs.size x t _ hty,⟨⟨.none,he⟩,hit,Nat.succ_ne_self _⟩,fun b hb=>?_,q⟩
    have e':b=s1.heap.objs.size+1∨b=s1.heap.objs.size:=by simpa using hb
    have hle:s1.heap.objs.size≤b:=by
      rcases e' with z | z
      · rw[z];exact Nat.le_add_right _ _
      · rw[z];exact Nat.le_refl _
    exact I1.fpOk hle (I1.hok.fresh hle)
end L2
namespace Ev
open PySem PySem.Spec L2
theorem uiEnumS {X:Cx} {e:Expr} {t:TA} {p pos:Pos} {elts:List Expr} {kk:Nat} {tpos:Pos} (hm:X.mg "enumerate"=none) (ha:UA X [e] t) (hg:Gl X "enumerate":=by rfl) (hs:starEach [e] X.env=[(false,eval e X.env)]:=by rfl):UI X (.Tuple elts kk tpos) (.Call (.Name "enumerate" p) [e] [] pos) (iEnumS t):=by with_unfolding_all exact pi_enumS hg hm ha hs
end Ev

end
namespace G
noncomputable section
open PySem PySem.Spec L2 Ev
section
variable {Pg:Program} {w:World} {K:W.Frag} {mg:Str→Option Value} {base:Heap} {ad:Ad}
def t_Z6 (Pg:Program) (w:World) (K:W.Frag) (ad:Ad):TS :=
  tSeq (tRet (tAndV (tCB (rIsi1 K) (tCons (tVar 0) (tCons (tC (V.ty (tyS 2))) tNil))) (tAndV (tNotV (tCB (rIsi1 K) (tCons (tVar 0) (tCons (tC (V.ty (tyS 1))) tNil)))) (tChain (rI0 fun i j=>.bl (decide (i≤j))) (rI0 fun i j=>.bl (decide (i≤j))) (tVar 1) (tVar 0) (tVar 2))))) (tNext)
theorem ok_Z6 {sp:Sp} (T:Txt Pg w K mg base ad)
    (len:∀ vs H Q E,sp vs H Q E→vs.length=ps_Z6.length) (rd:∀ vs H Q E,sp vs H Q E→t_Z6 Pg w K ad { nx:=fun _ H'=>Q .non H',rt:=Q } (start ns_Z6 vs) H):FnOk Pg w K mg base CX0 (2+1) ad.a_Z6 ad.d_Z6 ps_Z6 sp :=
  uFn (t:=t_Z6 Pg w K ad) T.f_Z6 sc_Z6 len (fun cdv A outer s H E hr=>have hu:=hr.units;ubCons (usRet (uAndV (uuIsi (cc:=2) (by decide) (by decide) rfl T.b_isinstance T.b_int (uv 0)) (uAndV (uNotV (uuIsi (cc:=1) (by decide) (by decide) rfl T.b_isinstance T.b_bool (uv 0))) (uOneV (uChain op_le op_le (uv 1) (uv 0) (uv 2)))))) (ubNil)) rd
def t_Zg (Pg:Program) (w:World) (K:W.Frag) (ad:Ad):TS :=
  tSeq (tIfS (tOr (tNot (L2.tB (tCB (rIsi1 K) (tCons (tVar 0) (tCons (tC (V.ty (tyS 3))) tNil))))) (tNot (tTest (tChain (rI0 fun i j=>.bl (decide (i≤j))) (rI0 fun i j=>.bl (decide (i≤j))) (tC (V.int 1)) (tCB rLenStr (tCons (tVar 0) (tNil))) (tC (V.int 8)))))) (tSeq (tRet (tC (V.bl false))) (tNext)) (tNext)) (tSeq (tRet (tCB (rAll K) (tCons (tLc (iStr (tVar 0)) (gName 1) (tYes) (tOp rInS (tVar 1) (tC (V.str "abcdefghijklmnopqrstuvwxyz"))) [1]) (tNil)))) (tNext))
theorem ok_Zg {sp:Sp} (T:Txt Pg w K mg base ad)
    (len:∀ vs H Q E,sp vs H Q E→vs.length=ps_Zg.length) (rd:∀ vs H Q E,sp vs H Q E→t_Zg Pg w K ad { nx:=fun _ H'=>Q .non H',rt:=Q } (start ns_Zg vs) H):FnOk Pg w K mg base CX0 (2+1) ad.a_Zg ad.d_Zg ps_Zg sp :=
  uFn (t:=t_Zg Pg w K ad) T.f_Zg sc_Zg len (fun cdv A outer s H E hr=>have hu:=hr.units;let ⟨_,k_LETTERS⟩:=T.k_LETTERS;let ⟨_,k_LONGEST_NAME⟩:=T.k_LONGEST_NAME;ubCons (usIf (uW (uOr (utNot (uTv (uuIsi (cc:=3) (by decide) (by decide) rfl T.b_isinstance T.b_str (uv 0)))) (uOr1 (utNot (utChain op_le op_le (uInt) (uCallB call_len_str T.b_len (by decide +kernel) (uaCons (uv 0) (uaNil))) (uGlob (v:=V.int 8) k_LONGEST_NAME ⟨_,rfl⟩)))))) (ubCons (usRet (uBl)) (ubNil)) (ubNil)) (ubCons (usRet (uCallB (cr_all rfl) T.b_all (by decide +kernel) (uaCons (uLcG rfl sc_Zg.nd (uiStr (uv 0)) (blkOk_by (own:=[("sign",1)]) (N:=ns_Zg) (by kernel_rfl)) (fun _ _ _ _ _=>ugName 1 sc_Zg.nd) (fun _ _ _ _ _=>utsNil) (fun _ _ _ _ _=>uCmp op_in_sign (uv 1) (uGlob (v:=V.str "abcdefghijklmnopqrstuvwxyz") k_LETTERS ⟨_,rfl⟩) (by with_unfolding_all rfl))) (uaNil)))) (ubNil))) rd
def t_Zr (Pg:Program) (w:World) (K:W.Frag) (ad:Ad) (sp_Z6:Sp) (sp_Zg:Sp):TS :=
  tSeq (tIfS (tOr (tNot (L2.tB (tCB (rIsi1 K) (tCons (tVar 0) (tCons (tC (V.ty (tyS 5))) tNil))))) (tOr (tTest (tOp (rIn K true) (tCB (rLenSq K) (tCons (tVar 0) (tNil))) (tTup (tCons (tC (V.int 1)) (tCons (tC (V.int 2)) (tNil)))))) (tNot (L2.tB (tCB (rIsi1 K) (tCons (tOp (rIxT K) (tVar 0) (tC (V.int 0))) (tCons (tC (V.ty (tyS 3))) tNil))))))) (tSeq (tRet (tC (V.bl false))) (tNext)) (tNext)) (tSeq (tIfS (tTest (tOp rEq (tCB (rLenSq K) (tCons (tVar 0) (tNil))) (tC (V.int 1)))) (tSeq (tRet (tOp (rIn K false) (tOp (rIxT K) (tVar 0) (tC (V.int 0))) (tC (V.ref ad.g_LONE_WORDS)))) (tNext)) (tNext)) (tSeq (tAsg (tVar 0) (gTup K 2 (gCons (gName 1) (gCons (gName 2) (gNil))))) (tSeq (tIfS (tTest (tOp rEq (tVar 1) (tC (V.str "run")))) (tSeq (tRet (tCall sp_Z6 [] E0 (tCons (tVar 2) (tCons (tC (V.int 1)) (tCons (tC (V.int 9)) (tNil)))))) (tNext)) (tNext)) (tSeq (tRet (tAndV (tOp (rIn K false) (tVar 1) (tC (V.ref ad.g_NAMING_WORDS))) (tCall sp_Zg [] E0 (tCons (tVar 2) (tNil))))) (tNext)))))
theorem ok_Zr {sp sp_Z6 sp_Zg:Sp} (T:Txt Pg w K mg base ad)
    (f_Z6:FnOk Pg w K mg base CX0 (2+1) ad.a_Z6 ad.d_Z6 ps_Z6 sp_Z6)
    (f_Zg:FnOk Pg w K mg base CX0 (2+1) ad.a_Zg ad.d_Zg ps_Zg sp_Zg)
    (len:∀ vs H Q E,sp vs H Q E→vs.length=ps_Zr.length) (rd:∀ vs H Q E,sp vs H Q E→t_Zr Pg w K ad sp_Z6 sp_Zg { nx:=fun _ H'=>Q .non H',rt:=Q } (start ns_Zr vs) H):FnOk Pg w K mg base CX0 (4+1) ad.a_Zr ad.d_Zr ps_Zr sp :=
  uFn (t:=t_Zr Pg w K ad sp_Z6 sp_Zg) T.f_Zr sc_Zr len (fun cdv A outer s H E hr=>have hu:=hr.units;let ⟨_,k_MOST_TICKS⟩:=T.k_MOST_TICKS;ubCons (usIf (uW (uOr (utNot (uTv (uuIsi (cc:=5) (by decide) (by decide) rfl T.b_isinstance T.b_tuple (uv 0)))) (uOr (utCmp op_notIn_seq (uCallB call_len_seq T.b_len (by decide +kernel) (uaCons (uv 0) (uaNil))) (uTup (uaCons (uInt) (uaCons (uInt) (uaNil)))) (by with_unfolding_all rfl)) (uOr1 (utNot (uTv (uuIsi (cc:=3) (by decide) (by decide) rfl T.b_isinstance T.b_str (uIx ix_tup (uv 0) (uInt))))))))) (ubCons (usRet (uBl)) (ubNil)) (ubNil)) (ubCons (usIf (utCmp op_eq (uCallB call_len_seq T.b_len (by decide +kernel) (uaCons (uv 0) (uaNil))) (uInt) (nomark _)) (ubCons (usRet (uCmp op_in_seq (uIx ix_tup (uv 0) (uInt)) (uGlob (v:=V.ref ad.g_LONE_WORDS) T.k_LONE_WORDS rfl) (by with_unfolding_all rfl))) (ubNil)) (ubNil)) (ubCons (usAsg (uv 0) (ugTup rfl (ugsCons (ugName 1 sc_Zr.nd) (ugsCons (ugName 2 sc_Zr.nd) (ugsNil))))) (ubCons (usIf (utCmp op_eq (uv 1) (uStr) (nomark _)) (ubCons (usRet (uCall f_Z6 (hr.mono (by decide)) T.m_Z6 T.f_Z6.kp T.n_Z6 (uaCons (uv 2) (uaCons (uInt) (uaCons (uGlob (v:=V.int 9) k_MOST_TICKS ⟨_,rfl⟩) (uaNil)))))) (ubNil)) (ubNil)) (ubCons (usRet (uAndV (uCmp op_in_seq (uv 1) (uGlob (v:=V.ref ad.g_NAMING_WORDS) T.k_NAMING_WORDS rfl) (by with_unfolding_all rfl)) (uOneV (uCall f_Zg (hr.mono (by decide)) T.m_Zg T.f_Zg.kp T.n_Zg (uaCons (uv 2) (uaNil)))))) (ubNil)))))) rd
def t_Z1 (Pg:Program) (w:World) (K:W.Frag) (ad:Ad):TS :=
  tSeq (tAsg (tC (V.int 0)) (gName 1)) (tSeq (tFor (iList K (tVar 0)) (gName 2) (tSeq (tIfS (tTest (tOp rEq (tOp (rIxT K) (tVar 2) (tC (V.int 0))) (tC (V.str "mask")))) (tSeq (tAug 1 (tC (V.int 1)) (ipI fun i j=>i+j)) (tNext)) (tSeq (tIfS (tTest (tOp rEq (tOp (rIxT K) (tVar 2) (tC (V.int 0))) (tC (V.str "open")))) (tSeq (tAug 1 (tC (V.int 1)) (ipI fun i j=>i-j)) (tNext)) (tNext)) (tNext))) (tSeq (tIfS (tTest (tOp (rI0 fun i j=>.bl (decide (i < j))) (tVar 1) (tC (V.int 0)))) (tSeq (tRet (tC (V.bl false))) (tNext)) (tNext)) (tNext)))) (tSeq (tRet (tC (V.bl true))) (tNext)))
theorem ok_Z1 {sp:Sp} (T:Txt Pg w K mg base ad)
    (len:∀ vs H Q E,sp vs H Q E→vs.length=ps_Z1.length) (rd:∀ vs H Q E,sp vs H Q E→t_Z1 Pg w K ad { nx:=fun _ H'=>Q .non H',rt:=Q } (start ns_Z1 vs) H):FnOk Pg w K mg base CX0 (2+1) ad.a_Z1 ad.d_Z1 ps_Z1 sp :=
  uFn (t:=t_Z1 Pg w K ad) T.f_Z1 sc_Z1 len (fun cdv A outer s H E hr=>have hu:=hr.units;ubCons (usSet 1 sc_Z1.nd (uInt)) (ubCons (usForG rfl (uiLst (uv 0)) (ugName 2 sc_Z1.nd) (ubCons (usIf (utCmp op_eq (uIx ix_tup (uv 2) (uInt)) (uStr) (nomark _)) (ubCons (usAug (i:=1) sc_Z1.nd (uInt) ip_add) (ubNil)) (ubCons (usIf (utCmp op_eq (uIx ix_tup (uv 2) (uInt)) (uStr) (nomark _)) (ubCons (usAug (i:=1) sc_Z1.nd (uInt) ip_sub) (ubNil)) (ubNil)) (ubNil))) (ubCons (usIf (utCmp op_lt (uv 1) (uInt) (nomark _)) (ubCons (usRet (uBl)) (ubNil)) (ubNil)) (ubNil))) PassesOwn.never) (ubCons (usRet (uBl)) (ubNil)))) rd
def t_Z9 (Pg:Program) (w:World) (K:W.Frag) (ad:Ad) (sp_Zr:Sp) (sp_Z1:Sp):TS :=
  tSeq (tIfS (tOr (tNot (L2.tB (tCB (rIsi1 K) (tCons (tVar 0) (tCons (tC (V.ty (tyS 4))) tNil))))) (tNot (tTest (tChain (rI0 fun i j=>.bl (decide (i≤j))) (rI0 fun i j=>.bl (decide (i≤j))) (tC (V.int 1)) (tCB (rLenSq K) (tCons (tVar 0) (tNil))) (tC (V.int 12)))))) (tSeq (tRet (tC (V.bl false))) (tNext)) (tNext)) (tSeq (tIfS (tNot (L2.tB (tCB (rAll K) (tCons (tLc (iList K (tVar 0)) (gName 1) (tYes) (tCall sp_Zr [] E0 (tCons (tVar 1) (tNil))) [1]) (tNil))))) (tSeq (tRet (tC (V.bl false))) (tNext)) (tNext)) (tSeq (tRet (tAndV (tCB (rAny K) (tCons (tLc (iList K (tVar 0)) (gName 1) (tYes) (tOp rEq (tOp (rIxT K) (tVar 1) (tC (V.int 0))) (tC (V.str "run"))) [1]) (tNil))) (tCall sp_Z1 [] E0 (tCons (tVar 0) (tNil))))) (tNext)))
theorem ok_Z9 {sp sp_Zr sp_Z1:Sp} (T:Txt Pg w K mg base ad)
    (f_Zr:FnOk Pg w K mg base CX0 (4+1) ad.a_Zr ad.d_Zr ps_Zr sp_Zr)
    (f_Z1:FnOk Pg w K mg base CX0 (2+1) ad.a_Z1 ad.d_Z1 ps_Z1 sp_Z1)
    (len:∀ vs H Q E,sp vs H Q E→vs.length=ps_Z9.length) (rd:∀ vs H Q E,sp vs H Q E→t_Z9 Pg w K ad sp_Zr sp_Z1 { nx:=fun _ H'=>Q .non H',rt:=Q } (start ns_Z9 vs) H):FnOk Pg w K mg base CX0 (6+1) ad.a_Z9 ad.d_Z9 ps_Z9 sp :=
  uFn (t:=t_Z9 Pg w K ad sp_Zr sp_Z1) T.f_Z9 sc_Z9 len (fun cdv A outer s H E hr=>have hu:=hr.units;let ⟨_,k_MOST_STEPS⟩:=T.k_MOST_STEPS;ubCons (usIf (uW (uOr (utNot (uTv (uuIsi (cc:=4) (by decide) (by decide) rfl T.b_isinstance T.b_list (uv 0)))) (uOr1 (utNot (utChain op_le op_le (uInt) (uCallB call_len_seq T.b_len (by decide +kernel) (uaCons (uv 0) (uaNil))) (uGlob (v:=V.int 12) k_MOST_STEPS ⟨_,rfl⟩)))))) (ubCons (usRet (uBl)) (ubNil)) (ubNil)) (ubCons (usIf (utNot (uTv (uCallB (cr_all rfl) T.b_all (by decide +kernel) (uaCons (uLcG rfl sc_Z9.nd (uiLst (uv 0)) (blkOk_by (own:=[("step",1)]) (N:=ns_Z9) (by kernel_rfl)) (fun _ _ _ _ _=>ugName 1 sc_Z9.nd) (fun _ _ _ _ _=>utsNil) (fun _ _ _ _ _=>uCall f_Zr (hr.mono (by decide)) T.m_Zr T.f_Zr.kp T.n_Zr (uaCons (uv 1) (uaNil)))) (uaNil))))) (ubCons (usRet (uBl)) (ubNil)) (ubNil)) (ubCons (usRet (uAndV (uCallB (cr_any rfl) T.b_any (by decide +kernel) (uaCons (uLcG rfl sc_Z9.nd (uiLst (uv 0)) (blkOk_by (own:=[("step",1)]) (N:=ns_Z9) (by kernel_rfl)) (fun _ _ _ _ _=>ugName 1 sc_Z9.nd) (fun _ _ _ _ _=>utsNil) (fun _ _ _ _ _=>uCmp op_eq (uIx ix_tup (uv 1) (uInt)) (uStr) (nomark _))) (uaNil))) (uOneV (uCall f_Z1 (hr.mono (by decide)) T.m_Z1 T.f_Z1.kp T.n_Z1 (uaCons (uv 0) (uaNil)))))) (ubNil)))) rd
def t_Zj (Pg:Program) (w:World) (K:W.Frag) (ad:Ad):TS :=
  tSeq (tRet (tLc (iList K (tVar 0)) (gName 2) (tTest (tOp rEq (tOp (rIxT K) (tVar 2) (tC (V.int 0))) (tVar 1))) (tOp (rIxT K) (tVar 2) (tC (V.int 1))) [2])) (tNext)
theorem ok_Zj {sp:Sp} (T:Txt Pg w K mg base ad)
    (len:∀ vs H Q E,sp vs H Q E→vs.length=ps_Zj.length) (rd:∀ vs H Q E,sp vs H Q E→t_Zj Pg w K ad { nx:=fun _ H'=>Q .non H',rt:=Q } (start ns_Zj vs) H):FnOk Pg w K mg base CX0 (2+1) ad.a_Zj ad.d_Zj ps_Zj sp :=
  uFn (t:=t_Zj Pg w K ad) T.f_Zj sc_Zj len (fun cdv A outer s H E hr=>have hu:=hr.units;ubCons (usRet (uLcG rfl sc_Zj.nd (uiLst (uv 0)) (blkOk_by (own:=[("step",2)]) (N:=ns_Zj) (by kernel_rfl)) (fun _ _ _ _ _=>ugName 2 sc_Zj.nd) (fun _ _ _ _ _=>utsOne (utCmp op_eq (uIx ix_tup (uv 2) (uInt)) (uv 1) (nomark _))) (fun _ _ _ _ _=>uIx ix_tup (uv 2) (uInt)))) (ubNil)) rd
def t_Za (Pg:Program) (w:World) (K:W.Frag) (ad:Ad):TS :=
  tSeq (tIfS (L2.tB (tCB (rIsi1 K) (tCons (tVar 0) (tCons (tC (V.ty (tyS 6))) tNil)))) (tSeq (tRet (tLVals (tVar 0))) (tNext)) (tNext)) (tSeq (tIfS (L2.tB (tCB (rIsi2 K) (tCons (tVar 0) (tCons (tTup (tCons (tC (V.ty (tyS 4))) (tCons (tC (V.ty (tyS 5))) tNil))) tNil)))) (tSeq (tRet (tCB (rListOf K) (tCons (tVar 0) (tNil)))) (tNext)) (tNext)) (tSeq (tRet (tLst (tNil))) (tNext)))
theorem ok_Za {sp:Sp} (T:Txt Pg w K mg base ad)
    (len:∀ vs H Q E,sp vs H Q E→vs.length=ps_Za.length) (rd:∀ vs H Q E,sp vs H Q E→t_Za Pg w K ad { nx:=fun _ H'=>Q .non H',rt:=Q } (start ns_Za vs) H):FnOk Pg w K mg base CX0 (2+1) ad.a_Za ad.d_Za ps_Za sp :=
  uFn (t:=t_Za Pg w K ad) T.f_Za sc_Za len (fun cdv A outer s H E hr=>have hu:=hr.units;ubCons (usIf (uTv (uuIsi (cc:=6) (by decide) (by decide) rfl T.b_isinstance T.b_dict (uv 0))) (ubCons (usRet (uLVals rfl T.b_list (uv 0))) (ubNil)) (ubNil)) (ubCons (usIf (uTv (uuIsi2 (c1:=4) (c2:=5) (by decide) (by decide) (by decide) (by decide) rfl rfl T.b_isinstance T.b_list T.b_tuple (uv 0))) (ubCons (usRet (uCallTy call_list_of T.b_list (by decide +kernel) (uaCons (uv 0) (uaNil)))) (ubNil)) (ubNil)) (ubCons (usRet (uLst (uaNil))) (ubNil)))) rd
def t_Zp (Pg:Program) (w:World) (K:W.Frag) (ad:Ad):TS :=
  tSeq (tIfS (L2.tB (tCB (rIsi1 K) (tCons (tVar 0) (tCons (tC (V.ty (tyS 6))) tNil)))) (tSeq (tNever) (tNext)) (tNext)) (tSeq (tIfS (L2.tB (tCB (rIsi1 K) (tCons (tVar 0) (tCons (tC (V.ty (tyS 5))) tNil)))) (tSeq (tRet (tCB (rTupOf K) (tCons (tVar 1) (tNil)))) (tNext)) (tNext)) (tSeq (tIfS (L2.tB (tCB (rIsi1 K) (tCons (tVar 0) (tCons (tC (V.ty (tyS 4))) tNil)))) (tSeq (tRet (tCB (rListOf K) (tCons (tVar 1) (tNil)))) (tNext)) (tNext)) (tSeq (tRet (tVar 0)) (tNext))))
theorem ok_Zp {sp:Sp} (T:Txt Pg w K mg base ad)
    (len:∀ vs H Q E,sp vs H Q E→vs.length=ps_Zp.length) (rd:∀ vs H Q E,sp vs H Q E→t_Zp Pg w K ad { nx:=fun _ H'=>Q .non H',rt:=Q } (start ns_Zp vs) H):FnOk Pg w K mg base CX0 (2+1) ad.a_Zp ad.d_Zp ps_Zp sp :=
  uFn (t:=t_Zp Pg w K ad) T.f_Zp sc_Zp len (fun cdv A outer s H E hr=>have hu:=hr.units;ubCons (usIf (uTv (uuIsi (cc:=6) (by decide) (by decide) rfl T.b_isinstance T.b_dict (uv 0))) (ubCons (usNever) (ubNil)) (ubNil)) (ubCons (usIf (uTv (uuIsi (cc:=5) (by decide) (by decide) rfl T.b_isinstance T.b_tuple (uv 0))) (ubCons (usRet (uCallTy call_tuple_of T.b_tuple (by decide +kernel) (uaCons (uv 1) (uaNil)))) (ubNil)) (ubNil)) (ubCons (usIf (uTv (uuIsi (cc:=4) (by decide) (by decide) rfl T.b_isinstance T.b_list (uv 0))) (ubCons (usRet (uCallTy call_list_of T.b_list (by decide +kernel) (uaCons (uv 1) (uaNil)))) (ubNil)) (ubNil)) (ubCons (usRet (uv 0)) (ubNil))))) rd
def t_Zs (Pg:Program) (w:World) (K:W.Frag) (ad:Ad) (sp_Za:Sp) (sp_Zp:Sp):TS :=
  tSeq (tAsg (tLst (tCons (tVar 0) (tNil))) (gName 1)) (tSeq (tAsg (tLst (tNil)) (gName 2)) (tSeq (tWhile (tTest (tChain (rI0 fun i j=>.bl (decide (i < j))) (rI0 fun i j=>.bl (decide (i≤j))) (tCB (rLenSq K) (tCons (tVar 2) (tNil))) (tCB (rLenSq K) (tCons (tVar 1) (tNil))) (tC (V.int 100000)))) (tSeq (tAsg (tCall sp_Za [] E0 (tCons (tOp (rIxL K) (tVar 1) (tCB (rLenSq K) (tCons (tVar 2) (tNil)))) (tNil))) (gName 4)) (tSeq (tDrop (tBM K "list" rAppend (tVar 2) (tCons (tTup (tCons (tCB (rLenSq K) (tCons (tVar 1) (tNil))) (tCons (tOp (rI0 fun i j=>.int (i+j)) (tCB (rLenSq K) (tCons (tVar 1) (tNil))) (tCB (rLenSq K) (tCons (tVar 4) (tNil)))) (tNil)))) (tNil)))) (tSeq (tDrop (tBM K "list" rExtend (tVar 1) (tCons (tVar 4) (tNil)))) (tNext))))) (tSeq (tFor (iRevR (tCons (tCB (rLenSq K) (tCons (tVar 2) (tNil))) (tNil))) (gName 3) (tSeq (tAsg (tOp (rIxL K) (tVar 2) (tVar 3)) (gTup K 2 (gCons (gName 5) (gCons (gName 6) (gNil))))) (tSeq (tAsg (tCall sp_Zp [] E0 (tCons (tOp (rIxL K) (tVar 1) (tVar 3)) (tCons (tSl (rSlL K) (tVar 1) (tPart (tVar 5)) (tPart (tVar 6))) (tNil)))) (gSub (tVar 1) (tVar 3) rSetL)) (tNext)))) (tSeq (tRet (tOp (rIxL K) (tVar 1) (tC (V.int 0)))) (tNext)))))
theorem ok_Zs {sp sp_Za sp_Zp:Sp} (T:Txt Pg w K mg base ad)
    (f_Za:FnOk Pg w K mg base CX0 (2+1) ad.a_Za ad.d_Za ps_Za sp_Za)
    (f_Zp:FnOk Pg w K mg base CX0 (2+1) ad.a_Zp ad.d_Zp ps_Zp sp_Zp)
    (len:∀ vs H Q E,sp vs H Q E→vs.length=ps_Zs.length) (rd:∀ vs H Q E,sp vs H Q E→t_Zs Pg w K ad sp_Za sp_Zp { nx:=fun _ H'=>Q .non H',rt:=Q } (start ns_Zs vs) H):FnOk Pg w K mg base CX0 (4+1) ad.a_Zs ad.d_Zs ps_Zs sp :=
  uFn (t:=t_Zs Pg w K ad sp_Za sp_Zp) T.f_Zs sc_Zs len (fun cdv A outer s H E hr=>have hu:=hr.units;let ⟨_,k_LARGE⟩:=T.k_LARGE;ubCons (usSet 1 sc_Zs.nd (uLst (uaCons (uv 0) (uaNil)))) (ubCons (usSet 2 sc_Zs.nd (uLst (uaNil))) (ubCons (usWhile PassesOwn.never (utChain op_lt op_le (uCallB call_len_seq T.b_len (by decide +kernel) (uaCons (uv 2) (uaNil))) (uCallB call_len_seq T.b_len (by decide +kernel) (uaCons (uv 1) (uaNil))) (uGlob (v:=V.int 100000) k_LARGE ⟨_,rfl⟩)) (ubCons (usSet 4 sc_Zs.nd (uCall f_Za (hr.mono (by decide)) T.m_Za T.f_Za.kp T.n_Za (uaCons (uIx ix_list (uv 1) (uCallB call_len_seq T.b_len (by decide +kernel) (uaCons (uv 2) (uaNil)))) (uaNil)))) (ubCons (usExpr (uBm PySem.F.plainAttrs_list PySem.F.slot_list_append PySem.F.type_list_append mt_append (uv 2) (uaCons (uTup (uaCons (uCallB call_len_seq T.b_len (by decide +kernel) (uaCons (uv 1) (uaNil))) (uaCons (uBin op_add (uCallB call_len_seq T.b_len (by decide +kernel) (uaCons (uv 1) (uaNil))) (uCallB call_len_seq T.b_len (by decide +kernel) (uaCons (uv 4) (uaNil)))) (uaNil)))) (uaNil)))) (ubCons (usExpr (uBm PySem.F.plainAttrs_list PySem.F.slot_list_extend PySem.F.type_list_extend mt_extend (uv 1) (uaCons (uv 4) (uaNil)))) (ubNil))))) (ubCons (usForG rfl (uiRev T.b_reversed T.b_range (uaCons (uCallB call_len_seq T.b_len (by decide +kernel) (uaCons (uv 2) (uaNil))) (uaNil))) (ugName 3 sc_Zs.nd) (ubCons (usAsg (uIx ix_list (uv 2) (uv 3)) (ugTup rfl (ugsCons (ugName 5 sc_Zs.nd) (ugsCons (ugName 6 sc_Zs.nd) (ugsNil))))) (ubCons (usAsg (uCall f_Zp (hr.mono (by decide)) T.m_Zp T.f_Zp.kp T.n_Zp (uaCons (uIx ix_list (uv 1) (uv 3)) (uaCons (uSlc sl_list (uv 1) (uoSome (uv 5)) (uoSome (uv 6))) (uaNil)))) (ugSub (uv 1) (uv 3))) (ubNil))) PassesOwn.never) (ubCons (usRet (uIx ix_list (uv 1) (uInt))) (ubNil)))))) rd
def t_Zo (Pg:Program) (w:World) (K:W.Frag) (ad:Ad) (sp_Z6:Sp):TS :=
  tSeq (tIfS (tOr (tNot (L2.tB (tCB (rIsi1 K) (tCons (tVar 0) (tCons (tC (V.ty (tyS 5))) tNil))))) (tTest (tOp rNe (tCB (rLenSq K) (tCons (tVar 0) (tNil))) (tC (V.int 3))))) (tSeq (tRet (tC (V.bl false))) (tNext)) (tNext)) (tSeq (tAsg (tVar 0) (gTup K 3 (gCons (gName 1) (gCons (gName 2) (gCons (gName 3) (gNil)))))) (tSeq (tRet (tAndV (tCall sp_Z6 [] E0 (tCons (tVar 1) (tCons (tC (V.int 1)) (tCons (tC (V.int 9)) (tNil))))) (tAndV (tCall sp_Z6 [] E0 (tCons (tVar 2) (tCons (tC (V.int 1)) (tCons (tC (V.int 60)) (tNil))))) (tCall sp_Z6 [] E0 (tCons (tVar 3) (tCons (tC (V.int 1)) (tCons (tC (V.int 60)) (tNil)))))))) (tNext)))
theorem ok_Zo {sp sp_Z6:Sp} (T:Txt Pg w K mg base ad)
    (f_Z6:FnOk Pg w K mg base CX0 (2+1) ad.a_Z6 ad.d_Z6 ps_Z6 sp_Z6)
    (len:∀ vs H Q E,sp vs H Q E→vs.length=ps_Zo.length) (rd:∀ vs H Q E,sp vs H Q E→t_Zo Pg w K ad sp_Z6 { nx:=fun _ H'=>Q .non H',rt:=Q } (start ns_Zo vs) H):FnOk Pg w K mg base CX0 (4+1) ad.a_Zo ad.d_Zo ps_Zo sp :=
  uFn (t:=t_Zo Pg w K ad sp_Z6) T.f_Zo sc_Zo len (fun cdv A outer s H E hr=>have hu:=hr.units;let ⟨_,k_LONGEST_REST⟩:=T.k_LONGEST_REST;let ⟨_,k_MOST_LET_BY⟩:=T.k_MOST_LET_BY;let ⟨_,k_WIDEST⟩:=T.k_WIDEST;ubCons (usIf (uW (uOr (utNot (uTv (uuIsi (cc:=5) (by decide) (by decide) rfl T.b_isinstance T.b_tuple (uv 0)))) (uOr1 (utCmp op_ne (uCallB call_len_seq T.b_len (by decide +kernel) (uaCons (uv 0) (uaNil))) (uInt) (nomark _))))) (ubCons (usRet (uBl)) (ubNil)) (ubNil)) (ubCons (usAsg (uv 0) (ugTup rfl (ugsCons (ugName 1 sc_Zo.nd) (ugsCons (ugName 2 sc_Zo.nd) (ugsCons (ugName 3 sc_Zo.nd) (ugsNil)))))) (ubCons (usRet (uAndV (uCall f_Z6 (hr.mono (by decide)) T.m_Z6 T.f_Z6.kp T.n_Z6 (uaCons (uv 1) (uaCons (uInt) (uaCons (uGlob (v:=V.int 9) k_MOST_LET_BY ⟨_,rfl⟩) (uaNil))))) (uAndV (uCall f_Z6 (hr.mono (by decide)) T.m_Z6 T.f_Z6.kp T.n_Z6 (uaCons (uv 2) (uaCons (uInt) (uaCons (uGlob (v:=V.int 60) k_WIDEST ⟨_,rfl⟩) (uaNil))))) (uOneV (uCall f_Z6 (hr.mono (by decide)) T.m_Z6 T.f_Z6.kp T.n_Z6 (uaCons (uv 3) (uaCons (uInt) (uaCons (uGlob (v:=V.int 60) k_LONGEST_REST ⟨_,rfl⟩) (uaNil))))))))) (ubNil)))) rd
def t_Zq (Pg:Program) (w:World) (K:W.Frag) (ad:Ad) (sp_Z6:Sp) (sp_Zg:Sp) (sp_Z9:Sp) (sp_Zo:Sp):TS :=
  tSeq (tIfS (tOr (tNot (L2.tB (tCB (rIsi1 K) (tCons (tVar 0) (tCons (tC (V.ty (tyS 5))) tNil))))) (tTest (tOp rNe (tCB (rLenSq K) (tCons (tVar 0) (tNil))) (tC (V.int 5))))) (tSeq (tRet (tC (V.bl false))) (tNext)) (tNext)) (tSeq (tAsg (tVar 0) (gTup K 5 (gCons (gName 1) (gCons (gName 2) (gCons (gName 3) (gCons (gName 4) (gCons (gName 5) (gNil)))))))) (tSeq (tIfS (tOr (tNot (L2.tB (tCall sp_Zg [] E0 (tCons (tVar 1) (tNil))))) (tOr (tNot (L2.tB (tCall sp_Z6 [] E0 (tCons (tVar 2) (tCons (tC (V.int 1)) (tCons (tC (V.int 99)) (tNil))))))) (tNot (L2.tB (tCB (rIsi1 K) (tCons (tVar 3) (tCons (tC (V.ty (tyS 1))) tNil))))))) (tSeq (tRet (tC (V.bl false))) (tNext)) (tNext)) (tSeq (tRet (tAndV (tCall sp_Zo [] E0 (tCons (tVar 4) (tNil))) (tCall sp_Z9 [] E0 (tCons (tVar 5) (tNil))))) (tNext))))
theorem ok_Zq {sp sp_Z6 sp_Zg sp_Z9 sp_Zo:Sp} (T:Txt Pg w K mg base ad)
    (f_Z6:FnOk Pg w K mg base CX0 (2+1) ad.a_Z6 ad.d_Z6 ps_Z6 sp_Z6)
    (f_Zg:FnOk Pg w K mg base CX0 (2+1) ad.a_Zg ad.d_Zg ps_Zg sp_Zg)
    (f_Z9:FnOk Pg w K mg base CX0 (6+1) ad.a_Z9 ad.d_Z9 ps_Z9 sp_Z9)
    (f_Zo:FnOk Pg w K mg base CX0 (4+1) ad.a_Zo ad.d_Zo ps_Zo sp_Zo)
    (len:∀ vs H Q E,sp vs H Q E→vs.length=ps_Zq.length) (rd:∀ vs H Q E,sp vs H Q E→t_Zq Pg w K ad sp_Z6 sp_Zg sp_Z9 sp_Zo { nx:=fun _ H'=>Q .non H',rt:=Q } (start ns_Zq vs) H):FnOk Pg w K mg base CX0 (8+1) ad.a_Zq ad.d_Zq ps_Zq sp :=
  uFn (t:=t_Zq Pg w K ad sp_Z6 sp_Zg sp_Z9 sp_Zo) T.f_Zq sc_Zq len (fun cdv A outer s H E hr=>have hu:=hr.units;let ⟨_,k_MOST_RANK⟩:=T.k_MOST_RANK;ubCons (usIf (uW (uOr (utNot (uTv (uuIsi (cc:=5) (by decide) (by decide) rfl T.b_isinstance T.b_tuple (uv 0)))) (uOr1 (utCmp op_ne (uCallB call_len_seq T.b_len (by decide +kernel) (uaCons (uv 0) (uaNil))) (uInt) (nomark _))))) (ubCons (usRet (uBl)) (ubNil)) (ubNil)) (ubCons (usAsg (uv 0) (ugTup rfl (ugsCons (ugName 1 sc_Zq.nd) (ugsCons (ugName 2 sc_Zq.nd) (ugsCons (ugName 3 sc_Zq.nd) (ugsCons (ugName 4 sc_Zq.nd) (ugsCons (ugName 5 sc_Zq.nd) (ugsNil)))))))) (ubCons (usIf (uW (uOr (utNot (uTv (uCall f_Zg (hr.mono (by decide)) T.m_Zg T.f_Zg.kp T.n_Zg (uaCons (uv 1) (uaNil))))) (uOr (utNot (uTv (uCall f_Z6 (hr.mono (by decide)) T.m_Z6 T.f_Z6.kp T.n_Z6 (uaCons (uv 2) (uaCons (uInt) (uaCons (uGlob (v:=V.int 99) k_MOST_RANK ⟨_,rfl⟩) (uaNil))))))) (uOr1 (utNot (uTv (uuIsi (cc:=1) (by decide) (by decide) rfl T.b_isinstance T.b_bool (uv 3)))))))) (ubCons (usRet (uBl)) (ubNil)) (ubNil)) (ubCons (usRet (uAndV (uCall f_Zo (hr.mono (by decide)) T.m_Zo T.f_Zo.kp T.n_Zo (uaCons (uv 4) (uaNil))) (uOneV (uCall f_Z9 (hr.mono (by decide)) T.m_Z9 T.f_Z9.kp T.n_Z9 (uaCons (uv 5) (uaNil)))))) (ubNil))))) rd
def t_Zk (Pg:Program) (w:World) (K:W.Frag) (ad:Ad) (sp_Zg:Sp) (sp_Z9:Sp):TS :=
  tSeq (tRet (tAndV (tCB (rIsi1 K) (tCons (tVar 0) (tCons (tC (V.ty (tyS 5))) tNil))) (tAndV (tOp rEq (tCB (rLenSq K) (tCons (tVar 0) (tNil))) (tC (V.int 2))) (tAndV (tCall sp_Zg [] E0 (tCons (tOp (rIxT K) (tVar 0) (tC (V.int 0))) (tNil))) (tCall sp_Z9 [] E0 (tCons (tOp (rIxT K) (tVar 0) (tC (V.int 1))) (tNil))))))) (tNext)
theorem ok_Zk {sp sp_Zg sp_Z9:Sp} (T:Txt Pg w K mg base ad)
    (f_Zg:FnOk Pg w K mg base CX0 (2+1) ad.a_Zg ad.d_Zg ps_Zg sp_Zg)
    (f_Z9:FnOk Pg w K mg base CX0 (6+1) ad.a_Z9 ad.d_Z9 ps_Z9 sp_Z9)
    (len:∀ vs H Q E,sp vs H Q E→vs.length=ps_Zk.length) (rd:∀ vs H Q E,sp vs H Q E→t_Zk Pg w K ad sp_Zg sp_Z9 { nx:=fun _ H'=>Q .non H',rt:=Q } (start ns_Zk vs) H):FnOk Pg w K mg base CX0 (8+1) ad.a_Zk ad.d_Zk ps_Zk sp :=
  uFn (t:=t_Zk Pg w K ad sp_Zg sp_Z9) T.f_Zk sc_Zk len (fun cdv A outer s H E hr=>have hu:=hr.units;ubCons (usRet (uAndV (uuIsi (cc:=5) (by decide) (by decide) rfl T.b_isinstance T.b_tuple (uv 0)) (uAndV (uCmp op_eq (uCallB call_len_seq T.b_len (by decide +kernel) (uaCons (uv 0) (uaNil))) (uInt) (nomark _)) (uAndV (uCall f_Zg (hr.mono (by decide)) T.m_Zg T.f_Zg.kp T.n_Zg (uaCons (uIx ix_tup (uv 0) (uInt)) (uaNil))) (uOneV (uCall f_Z9 (hr.mono (by decide)) T.m_Z9 T.f_Z9.kp T.n_Z9 (uaCons (uIx ix_tup (uv 0) (uInt)) (uaNil)))))))) (ubNil)) rd
def t_Zi (Pg:Program) (w:World) (K:W.Frag) (ad:Ad) (sp_Z6:Sp) (sp_Zg:Sp) (sp_Z9:Sp):TS :=
  tSeq (tIfS (tOr (tNot (L2.tB (tCB (rIsi1 K) (tCons (tVar 0) (tCons (tC (V.ty (tyS 5))) tNil))))) (tTest (tOp rNe (tCB (rLenSq K) (tCons (tVar 0) (tNil))) (tC (V.int 3))))) (tSeq (tRet (tC (V.bl false))) (tNext)) (tNext)) (tSeq (tAsg (tVar 0) (gTup K 3 (gCons (gName 1) (gCons (gName 2) (gCons (gName 3) (gNil)))))) (tSeq (tRet (tAndV (tCall sp_Zg [] E0 (tCons (tVar 1) (tNil))) (tAndV (tCall sp_Z6 [] E0 (tCons (tVar 2) (tCons (tC (V.int 1)) (tCons (tC (V.int 99)) (tNil))))) (tCall sp_Z9 [] E0 (tCons (tVar 3) (tNil)))))) (tNext)))
theorem ok_Zi {sp sp_Z6 sp_Zg sp_Z9:Sp} (T:Txt Pg w K mg base ad)
    (f_Z6:FnOk Pg w K mg base CX0 (2+1) ad.a_Z6 ad.d_Z6 ps_Z6 sp_Z6)
    (f_Zg:FnOk Pg w K mg base CX0 (2+1) ad.a_Zg ad.d_Zg ps_Zg sp_Zg)
    (f_Z9:FnOk Pg w K mg base CX0 (6+1) ad.a_Z9 ad.d_Z9 ps_Z9 sp_Z9)
    (len:∀ vs H Q E,sp vs H Q E→vs.length=ps_Zi.length) (rd:∀ vs H Q E,sp vs H Q E→t_Zi Pg w K ad sp_Z6 sp_Zg sp_Z9 { nx:=fun _ H'=>Q .non H',rt:=Q } (start ns_Zi vs) H):FnOk Pg w K mg base CX0 (8+1) ad.a_Zi ad.d_Zi ps_Zi sp :=
  uFn (t:=t_Zi Pg w K ad sp_Z6 sp_Zg sp_Z9) T.f_Zi sc_Zi len (fun cdv A outer s H E hr=>have hu:=hr.units;let ⟨_,k_MOST_RANK⟩:=T.k_MOST_RANK;ubCons (usIf (uW (uOr (utNot (uTv (uuIsi (cc:=5) (by decide) (by decide) rfl T.b_isinstance T.b_tuple (uv 0)))) (uOr1 (utCmp op_ne (uCallB call_len_seq T.b_len (by decide +kernel) (uaCons (uv 0) (uaNil))) (uInt) (nomark _))))) (ubCons (usRet (uBl)) (ubNil)) (ubNil)) (ubCons (usAsg (uv 0) (ugTup rfl (ugsCons (ugName 1 sc_Zi.nd) (ugsCons (ugName 2 sc_Zi.nd) (ugsCons (ugName 3 sc_Zi.nd) (ugsNil)))))) (ubCons (usRet (uAndV (uCall f_Zg (hr.mono (by decide)) T.m_Zg T.f_Zg.kp T.n_Zg (uaCons (uv 1) (uaNil))) (uAndV (uCall f_Z6 (hr.mono (by decide)) T.m_Z6 T.f_Z6.kp T.n_Z6 (uaCons (uv 2) (uaCons (uInt) (uaCons (uGlob (v:=V.int 99) k_MOST_RANK ⟨_,rfl⟩) (uaNil))))) (uOneV (uCall f_Z9 (hr.mono (by decide)) T.m_Z9 T.f_Z9.kp T.n_Z9 (uaCons (uv 3) (uaNil))))))) (ubNil)))) rd
def t_Zh (Pg:Program) (w:World) (K:W.Frag) (ad:Ad):TS :=
  tSeq (tRet (tAndV (tCB (rIsi2 K) (tCons (tVar 0) (tCons (tTup (tCons (tC (V.ty (tyS 4))) (tCons (tC (V.ty (tyS 5))) tNil))) tNil))) (tChain (rI0 fun i j=>.bl (decide (i≤j))) (rI0 fun i j=>.bl (decide (i≤j))) (tVar 1) (tCB (rLenSq K) (tCons (tVar 0) (tNil))) (tVar 2)))) (tNext)
theorem ok_Zh {sp:Sp} (T:Txt Pg w K mg base ad)
    (len:∀ vs H Q E,sp vs H Q E→vs.length=ps_Zh.length) (rd:∀ vs H Q E,sp vs H Q E→t_Zh Pg w K ad { nx:=fun _ H'=>Q .non H',rt:=Q } (start ns_Zh vs) H):FnOk Pg w K mg base CX0 (2+1) ad.a_Zh ad.d_Zh ps_Zh sp :=
  uFn (t:=t_Zh Pg w K ad) T.f_Zh sc_Zh len (fun cdv A outer s H E hr=>have hu:=hr.units;ubCons (usRet (uAndV (uuIsi2 (c1:=4) (c2:=5) (by decide) (by decide) (by decide) (by decide) rfl rfl T.b_isinstance T.b_list T.b_tuple (uv 0)) (uOneV (uChain op_le op_le (uv 1) (uCallB call_len_seq T.b_len (by decide +kernel) (uaCons (uv 0) (uaNil))) (uv 2))))) (ubNil)) rd
def t_Z5 (Pg:Program) (w:World) (K:W.Frag) (ad:Ad):TS :=
  tSeq (tRet (tOp rEq (tCB (rLenS Pg w) (tCons (tSc Pg w (iSq K (tVar 0)) (gName 2) (tYes) (tOp (rIxT K) (tVar 2) (tVar 1)) [2]) (tNil))) (tCB (rLenSq K) (tCons (tVar 0) (tNil))))) (tNext)
theorem ok_Z5 {sp:Sp} (T:Txt Pg w K mg base ad)
    (len:∀ vs H Q E,sp vs H Q E→vs.length=ps_Z5.length) (rd:∀ vs H Q E,sp vs H Q E→t_Z5 Pg w K ad { nx:=fun _ H'=>Q .non H',rt:=Q } (start ns_Z5 vs) H):FnOk Pg w K mg base CX0 (2+1) ad.a_Z5 ad.d_Z5 ps_Z5 sp :=
  uFn (t:=t_Z5 Pg w K ad) T.f_Z5 sc_Z5 len (fun cdv A outer s H E hr=>have hu:=hr.units;ubCons (usRet (uCmp op_eq (uCallB call_lenS T.b_len (by decide +kernel) (uaCons (uScG rfl sc_Z5.nd (uiSeq (uv 0)) (blkOk_by (own:=[("row",2)]) (N:=ns_Z5) (by kernel_rfl)) (fun _ _ _ _ _=>ugName 2 sc_Z5.nd) (fun _ _ _ _ _=>utsNil) (fun _ _ _ _ _=>uIx ix_tup (uv 2) (uv 1))) (uaNil))) (uCallB call_len_seq T.b_len (by decide +kernel) (uaCons (uv 0) (uaNil))) (nomark _))) (ubNil)) rd
def t_Zf (Pg:Program) (w:World) (K:W.Frag) (ad:Ad) (sp_Zq:Sp) (sp_Zh:Sp) (sp_Z5:Sp):TS :=
  tSeq (tIfS (tOr (tNot (L2.tB (tCall sp_Zh [] E0 (tCons (tVar 0) (tCons (tC (V.int 1)) (tCons (tC (V.int 5)) (tNil))))))) (tNot (L2.tB (tCB (rAll K) (tCons (tLc (iSq K (tVar 0)) (gName 1) (tYes) (tCall sp_Zq [] E0 (tCons (tVar 1) (tNil))) [1]) (tNil)))))) (tSeq (tRet (tC (V.bl false))) (tNext)) (tNext)) (tSeq (tRet (tAndV (tCall sp_Z5 [] E0 (tCons (tVar 0) (tCons (tC (V.int 0)) (tNil)))) (tCall sp_Z5 [] E0 (tCons (tVar 0) (tCons (tC (V.int 1)) (tNil)))))) (tNext))
theorem ok_Zf {sp sp_Zq sp_Zh sp_Z5:Sp} (T:Txt Pg w K mg base ad)
    (f_Zq:FnOk Pg w K mg base CX0 (8+1) ad.a_Zq ad.d_Zq ps_Zq sp_Zq)
    (f_Zh:FnOk Pg w K mg base CX0 (2+1) ad.a_Zh ad.d_Zh ps_Zh sp_Zh)
    (f_Z5:FnOk Pg w K mg base CX0 (2+1) ad.a_Z5 ad.d_Z5 ps_Z5 sp_Z5)
    (len:∀ vs H Q E,sp vs H Q E→vs.length=ps_Zf.length) (rd:∀ vs H Q E,sp vs H Q E→t_Zf Pg w K ad sp_Zq sp_Zh sp_Z5 { nx:=fun _ H'=>Q .non H',rt:=Q } (start ns_Zf vs) H):FnOk Pg w K mg base CX0 (10+1) ad.a_Zf ad.d_Zf ps_Zf sp :=
  uFn (t:=t_Zf Pg w K ad sp_Zq sp_Zh sp_Z5) T.f_Zf sc_Zf len (fun cdv A outer s H E hr=>have hu:=hr.units;let ⟨_,k_MOST_LINES⟩:=T.k_MOST_LINES;ubCons (usIf (uW (uOr (utNot (uTv (uCall f_Zh (hr.mono (by decide)) T.m_Zh T.f_Zh.kp T.n_Zh (uaCons (uv 0) (uaCons (uInt) (uaCons (uGlob (v:=V.int 5) k_MOST_LINES ⟨_,rfl⟩) (uaNil))))))) (uOr1 (utNot (uTv (uCallB (cr_all rfl) T.b_all (by decide +kernel) (uaCons (uLcG rfl sc_Zf.nd (uiSeq (uv 0)) (blkOk_by (own:=[("row",1)]) (N:=ns_Zf) (by kernel_rfl)) (fun _ _ _ _ _=>ugName 1 sc_Zf.nd) (fun _ _ _ _ _=>utsNil) (fun _ _ _ _ _=>uCall f_Zq (hr.mono (by decide)) T.m_Zq T.f_Zq.kp T.n_Zq (uaCons (uv 1) (uaNil)))) (uaNil)))))))) (ubCons (usRet (uBl)) (ubNil)) (ubNil)) (ubCons (usRet (uAndV (uCall f_Z5 (hr.mono (by decide)) T.m_Z5 T.f_Z5.kp T.n_Z5 (uaCons (uv 0) (uaCons (uInt) (uaNil)))) (uOneV (uCall f_Z5 (hr.mono (by decide)) T.m_Z5 T.f_Z5.kp T.n_Z5 (uaCons (uv 0) (uaCons (uInt) (uaNil))))))) (ubNil))) rd
def t_Z7 (Pg:Program) (w:World) (K:W.Frag) (ad:Ad) (sp_Zk:Sp) (sp_Zh:Sp) (sp_Z5:Sp):TS :=
  tSeq (tIfS (tOr (tNot (L2.tB (tCall sp_Zh [] E0 (tCons (tVar 0) (tCons (tC (V.int 0)) (tCons (tC (V.int 4)) (tNil))))))) (tNot (L2.tB (tCB (rAll K) (tCons (tLc (iSq K (tVar 0)) (gName 1) (tYes) (tCall sp_Zk [] E0 (tCons (tVar 1) (tNil))) [1]) (tNil)))))) (tSeq (tRet (tC (V.bl false))) (tNext)) (tNext)) (tSeq (tRet (tCall sp_Z5 [] E0 (tCons (tVar 0) (tCons (tC (V.int 0)) (tNil))))) (tNext))
theorem ok_Z7 {sp sp_Zk sp_Zh sp_Z5:Sp} (T:Txt Pg w K mg base ad)
    (f_Zk:FnOk Pg w K mg base CX0 (8+1) ad.a_Zk ad.d_Zk ps_Zk sp_Zk)
    (f_Zh:FnOk Pg w K mg base CX0 (2+1) ad.a_Zh ad.d_Zh ps_Zh sp_Zh)
    (f_Z5:FnOk Pg w K mg base CX0 (2+1) ad.a_Z5 ad.d_Z5 ps_Z5 sp_Z5)
    (len:∀ vs H Q E,sp vs H Q E→vs.length=ps_Z7.length) (rd:∀ vs H Q E,sp vs H Q E→t_Z7 Pg w K ad sp_Zk sp_Zh sp_Z5 { nx:=fun _ H'=>Q .non H',rt:=Q } (start ns_Z7 vs) H):FnOk Pg w K mg base CX0 (10+1) ad.a_Z7 ad.d_Z7 ps_Z7 sp :=
  uFn (t:=t_Z7 Pg w K ad sp_Zk sp_Zh sp_Z5) T.f_Z7 sc_Z7 len (fun cdv A outer s H E hr=>have hu:=hr.units;let ⟨_,k_MOST_BOTTOMS⟩:=T.k_MOST_BOTTOMS;ubCons (usIf (uW (uOr (utNot (uTv (uCall f_Zh (hr.mono (by decide)) T.m_Zh T.f_Zh.kp T.n_Zh (uaCons (uv 0) (uaCons (uInt) (uaCons (uGlob (v:=V.int 4) k_MOST_BOTTOMS ⟨_,rfl⟩) (uaNil))))))) (uOr1 (utNot (uTv (uCallB (cr_all rfl) T.b_all (by decide +kernel) (uaCons (uLcG rfl sc_Z7.nd (uiSeq (uv 0)) (blkOk_by (own:=[("row",1)]) (N:=ns_Z7) (by kernel_rfl)) (fun _ _ _ _ _=>ugName 1 sc_Z7.nd) (fun _ _ _ _ _=>utsNil) (fun _ _ _ _ _=>uCall f_Zk (hr.mono (by decide)) T.m_Zk T.f_Zk.kp T.n_Zk (uaCons (uv 1) (uaNil)))) (uaNil)))))))) (ubCons (usRet (uBl)) (ubNil)) (ubNil)) (ubCons (usRet (uCall f_Z5 (hr.mono (by decide)) T.m_Z5 T.f_Z5.kp T.n_Z5 (uaCons (uv 0) (uaCons (uInt) (uaNil))))) (ubNil))) rd
def t_Z8 (Pg:Program) (w:World) (K:W.Frag) (ad:Ad) (sp_Zi:Sp) (sp_Zh:Sp) (sp_Z5:Sp):TS :=
  tSeq (tIfS (tOr (tNot (L2.tB (tCall sp_Zh [] E0 (tCons (tVar 0) (tCons (tC (V.int 0)) (tCons (tC (V.int 4)) (tNil))))))) (tNot (L2.tB (tCB (rAll K) (tCons (tLc (iSq K (tVar 0)) (gName 1) (tYes) (tCall sp_Zi [] E0 (tCons (tVar 1) (tNil))) [1]) (tNil)))))) (tSeq (tRet (tC (V.bl false))) (tNext)) (tNext)) (tSeq (tRet (tAndV (tCall sp_Z5 [] E0 (tCons (tVar 0) (tCons (tC (V.int 0)) (tNil)))) (tCall sp_Z5 [] E0 (tCons (tVar 0) (tCons (tC (V.int 1)) (tNil)))))) (tNext))
theorem ok_Z8 {sp sp_Zi sp_Zh sp_Z5:Sp} (T:Txt Pg w K mg base ad)
    (f_Zi:FnOk Pg w K mg base CX0 (8+1) ad.a_Zi ad.d_Zi ps_Zi sp_Zi)
    (f_Zh:FnOk Pg w K mg base CX0 (2+1) ad.a_Zh ad.d_Zh ps_Zh sp_Zh)
    (f_Z5:FnOk Pg w K mg base CX0 (2+1) ad.a_Z5 ad.d_Z5 ps_Z5 sp_Z5)
    (len:∀ vs H Q E,sp vs H Q E→vs.length=ps_Z8.length) (rd:∀ vs H Q E,sp vs H Q E→t_Z8 Pg w K ad sp_Zi sp_Zh sp_Z5 { nx:=fun _ H'=>Q .non H',rt:=Q } (start ns_Z8 vs) H):FnOk Pg w K mg base CX0 (10+1) ad.a_Z8 ad.d_Z8 ps_Z8 sp :=
  uFn (t:=t_Z8 Pg w K ad sp_Zi sp_Zh sp_Z5) T.f_Z8 sc_Z8 len (fun cdv A outer s H E hr=>have hu:=hr.units;let ⟨_,k_MOST_THREADS⟩:=T.k_MOST_THREADS;ubCons (usIf (uW (uOr (utNot (uTv (uCall f_Zh (hr.mono (by decide)) T.m_Zh T.f_Zh.kp T.n_Zh (uaCons (uv 0) (uaCons (uInt) (uaCons (uGlob (v:=V.int 4) k_MOST_THREADS ⟨_,rfl⟩) (uaNil))))))) (uOr1 (utNot (uTv (uCallB (cr_all rfl) T.b_all (by decide +kernel) (uaCons (uLcG rfl sc_Z8.nd (uiSeq (uv 0)) (blkOk_by (own:=[("row",1)]) (N:=ns_Z8) (by kernel_rfl)) (fun _ _ _ _ _=>ugName 1 sc_Z8.nd) (fun _ _ _ _ _=>utsNil) (fun _ _ _ _ _=>uCall f_Zi (hr.mono (by decide)) T.m_Zi T.f_Zi.kp T.n_Zi (uaCons (uv 1) (uaNil)))) (uaNil)))))))) (ubCons (usRet (uBl)) (ubNil)) (ubNil)) (ubCons (usRet (uAndV (uCall f_Z5 (hr.mono (by decide)) T.m_Z5 T.f_Z5.kp T.n_Z5 (uaCons (uv 0) (uaCons (uInt) (uaNil)))) (uOneV (uCall f_Z5 (hr.mono (by decide)) T.m_Z5 T.f_Z5.kp T.n_Z5 (uaCons (uv 0) (uaCons (uInt) (uaNil))))))) (ubNil))) rd
def t_Ze (Pg:Program) (w:World) (K:W.Frag) (ad:Ad) (sp_Zj:Sp):TS :=
  tSeq (tAsg (tLst (tNil)) (gName 3)) (tSeq (tFor (iList K (tLst (tStar K (tVar 0) (tStar K (tVar 1) (tStar K (tVar 2) (tNil)))))) (gName 4) (tSeq (tDrop (tBM K "list" rExtend (tVar 3) (tCons (tOp (rIxT K) (tVar 4) (tUn (rU fun i=>.int (-i)) (tC (V.int 1)))) (tNil)))) (tNext))) (tSeq (tFor (iTup K (tTup (tCons (tTup (tCons (tC (V.str "answer")) (tCons (tVar 0) (tNil)))) (tCons (tTup (tCons (tC (V.str "later")) (tCons (tVar 1) (tNil)))) (tCons (tTup (tCons (tC (V.str "wake")) (tCons (tVar 2) (tNil)))) (tNil)))))) (gTup K 2 (gCons (gName 5) (gCons (gName 6) (gNil)))) (tSeq (tAsg (tLc (iSq K (tVar 6)) (gName 4) (tYes) (tOp (rIxT K) (tVar 4) (tC (V.int 0))) [4]) (gName 7)) (tSeq (tIfS (tNot (L2.tB (tCB (rAll K) (tCons (tLc (iList K (tCall sp_Zj [] E0 (tCons (tVar 3) (tCons (tVar 5) (tNil))))) (gName 8) (tYes) (tOp (rIn K false) (tVar 8) (tVar 7)) [8]) (tNil))))) (tSeq (tRet (tC (V.bl false))) (tNext)) (tNext)) (tNext)))) (tSeq (tRet (tC (V.bl true))) (tNext))))
theorem ok_Ze {sp sp_Zj:Sp} (T:Txt Pg w K mg base ad)
    (f_Zj:FnOk Pg w K mg base CX0 (2+1) ad.a_Zj ad.d_Zj ps_Zj sp_Zj)
    (len:∀ vs H Q E,sp vs H Q E→vs.length=ps_Ze.length) (rd:∀ vs H Q E,sp vs H Q E→t_Ze Pg w K ad sp_Zj { nx:=fun _ H'=>Q .non H',rt:=Q } (start ns_Ze vs) H):FnOk Pg w K mg base CX0 (4+1) ad.a_Ze ad.d_Ze ps_Ze sp :=
  uFn (t:=t_Ze Pg w K ad sp_Zj) T.f_Ze sc_Ze len (fun cdv A outer s H E hr=>have hu:=hr.units;ubCons (usSet 3 sc_Ze.nd (uLst (uaNil))) (ubCons (usForG rfl (uiLst (uLst (uaStar (uv 0) (uaStar (uv 1) (uaStar (uv 2) (uaNil)))))) (ugName 4 sc_Ze.nd) (ubCons (usExpr (uBm PySem.F.plainAttrs_list PySem.F.slot_list_extend PySem.F.type_list_extend mt_extend (uv 3) (uaCons (uIx ix_tup (uv 4) (uUn un_neg (uInt))) (uaNil)))) (ubNil)) PassesOwn.never) (ubCons (usForG rfl (uiTup (uTup (uaCons (uTup (uaCons (uStr) (uaCons (uv 0) (uaNil)))) (uaCons (uTup (uaCons (uStr) (uaCons (uv 1) (uaNil)))) (uaCons (uTup (uaCons (uStr) (uaCons (uv 2) (uaNil)))) (uaNil)))))) (ugTup rfl (ugsCons (ugName 5 sc_Ze.nd) (ugsCons (ugName 6 sc_Ze.nd) (ugsNil)))) (ubCons (usSet 7 sc_Ze.nd (uLcG rfl sc_Ze.nd (uiSeq (uv 6)) (blkOk_by (own:=[("row",4)]) (N:=ns_Ze) (by kernel_rfl)) (fun _ _ _ _ _=>ugName 4 sc_Ze.nd) (fun _ _ _ _ _=>utsNil) (fun _ _ _ _ _=>uIx ix_tup (uv 4) (uInt)))) (ubCons (usIf (utNot (uTv (uCallB (cr_all rfl) T.b_all (by decide +kernel) (uaCons (uLcG rfl sc_Ze.nd (uiLst (uCall f_Zj (hr.mono (by decide)) T.m_Zj T.f_Zj.kp T.n_Zj (uaCons (uv 3) (uaCons (uv 5) (uaNil))))) (blkOk_by (own:=[("name",8)]) (N:=ns_Ze) (by kernel_rfl)) (fun _ _ _ _ _=>ugName 8 sc_Ze.nd) (fun _ _ _ _ _=>utsNil) (fun _ _ _ _ _=>uCmp op_in_seq (uv 8) (uv 7) (by with_unfolding_all rfl))) (uaNil))))) (ubCons (usRet (uBl)) (ubNil)) (ubNil)) (ubNil))) PassesOwn.never) (ubCons (usRet (uBl)) (ubNil))))) rd
def t_Zd (Pg:Program) (w:World) (K:W.Frag) (ad:Ad) (sp_Zs:Sp) (sp_Zf:Sp) (sp_Z7:Sp) (sp_Z8:Sp) (sp_Ze:Sp):TS :=
  tSeq (tIfS (tNot (L2.tB (tCall sp_Zf [] E0 (tCons (tVar 1) (tNil))))) (tSeq (tNever) (tNext)) (tNext)) (tSeq (tIfS (tNot (L2.tB (tCall sp_Z7 [] E0 (tCons (tVar 2) (tNil))))) (tSeq (tNever) (tNext)) (tNext)) (tSeq (tIfS (tNot (L2.tB (tCall sp_Z8 [] E0 (tCons (tVar 3) (tNil))))) (tSeq (tNever) (tNext)) (tNext)) (tSeq (tIfS (tNot (L2.tB (tCall sp_Ze [] E0 (tCons (tVar 1) (tCons (tVar 2) (tCons (tVar 3) (tNil))))))) (tSeq (tNever) (tNext)) (tNext)) (tSeq (sFld K (tVar 0) (tCall sp_Zs [] E0 (tCons (tCB (rListOf K) (tCons (tVar 1) (tNil))) (tNil))) "line_rows") (tSeq (sFld K (tVar 0) (tCall sp_Zs [] E0 (tCons (tCB (rListOf K) (tCons (tVar 2) (tNil))) (tNil))) "bottom_rows") (tSeq (sFld K (tVar 0) (tCall sp_Zs [] E0 (tCons (tCB (rListOf K) (tCons (tVar 3) (tNil))) (tNil))) "thread_rows") (tNext)))))))
theorem ok_Zd {sp sp_Zs sp_Zf sp_Z7 sp_Z8 sp_Ze:Sp} (T:Txt Pg w K mg base ad)
    (f_Zs:FnOk Pg w K mg base CX0 (4+1) ad.a_Zs ad.d_Zs ps_Zs sp_Zs)
    (f_Zf:FnOk Pg w K mg base CX0 (10+1) ad.a_Zf ad.d_Zf ps_Zf sp_Zf)
    (f_Z7:FnOk Pg w K mg base CX0 (10+1) ad.a_Z7 ad.d_Z7 ps_Z7 sp_Z7)
    (f_Z8:FnOk Pg w K mg base CX0 (10+1) ad.a_Z8 ad.d_Z8 ps_Z8 sp_Z8)
    (f_Ze:FnOk Pg w K mg base CX0 (4+1) ad.a_Ze ad.d_Ze ps_Ze sp_Ze)
    (len:∀ vs H Q E,sp vs H Q E→vs.length=ps_Zd.length) (rd:∀ vs H Q E,sp vs H Q E→t_Zd Pg w K ad sp_Zs sp_Zf sp_Z7 sp_Z8 sp_Ze { nx:=fun _ H'=>Q .non H',rt:=Q } (start ns_Zd vs) H):FnOk Pg w K mg base CX0 (12+1) ad.a_Zd ad.d_Zd ps_Zd sp :=
  uFn (t:=t_Zd Pg w K ad sp_Zs sp_Zf sp_Z7 sp_Z8 sp_Ze) T.f_Zd sc_Zd len (fun cdv A outer s H E hr=>have hu:=hr.units;ubCons (usIf (utNot (uTv (uCall f_Zf (hr.mono (by decide)) T.m_Zf T.f_Zf.kp T.n_Zf (uaCons (uv 1) (uaNil))))) (ubCons (usNever) (ubNil)) (ubNil)) (ubCons (usIf (utNot (uTv (uCall f_Z7 (hr.mono (by decide)) T.m_Z7 T.f_Z7.kp T.n_Z7 (uaCons (uv 2) (uaNil))))) (ubCons (usNever) (ubNil)) (ubNil)) (ubCons (usIf (utNot (uTv (uCall f_Z8 (hr.mono (by decide)) T.m_Z8 T.f_Z8.kp T.n_Z8 (uaCons (uv 3) (uaNil))))) (ubCons (usNever) (ubNil)) (ubNil)) (ubCons (usIf (utNot (uTv (uCall f_Ze (hr.mono (by decide)) T.m_Ze T.f_Ze.kp T.n_Ze (uaCons (uv 1) (uaCons (uv 2) (uaCons (uv 3) (uaNil))))))) (ubCons (usNever) (ubNil)) (ubNil)) (ubCons (usFld (uv 0) (uCall f_Zs (hr.mono (by decide)) T.m_Zs T.f_Zs.kp T.n_Zs (uaCons (uCallTy call_list_of T.b_list (by decide +kernel) (uaCons (uv 1) (uaNil))) (uaNil)))) (ubCons (usFld (uv 0) (uCall f_Zs (hr.mono (by decide)) T.m_Zs T.f_Zs.kp T.n_Zs (uaCons (uCallTy call_list_of T.b_list (by decide +kernel) (uaCons (uv 2) (uaNil))) (uaNil)))) (ubCons (usFld (uv 0) (uCall f_Zs (hr.mono (by decide)) T.m_Zs T.f_Zs.kp T.n_Zs (uaCons (uCallTy call_list_of T.b_list (by decide +kernel) (uaCons (uv 3) (uaNil))) (uaNil)))) (ubNil)))))))) rd
def t_Zb (Pg:Program) (w:World) (K:W.Frag) (ad:Ad):TS :=
  tSeq (tIfS (tTest (tOp (rI0 fun i j=>.bl (decide (i < j))) (tVar 1) (tCB (rLenSq K) (tCons (tVar 0) (tNil))))) (tSeq (tRet (tOp (rIxL K) (tVar 0) (tVar 1))) (tNext)) (tNext)) (tSeq (tRet (tC (V.int 0))) (tNext))
theorem ok_Zb {sp:Sp} (T:Txt Pg w K mg base ad)
    (len:∀ vs H Q E,sp vs H Q E→vs.length=ps_Zb.length) (rd:∀ vs H Q E,sp vs H Q E→t_Zb Pg w K ad { nx:=fun _ H'=>Q .non H',rt:=Q } (start ns_Zb vs) H):FnOk Pg w K mg base CX0 (2+1) ad.a_Zb ad.d_Zb ps_Zb sp :=
  uFn (t:=t_Zb Pg w K ad) T.f_Zb sc_Zb len (fun cdv A outer s H E hr=>have hu:=hr.units;ubCons (usIf (utCmp op_lt (uv 1) (uCallB call_len_seq T.b_len (by decide +kernel) (uaCons (uv 0) (uaNil))) (nomark _)) (ubCons (usRet (uIx ix_list (uv 0) (uv 1))) (ubNil)) (ubNil)) (ubCons (usRet (uInt)) (ubNil))) rd
def t_Zl (Pg:Program) (w:World) (K:W.Frag) (ad:Ad):TS :=
  tSeq (tAsg (tTup (tCons (tC (V.int 1000003)) (tCons (tC (V.int 1000033)) (tCons (tC (V.int 1000037)) (tCons (tC (V.int 1000039)) (tCons (tC (V.int 1000081)) (tCons (tC (V.int 1000099)) (tCons (tC (V.int 1000117)) (tCons (tC (V.int 1000121)) (tCons (tC (V.int 1000133)) (tCons (tC (V.int 1000151)) (tCons (tC (V.int 1000159)) (tCons (tC (V.int 1000171)) (tCons (tC (V.int 1000183)) (tCons (tC (V.int 1000187)) (tCons (tC (V.int 1000193)) (tCons (tC (V.int 1000199)) (tNil)))))))))))))))))) (gName 3)) (tSeq (tRet (tOp (rI (fun _ j=>0 < j) fun i j=>.int (i % j)) (tOp (rI (fun _ j=>0 < j) fun i j=>.int (i % j)) (tOp (rI0 fun i j=>.int (i+j)) (tOp (rI CMul fun i j=>.int (i * j)) (tVar 0) (tC (V.int 48271))) (tOp (rI CMul fun i j=>.int (i * j)) (tVar 1) (tC (V.int 69621)))) (tOp (rIxT K) (tVar 3) (tOp (rI (fun _ j=>0 < j) fun i j=>.int (i % j)) (tVar 1) (tC (V.int 16))))) (tVar 2))) (tNext))
theorem ok_Zl {sp:Sp} (T:Txt Pg w K mg base ad)
    (len:∀ vs H Q E,sp vs H Q E→vs.length=ps_Zl.length) (rd:∀ vs H Q E,sp vs H Q E→t_Zl Pg w K ad { nx:=fun _ H'=>Q .non H',rt:=Q } (start ns_Zl vs) H):FnOk Pg w K mg base CX0 (2+1) ad.a_Zl ad.d_Zl ps_Zl sp :=
  uFn (t:=t_Zl Pg w K ad) T.f_Zl sc_Zl len (fun cdv A outer s H E hr=>have hu:=hr.units;ubCons (usSet 3 sc_Zl.nd (uTup (uaCons (uInt) (uaCons (uInt) (uaCons (uInt) (uaCons (uInt) (uaCons (uInt) (uaCons (uInt) (uaCons (uInt) (uaCons (uInt) (uaCons (uInt) (uaCons (uInt) (uaCons (uInt) (uaCons (uInt) (uaCons (uInt) (uaCons (uInt) (uaCons (uInt) (uaCons (uInt) (uaNil))))))))))))))))))) (ubCons (usRet (uBin op_mod (uBin op_mod (uBin op_add (uBin op_mul (uv 0) (uInt)) (uBin op_mul (uv 1) (uInt))) (uIx ix_tup (uv 3) (uBin op_mod (uv 1) (uInt)))) (uv 2))) (ubNil))) rd
def t_Zc (Pg:Program) (w:World) (K:W.Frag) (ad:Ad) (sp_Zl:Sp):TS :=
  tSeq (tAsg (tOp (rI0 fun i j=>.int (i-j)) (tVar 0) (tOp (rI CPow fun i j=>.int (i ^ j.toNat)) (tC (V.int 10)) (tC (V.int 18)))) (gName 3)) (tSeq (tFor (iRng1 (tCons (tOp (rI (fun _ j=>0 < j) fun i j=>.int (i % j)) (tVar 1) (tC (V.int 24))) (tNil))) (gName 4) (tSeq (tAsg (tOp (rI CDiv fun i j=>.int (i / j)) (tVar 3) (tC (V.int 1009))) (gName 3)) (tNext))) (tSeq (tIfS (tTest (tOp (rI0 fun i j=>.bl (decide (j < i))) (tVar 3) (tC (V.int 0)))) (tSeq (tRet (tOp (rI (fun _ j=>0 < j) fun i j=>.int (i % j)) (tOp (rI (fun _ j=>0 < j) fun i j=>.int (i % j)) (tVar 3) (tC (V.int 1009))) (tVar 2))) (tNext)) (tNext)) (tSeq (tAsg (tOp (rI (fun _ j=>0 < j) fun i j=>.int (i % j)) (tVar 0) (tC (V.int 1000003))) (gName 5)) (tSeq (tRet (tOp (rI (fun _ j=>0 < j) fun i j=>.int (i % j)) (tCall sp_Zl [] E0 (tCons (tOp (rI CMul fun i j=>.int (i * j)) (tOp (rI0 fun i j=>.int (i+j)) (tVar 5) (tOp (rI CMul fun i j=>.int (i * j)) (tC (V.int 977)) (tVar 1))) (tOp (rI0 fun i j=>.int (i+j)) (tOp (rI0 fun i j=>.int (i+j)) (tVar 5) (tOp (rI CMul fun i j=>.int (i * j)) (tC (V.int 31)) (tVar 1))) (tC (V.int 5)))) (tCons (tOp (rI0 fun i j=>.int (i+j)) (tOp (rI (fun _ j=>0 < j) fun i j=>.int (i % j)) (tVar 1) (tC (V.int 9))) (tC (V.int 1))) (tCons (tC (V.int 999983)) (tNil))))) (tVar 2))) (tNext)))))
theorem ok_Zc {sp sp_Zl:Sp} (T:Txt Pg w K mg base ad)
    (f_Zl:FnOk Pg w K mg base CX0 (2+1) ad.a_Zl ad.d_Zl ps_Zl sp_Zl)
    (len:∀ vs H Q E,sp vs H Q E→vs.length=ps_Zc.length) (rd:∀ vs H Q E,sp vs H Q E→t_Zc Pg w K ad sp_Zl { nx:=fun _ H'=>Q .non H',rt:=Q } (start ns_Zc vs) H):FnOk Pg w K mg base CX0 (4+1) ad.a_Zc ad.d_Zc ps_Zc sp :=
  uFn (t:=t_Zc Pg w K ad sp_Zl) T.f_Zc sc_Zc len (fun cdv A outer s H E hr=>have hu:=hr.units;ubCons (usSet 3 sc_Zc.nd (uBin op_sub (uv 0) (uBin op_pow (uInt) (uInt)))) (ubCons (usForG rfl (uiRng T.b_range (uaCons (uBin op_mod (uv 1) (uInt)) (uaNil))) (ugName 4 sc_Zc.nd) (ubCons (usSet 3 sc_Zc.nd (uBin op_fdiv (uv 3) (uInt))) (ubNil)) PassesOwn.never) (ubCons (usIf (utCmp op_gt (uv 3) (uInt) (nomark _)) (ubCons (usRet (uBin op_mod (uBin op_mod (uv 3) (uInt)) (uv 2))) (ubNil)) (ubNil)) (ubCons (usSet 5 sc_Zc.nd (uBin op_mod (uv 0) (uInt))) (ubCons (usRet (uBin op_mod (uCall f_Zl (hr.mono (by decide)) T.m_Zl T.f_Zl.kp T.n_Zl (uaCons (uBin op_mul (uBin op_add (uv 5) (uBin op_mul (uInt) (uv 1))) (uBin op_add (uBin op_add (uv 5) (uBin op_mul (uInt) (uv 1))) (uInt))) (uaCons (uBin op_add (uBin op_mod (uv 1) (uInt)) (uInt)) (uaCons (uInt) (uaNil))))) (uv 2))) (ubNil)))))) rd
def t_Z3 (Pg:Program) (w:World) (K:W.Frag) (ad:Ad):TS :=
  tSeq (tIfS (tOr (tNot (tTest (tChain (rI0 fun i j=>.bl (decide (i≤j))) (rI0 fun i j=>.bl (decide (i≤j))) (tC (V.int 1)) (tCB rLenStr (tCons (tVar 0) (tNil))) (tC (V.int 2))))) (tTest (tOp rEq (tOp rIxS (tVar 0) (tC (V.int 0))) (tC (V.str "0"))))) (tSeq (tRet (tC V.non)) (tNext)) (tNext)) (tSeq (tIfS (tNot (L2.tB (tCB (rAll K) (tCons (tLc (iStr (tVar 0)) (gName 1) (tYes) (tOp rInS (tVar 1) (tC (V.str "0123456789"))) [1]) (tNil))))) (tSeq (tRet (tC V.non)) (tNext)) (tNext)) (tSeq (tRet (tCB rIntS (tCons (tVar 0) (tNil)))) (tNext)))
theorem ok_Z3 {sp:Sp} (T:Txt Pg w K mg base ad)
    (len:∀ vs H Q E,sp vs H Q E→vs.length=ps_Z3.length) (rd:∀ vs H Q E,sp vs H Q E→t_Z3 Pg w K ad { nx:=fun _ H'=>Q .non H',rt:=Q } (start ns_Z3 vs) H):FnOk Pg w K mg base CX0 (2+1) ad.a_Z3 ad.d_Z3 ps_Z3 sp :=
  uFn (t:=t_Z3 Pg w K ad) T.f_Z3 sc_Z3 len (fun cdv A outer s H E hr=>have hu:=hr.units;let ⟨_,k_DIGITS⟩:=T.k_DIGITS;let ⟨_,k_MOST_DIGITS⟩:=T.k_MOST_DIGITS;ubCons (usIf (uW (uOr (utNot (utChain op_le op_le (uInt) (uCallB call_len_str T.b_len (by decide +kernel) (uaCons (uv 0) (uaNil))) (uGlob (v:=V.int 2) k_MOST_DIGITS ⟨_,rfl⟩))) (uOr1 (utCmp op_eq (uIx ix_str (uv 0) (uInt)) (uStr) (nomark _))))) (ubCons (usRet (uNon')) (ubNil)) (ubNil)) (ubCons (usIf (utNot (uTv (uCallB (cr_all rfl) T.b_all (by decide +kernel) (uaCons (uLcG rfl sc_Z3.nd (uiStr (uv 0)) (blkOk_by (own:=[("sign",1)]) (N:=ns_Z3) (by kernel_rfl)) (fun _ _ _ _ _=>ugName 1 sc_Z3.nd) (fun _ _ _ _ _=>utsNil) (fun _ _ _ _ _=>uCmp op_in_sign (uv 1) (uGlob (v:=V.str "0123456789") k_DIGITS ⟨_,rfl⟩) (by with_unfolding_all rfl))) (uaNil))))) (ubCons (usRet (uNon')) (ubNil)) (ubNil)) (ubCons (usRet (uCallTy call_int_str T.b_int (by decide +kernel) (uaCons (uv 0) (uaNil)))) (ubNil)))) rd
def t_Zm (Pg:Program) (w:World) (K:W.Frag) (ad:Ad) (sp_Z3:Sp):TS :=
  tSeq (tAsg (tBM K "str" rSplit (tVar 0) (tCons (tC (V.str " ")) (tNil))) (gName 1)) (tSeq (tIfS (tAnd (tTest (tOp rEq (tOp (rIxL K) (tVar 1) (tC (V.int 0))) (tC (V.str "run")))) (tTest (tOp rEq (tCB (rLenSq K) (tCons (tVar 1) (tNil))) (tC (V.int 2))))) (tSeq (tRet (tTup (tCons (tC (V.str "run")) (tCons (tCall sp_Z3 [] E0 (tCons (tOp (rIxL K) (tVar 1) (tC (V.int 1))) (tNil))) (tNil))))) (tNext)) (tNext)) (tSeq (tRet (tCB (rTupOf K) (tCons (tVar 1) (tNil)))) (tNext)))
theorem ok_Zm {sp sp_Z3:Sp} (T:Txt Pg w K mg base ad)
    (f_Z3:FnOk Pg w K mg base CX0 (2+1) ad.a_Z3 ad.d_Z3 ps_Z3 sp_Z3)
    (len:∀ vs H Q E,sp vs H Q E→vs.length=ps_Zm.length) (rd:∀ vs H Q E,sp vs H Q E→t_Zm Pg w K ad sp_Z3 { nx:=fun _ H'=>Q .non H',rt:=Q } (start ns_Zm vs) H):FnOk Pg w K mg base CX0 (4+1) ad.a_Zm ad.d_Zm ps_Zm sp :=
  uFn (t:=t_Zm Pg w K ad sp_Z3) T.f_Zm sc_Zm len (fun cdv A outer s H E hr=>have hu:=hr.units;ubCons (usSet 1 sc_Zm.nd (uBm PySem.F.plainAttrs_str PySem.F.slot_str_split PySem.F.type_str_split mt_split (uv 0) (uaCons (uStr) (uaNil)))) (ubCons (usIf (uW (uAnd (utCmp op_eq (uIx ix_list (uv 1) (uInt)) (uStr) (nomark _)) (uAnd1 (utCmp op_eq (uCallB call_len_seq T.b_len (by decide +kernel) (uaCons (uv 1) (uaNil))) (uInt) (nomark _))))) (ubCons (usRet (uTup (uaCons (uStr) (uaCons (uCall f_Z3 (hr.mono (by decide)) T.m_Z3 T.f_Z3.kp T.n_Z3 (uaCons (uIx ix_list (uv 1) (uInt)) (uaNil))) (uaNil))))) (ubNil)) (ubNil)) (ubCons (usRet (uCallTy call_tuple_of T.b_tuple (by decide +kernel) (uaCons (uv 1) (uaNil)))) (ubNil)))) rd
def t_Zn (Pg:Program) (w:World) (K:W.Frag) (ad:Ad) (sp_Z3:Sp) (sp_Zm:Sp):TS :=
  tSeq (tAsg (tBM K "str" rPart (tVar 0) (tCons (tC (V.str ": ")) (tNil))) (gTup K 3 (gCons (gName 4) (gCons (gName 5) (gCons (gName 6) (gNil)))))) (tSeq (tAsg (tBM K "str" rSplit (tVar 4) (tCons (tC (V.str " ")) (tNil))) (gName 1)) (tSeq (tAsg (tLc (iList K (tBM K "str" rSplit (tVar 6) (tCons (tC (V.str ", ")) (tNil)))) (gName 8) (tYes) (tCall sp_Zm [] E0 (tCons (tVar 8) (tNil))) [8]) (gName 2)) (tSeq (tAsg (tC V.non) (gName 3)) (tSeq (tIfS (tAnd (tTest (tOp rEq (tOp (rIxL K) (tVar 1) (tC (V.int 0))) (tC (V.str "line")))) (tAnd (tTest (tOp rEq (tCB (rLenSq K) (tCons (tVar 1) (tNil))) (tC (V.int 7)))) (tTest (tOp (rIn K false) (tOp (rIxL K) (tVar 1) (tC (V.int 3))) (tTup (tCons (tC (V.str "up")) (tCons (tC (V.str "latched")) (tNil)))))))) (tSeq (tAsg (tTup (tCons (tCall sp_Z3 [] E0 (tCons (tOp (rIxL K) (tVar 1) (tC (V.int 4))) (tNil))) (tCons (tCall sp_Z3 [] E0 (tCons (tOp (rIxL K) (tVar 1) (tC (V.int 5))) (tNil))) (tCons (tCall sp_Z3 [] E0 (tCons (tOp (rIxL K) (tVar 1) (tC (V.int 6))) (tNil))) (tNil))))) (gName 7)) (tSeq (tAsg (tTup (tCons (tOp (rIxL K) (tVar 1) (tC (V.int 1))) (tCons (tCall sp_Z3 [] E0 (tCons (tOp (rIxL K) (tVar 1) (tC (V.int 2))) (tNil))) (tCons (tOp rEq (tOp (rIxL K) (tVar 1) (tC (V.int 3))) (tC (V.str "up"))) (tCons (tVar 7) (tCons (tVar 2) (tNil))))))) (gName 3)) (tNext))) (tSeq (tIfS (tAnd (tTest (tOp rEq (tOp (rIxL K) (tVar 1) (tC (V.int 0))) (tC (V.str "bottom")))) (tTest (tOp rEq (tCB (rLenSq K) (tCons (tVar 1) (tNil))) (tC (V.int 2))))) (tSeq (tAsg (tTup (tCons (tOp (rIxL K) (tVar 1) (tC (V.int 1))) (tCons (tVar 2) (tNil)))) (gName 3)) (tNext)) (tSeq (tIfS (tAnd (tTest (tOp rEq (tOp (rIxL K) (tVar 1) (tC (V.int 0))) (tC (V.str "thread")))) (tTest (tOp rEq (tCB (rLenSq K) (tCons (tVar 1) (tNil))) (tC (V.int 3))))) (tSeq (tAsg (tTup (tCons (tOp (rIxL K) (tVar 1) (tC (V.int 1))) (tCons (tCall sp_Z3 [] E0 (tCons (tOp (rIxL K) (tVar 1) (tC (V.int 2))) (tNil))) (tCons (tVar 2) (tNil))))) (gName 3)) (tNext)) (tNext)) (tNext))) (tNext))) (tSeq (tRet (tTup (tCons (tOp (rIxL K) (tVar 1) (tC (V.int 0))) (tCons (tVar 3) (tNil))))) (tNext))))))
theorem ok_Zn {sp sp_Z3 sp_Zm:Sp} (T:Txt Pg w K mg base ad)
    (f_Z3:FnOk Pg w K mg base CX0 (2+1) ad.a_Z3 ad.d_Z3 ps_Z3 sp_Z3)
    (f_Zm:FnOk Pg w K mg base CX0 (4+1) ad.a_Zm ad.d_Zm ps_Zm sp_Zm)
    (len:∀ vs H Q E,sp vs H Q E→vs.length=ps_Zn.length) (rd:∀ vs H Q E,sp vs H Q E→t_Zn Pg w K ad sp_Z3 sp_Zm { nx:=fun _ H'=>Q .non H',rt:=Q } (start ns_Zn vs) H):FnOk Pg w K mg base CX0 (6+1) ad.a_Zn ad.d_Zn ps_Zn sp :=
  uFn (t:=t_Zn Pg w K ad sp_Z3 sp_Zm) T.f_Zn sc_Zn len (fun cdv A outer s H E hr=>have hu:=hr.units;ubCons (usAsg (uBm PySem.F.plainAttrs_str PySem.F.slot_str_partition PySem.F.type_str_partition mt_partition (uv 0) (uaCons (uStr) (uaNil))) (ugTup rfl (ugsCons (ugName 4 sc_Zn.nd) (ugsCons (ugName 5 sc_Zn.nd) (ugsCons (ugName 6 sc_Zn.nd) (ugsNil)))))) (ubCons (usSet 1 sc_Zn.nd (uBm PySem.F.plainAttrs_str PySem.F.slot_str_split PySem.F.type_str_split mt_split (uv 4) (uaCons (uStr) (uaNil)))) (ubCons (usSetLc rfl sc_Zn.nd rfl rfl (sw_true rfl rfl rfl (by decide +kernel)) (uiLst (uBm PySem.F.plainAttrs_str PySem.F.slot_str_split PySem.F.type_str_split mt_split (uv 6) (uaCons (uStr) (uaNil)))) (blkOk_by (own:=[("part",8)]) (N:=ns_Zn) (by kernel_rfl)) (fun _ _ _ _ _=>ugName 8 sc_Zn.nd) (fun _ _ _ _ _=>utsNil) (fun _ _ _ _ _=>uCall f_Zm (hr.mono (by decide)) T.m_Zm T.f_Zm.kp T.n_Zm (uaCons (uv 8) (uaNil)))) (ubCons (usSet 3 sc_Zn.nd (uNon')) (ubCons (usIf (uW (uAnd (utCmp op_eq (uIx ix_list (uv 1) (uInt)) (uStr) (nomark _)) (uAnd (utCmp op_eq (uCallB call_len_seq T.b_len (by decide +kernel) (uaCons (uv 1) (uaNil))) (uInt) (nomark _)) (uAnd1 (utCmp op_in_seq (uIx ix_list (uv 1) (uInt)) (uTup (uaCons (uStr) (uaCons (uStr) (uaNil)))) (by with_unfolding_all rfl)))))) (ubCons (usSet 7 sc_Zn.nd (uTup (uaCons (uCall f_Z3 (hr.mono (by decide)) T.m_Z3 T.f_Z3.kp T.n_Z3 (uaCons (uIx ix_list (uv 1) (uInt)) (uaNil))) (uaCons (uCall f_Z3 (hr.mono (by decide)) T.m_Z3 T.f_Z3.kp T.n_Z3 (uaCons (uIx ix_list (uv 1) (uInt)) (uaNil))) (uaCons (uCall f_Z3 (hr.mono (by decide)) T.m_Z3 T.f_Z3.kp T.n_Z3 (uaCons (uIx ix_list (uv 1) (uInt)) (uaNil))) (uaNil)))))) (ubCons (usSet 3 sc_Zn.nd (uTup (uaCons (uIx ix_list (uv 1) (uInt)) (uaCons (uCall f_Z3 (hr.mono (by decide)) T.m_Z3 T.f_Z3.kp T.n_Z3 (uaCons (uIx ix_list (uv 1) (uInt)) (uaNil))) (uaCons (uCmp op_eq (uIx ix_list (uv 1) (uInt)) (uStr) (nomark _)) (uaCons (uv 7) (uaCons (uv 2) (uaNil)))))))) (ubNil))) (ubCons (usIf (uW (uAnd (utCmp op_eq (uIx ix_list (uv 1) (uInt)) (uStr) (nomark _)) (uAnd1 (utCmp op_eq (uCallB call_len_seq T.b_len (by decide +kernel) (uaCons (uv 1) (uaNil))) (uInt) (nomark _))))) (ubCons (usSet 3 sc_Zn.nd (uTup (uaCons (uIx ix_list (uv 1) (uInt)) (uaCons (uv 2) (uaNil))))) (ubNil)) (ubCons (usIf (uW (uAnd (utCmp op_eq (uIx ix_list (uv 1) (uInt)) (uStr) (nomark _)) (uAnd1 (utCmp op_eq (uCallB call_len_seq T.b_len (by decide +kernel) (uaCons (uv 1) (uaNil))) (uInt) (nomark _))))) (ubCons (usSet 3 sc_Zn.nd (uTup (uaCons (uIx ix_list (uv 1) (uInt)) (uaCons (uCall f_Z3 (hr.mono (by decide)) T.m_Z3 T.f_Z3.kp T.n_Z3 (uaCons (uIx ix_list (uv 1) (uInt)) (uaNil))) (uaCons (uv 2) (uaNil)))))) (ubNil)) (ubNil)) (ubNil))) (ubNil))) (ubCons (usRet (uTup (uaCons (uIx ix_list (uv 1) (uInt)) (uaCons (uv 3) (uaNil))))) (ubNil))))))) rd
def t_Zt (Pg:Program) (w:World) (K:W.Frag) (ad:Ad) (sp_Zf:Sp) (sp_Z7:Sp) (sp_Z8:Sp) (sp_Ze:Sp) (sp_Zd:Sp) (sp_Zn:Sp):XK→TS:=fun E =>
  tSeq (tIfS (tNot (L2.tB (tCB (rIsi1 K) (tCons (tVar 0) (tCons (tC (V.ty (tyS 3))) tNil))))) (tSeq (tRaiseF ad.c_BadRows "row" (tC (V.int 0)) E) (tNext)) (tNext)) (tSeq (tAsg (tBM K "str" rSplit (tVar 0) (tCons (tC (V.str "\n")) (tNil))) (gName 1)) (tSeq (tAsg (tLst (tNil)) (gName 2)) (tSeq (tAsg (tLst (tNil)) (gName 3)) (tSeq (tAsg (tLst (tNil)) (gName 4)) (tSeq (tFor (iEnum K (tCons (tVar 1) (tNil))) (gTup K 2 (gCons (gName 5) (gCons (gName 6) (gNil)))) (tSeq (tAsg (tCall sp_Zn [] E0 (tCons (tVar 6) (tNil))) (gTup K 2 (gCons (gName 7) (gCons (gName 8) (gNil))))) (tSeq (tIfS (tAnd (tTest (tOp rEq (tVar 7) (tC (V.str "line")))) (tAnd (tNot (tTruth K (tVar 3))) (tNot (tTruth K (tVar 4))))) (tSeq (tDrop (tBM K "list" rAppend (tVar 2) (tCons (tVar 8) (tNil)))) (tNext)) (tSeq (tIfS (tAnd (tTest (tOp rEq (tVar 7) (tC (V.str "bottom")))) (tNot (tTruth K (tVar 4)))) (tSeq (tDrop (tBM K "list" rAppend (tVar 3) (tCons (tVar 8) (tNil)))) (tNext)) (tSeq (tIfS (tTest (tOp rEq (tVar 7) (tC (V.str "thread")))) (tSeq (tDrop (tBM K "list" rAppend (tVar 4) (tCons (tVar 8) (tNil)))) (tNext)) (tSeq (tRaiseF ad.c_BadRows "row" (tVar 5) E) (tNext))) (tNext))) (tNext))) (tSeq (tIfS (tOr (tNot (L2.tB (tCall sp_Zf [] E0 (tCons (tVar 2) (tNil))))) (tOr (tNot (L2.tB (tCall sp_Z7 [] E0 (tCons (tVar 3) (tNil))))) (tNot (L2.tB (tCall sp_Z8 [] E0 (tCons (tVar 4) (tNil))))))) (tSeq (tRaiseF ad.c_BadRows "row" (tVar 5) E) (tNext)) (tNext)) (tNext))))) (tSeq (tIfS (tNot (L2.tB (tCall sp_Ze [] E0 (tCons (tVar 2) (tCons (tVar 3) (tCons (tVar 4) (tNil))))))) (tSeq (tRaiseF ad.c_BadRows "row" (tCB (rLenSq K) (tCons (tVar 1) (tNil))) E) (tNext)) (tNext)) (tSeq (tRet (tMakeK ad.c_Plan sp_Zd (gOf .non [] y_Zd_0) E0 (tCons (tVar 2) (tNil)) (tCons (tVar 3) (tCons (tVar 4) (tNil))))) (tNext))))))))
theorem ok_Zt {sp sp_Zf sp_Z7 sp_Z8 sp_Ze sp_Zd sp_Zn:Sp} (T:Txt Pg w K mg base ad)
    (f_Zf:FnOk Pg w K mg base CX0 (10+1) ad.a_Zf ad.d_Zf ps_Zf sp_Zf)
    (f_Z7:FnOk Pg w K mg base CX0 (10+1) ad.a_Z7 ad.d_Z7 ps_Z7 sp_Z7)
    (f_Z8:FnOk Pg w K mg base CX0 (10+1) ad.a_Z8 ad.d_Z8 ps_Z8 sp_Z8)
    (f_Ze:FnOk Pg w K mg base CX0 (4+1) ad.a_Ze ad.d_Ze ps_Ze sp_Ze)
    (f_Zd:FnOk Pg w K mg base CX0 (12+1) ad.a_Zd ad.d_Zd ps_Zd sp_Zd)
    (f_Zn:FnOk Pg w K mg base CX0 (6+1) ad.a_Zn ad.d_Zn ps_Zn sp_Zn)
    (len:∀ vs H Q E,sp vs H Q E→vs.length=ps_Zt.length) (rd:∀ vs H Q E,sp vs H Q E→t_Zt Pg w K ad sp_Zf sp_Z7 sp_Z8 sp_Ze sp_Zd sp_Zn E { nx:=fun _ H'=>Q .non H',rt:=Q } (start ns_Zt vs) H):FnOk Pg w K mg base (CXF Pg w) (14+1) ad.a_Zt ad.d_Zt ps_Zt sp :=
  uFnF (t:=t_Zt Pg w K ad sp_Zf sp_Z7 sp_Z8 sp_Ze sp_Zd sp_Zn) T.f_Zt sc_Zt len (fun A outer s H E hr=>have hu:=hr.units;let ⟨_,kb_Zd_0⟩:=T.y_Zd_0;ubCons (usIf (utNot (uTv (uuIsi (cc:=3) (by decide) (by decide) rfl T.b_isinstance T.b_str (uv 0)))) (ubCons (usRaiseF T.erf_BadRows hr T.c_BadRows (uInt)) (ubNil)) (ubNil)) (ubCons (usNox (usSet 1 sc_Zt.nd (uBm PySem.F.plainAttrs_str PySem.F.slot_str_split PySem.F.type_str_split mt_split (uv 0) (uaCons (uStr) (uaNil))))) (ubCons (usNox (usSet 2 sc_Zt.nd (uLst (uaNil)))) (ubCons (usNox (usSet 3 sc_Zt.nd (uLst (uaNil)))) (ubCons (usNox (usSet 4 sc_Zt.nd (uLst (uaNil)))) (ubCons (usForG rfl (uiEnum T.b_enumerate (uaCons (uv 1) (uaNil))) (ugTup rfl (ugsCons (ugName 5 sc_Zt.nd) (ugsCons (ugName 6 sc_Zt.nd) (ugsNil)))) (ubCons (usNox (usAsg (uCall f_Zn (hr.mono (by decide)) T.m_Zn T.f_Zn.kp T.n_Zn (uaCons (uv 6) (uaNil))) (ugTup rfl (ugsCons (ugName 7 sc_Zt.nd) (ugsCons (ugName 8 sc_Zt.nd) (ugsNil)))))) (ubCons (usIf (uW (uAnd (utCmp op_eq (uv 7) (uStr) (nomark _)) (uAnd (utNot (utTru (uv 3))) (uAnd1 (utNot (utTru (uv 4))))))) (ubCons (usNox (usExpr (uBm PySem.F.plainAttrs_list PySem.F.slot_list_append PySem.F.type_list_append mt_append (uv 2) (uaCons (uv 8) (uaNil))))) (ubNil)) (ubCons (usIf (uW (uAnd (utCmp op_eq (uv 7) (uStr) (nomark _)) (uAnd1 (utNot (utTru (uv 4)))))) (ubCons (usNox (usExpr (uBm PySem.F.plainAttrs_list PySem.F.slot_list_append PySem.F.type_list_append mt_append (uv 3) (uaCons (uv 8) (uaNil))))) (ubNil)) (ubCons (usIf (utCmp op_eq (uv 7) (uStr) (nomark _)) (ubCons (usNox (usExpr (uBm PySem.F.plainAttrs_list PySem.F.slot_list_append PySem.F.type_list_append mt_append (uv 4) (uaCons (uv 8) (uaNil))))) (ubNil)) (ubCons (usRaiseF T.erf_BadRows hr T.c_BadRows (uv 5)) (ubNil))) (ubNil))) (ubNil))) (ubCons (usIf (uW (uOr (utNot (uTv (uCall f_Zf (hr.mono (by decide)) T.m_Zf T.f_Zf.kp T.n_Zf (uaCons (uv 2) (uaNil))))) (uOr (utNot (uTv (uCall f_Z7 (hr.mono (by decide)) T.m_Z7 T.f_Z7.kp T.n_Z7 (uaCons (uv 3) (uaNil))))) (uOr1 (utNot (uTv (uCall f_Z8 (hr.mono (by decide)) T.m_Z8 T.f_Z8.kp T.n_Z8 (uaCons (uv 4) (uaNil))))))))) (ubCons (usRaiseF T.erf_BadRows hr T.c_BadRows (uv 5)) (ubNil)) (ubNil)) (ubNil)))) PassesOwn.leaving) (ubCons (usIf (utNot (uTv (uCall f_Ze (hr.mono (by decide)) T.m_Ze T.f_Ze.kp T.n_Ze (uaCons (uv 2) (uaCons (uv 3) (uaCons (uv 4) (uaNil))))))) (ubCons (usRaiseF T.erf_BadRows hr T.c_BadRows (uCallB call_len_seq T.b_len (by decide +kernel) (uaCons (uv 1) (uaNil)))) (ubNil)) (ubNil)) (ubCons (usNox (usRet (uMakeK kb_Zd_0 T.mk_Plan f_Zd (hr.mono (by decide)) T.c_Plan (uaCons (uv 2) (uaNil)) (ukCons (uv 3) (ukCons (uv 4) (ukNil)))))) (ubNil))))))))) rd
def t_Z4 (Pg:Program) (w:World) (K:W.Frag) (ad:Ad) (sp_Zt:Sp):TS :=
  tSeq (tExcF K ad.c_KnockError 1 (xCall sp_Zt (tCons (tVar 0) (tNil))) (tSeq (tRet (tIf (tAnd (L2.tB (tCB (rIsiD K) (tCons (tVar 1) (tCons (tC (V.ref ad.c_BadRows)) tNil)))) (L2.tB (tCB (rIsiD K) (tCons (tVar 1) (tCons (tC (V.ty "ValueError")) tNil))))) (tFldD K (tVar 1) "row") (tUn (rU fun i=>.int (-i)) (tC (V.int 2))))) (tNext))) (tSeq (tRet (tUn (rU fun i=>.int (-i)) (tC (V.int 1)))) (tNext))
theorem ok_Z4 {sp sp_Zt:Sp} (T:Txt Pg w K mg base ad)
    (f_Zt:FnOk Pg w K mg base (CXF Pg w) (14+1) ad.a_Zt ad.d_Zt ps_Zt sp_Zt)
    (len:∀ vs H Q E,sp vs H Q E→vs.length=ps_Z4.length) (rd:∀ vs H Q E,sp vs H Q E→t_Z4 Pg w K ad sp_Zt { nx:=fun _ H'=>Q .non H',rt:=Q } (start ns_Z4 vs) H):FnOk Pg w K mg base CX0 (16+1) ad.a_Z4 ad.d_Z4 ps_Z4 sp :=
  uFn (t:=t_Z4 Pg w K ad sp_Zt) T.f_Z4 sc_Z4 len (fun cdv A outer s H E hr=>have hu:=hr.units;ubCons (usExcF 1 sc_Z4.nd (uxgCall f_Zt (hr.mono (by decide)) T.m_Zt T.f_Zt.kp T.n_Zt (uaCons (uv 0) (uaNil))) T.c_KnockError (fun x=>ubCons (usRet (Ev.uIfE (uW (uAnd (uTv (uCallB call_isiD T.b_isinstance (by decide +kernel) (uaCons (uv 1) (uaCons (uGlob (v:=V.ref ad.c_BadRows) T.c_BadRows rfl) uaNil)))) (uAnd1 (uTv (uCallB call_isiD T.b_isinstance (by decide +kernel) (uaCons (uv 1) (uaCons (uBltn T.b_ValueError (by decide +kernel) rfl) uaNil))))))) (uFldD (uv 1)) (uUn un_neg (uInt)))) (ubNil))) (ubCons (usRet (uUn un_neg (uInt))) (ubNil))) rd
def t_Z0 (Pg:Program) (w:World) (K:W.Frag) (ad:Ad):TS :=
  tSeq (tAsg (tLst (tCons (tC (V.str "")) (tCons (tC (V.str " ")) (tCons (tC (V.str "line")) (tCons (tC (V.str "line e")) (tCons (tC (V.str "line e 1 up 1 1 1")) (tCons (tC (V.str "line e 1 up 1 1 1:")) (tNil)))))))) (gName 0)) (tSeq (tAsg (tOp rCat (tVar 0) (tLst (tCons (tC (V.str "line e 1 up 1 1 1: ")) (tCons (tC (V.str "line e 1 up 1 1 1 run 1")) (tNil))))) (gName 0)) (tSeq (tAsg (tOp rCat (tVar 0) (tLst (tCons (tC (V.str "Line e 1 up 1 1 1: run 1")) (tCons (tC (V.str "line e 1 up 1 1 1:run 1")) (tNil))))) (gName 0)) (tSeq (tAsg (tOp rCat (tVar 0) (tLst (tCons (tC (V.str "line  e 1 up 1 1 1: run 1")) (tCons (tC (V.str " line e 1 up 1 1 1: run 1")) (tNil))))) (gName 0)) (tSeq (tAsg (tOp rCat (tVar 0) (tLst (tCons (tC (V.str "line e 1 up 1 1: run 1")) (tCons (tC (V.str "line e 1 up 1 1 1 1: run 1")) (tNil))))) (gName 0)) (tSeq (tAsg (tOp rCat (tVar 0) (tLst (tCons (tC (V.str "line e 1 down 1 1 1: run 1")) (tCons (tC (V.str "line e 1 True 1 1 1: run 1")) (tNil))))) (gName 0)) (tSeq (tAsg (tOp rCat (tVar 0) (tLst (tCons (tC (V.str "line e 0 up 1 1 1: run 1")) (tCons (tC (V.str "line e 100 up 1 1 1: run 1")) (tNil))))) (gName 0)) (tSeq (tAsg (tOp rCat (tVar 0) (tLst (tCons (tC (V.str "line e 01 up 1 1 1: run 1")) (tCons (tC (V.str "line e -1 up 1 1 1: run 1")) (tNil))))) (gName 0)) (tSeq (tAsg (tOp rCat (tVar 0) (tLst (tCons (tC (V.str "line e 1 up 0 1 1: run 1")) (tCons (tC (V.str "line e 1 up 10 1 1: run 1")) (tNil))))) (gName 0)) (tSeq (tAsg (tOp rCat (tVar 0) (tLst (tCons (tC (V.str "line e 1 up 1 0 1: run 1")) (tCons (tC (V.str "line e 1 up 1 61 1: run 1")) (tNil))))) (gName 0)) (tSeq (tAsg (tOp rCat (tVar 0) (tLst (tCons (tC (V.str "line e 1 up 1 1 0: run 1")) (tCons (tC (V.str "line e 1 up 1 1 61: run 1")) (tNil))))) (gName 0)) (tSeq (tAsg (tOp rCat (tVar 0) (tLst (tCons (tC (V.str "line E 1 up 1 1 1: run 1")) (tCons (tC (V.str "line abcdefghi 1 up 1 1 1: run 1")) (tNil))))) (gName 0)) (tSeq (tAsg (tOp rCat (tVar 0) (tLst (tCons (tC (V.str "line e 1 up 1 1 1: run 0")) (tCons (tC (V.str "line e 1 up 1 1 1: run 10")) (tNil))))) (gName 0)) (tSeq (tAsg (tOp rCat (tVar 0) (tLst (tCons (tC (V.str "line e 1 up 1 1 1: run 01")) (tCons (tC (V.str "line e 1 up 1 1 1: run")) (tNil))))) (gName 0)) (tSeq (tAsg (tOp rCat (tVar 0) (tLst (tCons (tC (V.str "line e 1 up 1 1 1: run 1 1")) (tCons (tC (V.str "line e 1 up 1 1 1: run  1")) (tNil))))) (gName 0)) (tSeq (tAsg (tOp rCat (tVar 0) (tLst (tCons (tC (V.str "line e 1 up 1 1 1: run 1,")) (tCons (tC (V.str "line e 1 up 1 1 1: run 1 ")) (tNil))))) (gName 0)) (tSeq (tAsg (tOp rCat (tVar 0) (tLst (tCons (tC (V.str "line e 1 up 1 1 1: run 1,run 1")) (tCons (tC (V.str "line e 1 up 1 1 1: run 1,  run 1")) (tNil))))) (gName 0)) (tSeq (tAsg (tOp rCat (tVar 0) (tLst (tCons (tC (V.str "line e 1 up 1 1 1: mask")) (tCons (tC (V.str "line e 1 up 1 1 1: open")) (tNil))))) (gName 0)) (tSeq (tAsg (tOp rCat (tVar 0) (tLst (tCons (tC (V.str "line e 1 up 1 1 1: open, run 1")) (tCons (tC (V.str "line e 1 up 1 1 1: mask 1, run 1")) (tNil))))) (gName 0)) (tSeq (tAsg (tOp rCat (tVar 0) (tLst (tCons (tC (V.str "line e 1 up 1 1 1: mask, open, open, run 1")) (tNil)))) (gName 0)) (tSeq (tDrop (tBM K "list" rAppend (tVar 0) (tCons (tC (V.str "line e 1 up 1 1 1: run 1, open")) (tNil)))) (tSeq (tAsg (tOp rCat (tVar 0) (tLst (tCons (tC (V.str "line e 1 up 1 1 1: answer, run 1")) (tCons (tC (V.str "line e 1 up 1 1 1: answer E, run 1")) (tNil))))) (gName 0)) (tSeq (tAsg (tOp rCat (tVar 0) (tLst (tCons (tC (V.str "line e 1 up 1 1 1: jump a, run 1")) (tNil)))) (gName 0)) (tSeq (tAsg (tOp rCat (tVar 0) (tLst (tCons (tC (V.str "line a 1 up 1 1 1: run 1")) (tCons (tC (V.str "line e 5 up 1 1 1: run 1")) (tNil))))) (gName 0)) (tSeq (tAsg (tOp rCat (tVar 0) (tLst (tCons (tC (V.str "line e 1 up 1 1 1: run 1: run 1")) (tCons (tC (V.str "line e 1 up 1 1 1: run one")) (tNil))))) (gName 0)) (tSeq (tRet (tOp rCat (tVar 0) (tLst (tCons (tOp rAdS (tC (V.str "line e 1 up 1 1 1: ")) (tBM K "str" (rJoin K) (tC (V.str ", ")) (tCons (tOp rRep (tLst (tCons (tC (V.str "run 1")) (tNil))) (tC (V.int 13))) (tNil)))) (tCons (tC (V.str "run 1")) (tCons (tC (V.str "bottom b")) (tCons (tC (V.str "plan e 1 up 1 1 1: run 1")) (tNil)))))))) (tNext))))))))))))))))))))))))))
theorem ok_Z0 {sp:Sp} (T:Txt Pg w K mg base ad)
    (len:∀ vs H Q E,sp vs H Q E→vs.length=ps_Z0.length) (rd:∀ vs H Q E,sp vs H Q E→t_Z0 Pg w K ad { nx:=fun _ H'=>Q .non H',rt:=Q } (start ns_Z0 vs) H):FnOk Pg w K mg base CX0 (2+1) ad.a_Z0 ad.d_Z0 ps_Z0 sp :=
  uFn (t:=t_Z0 Pg w K ad) T.f_Z0 sc_Z0 len (fun cdv A outer s H E hr=>have hu:=hr.units;ubCons (usSet 0 sc_Z0.nd (uLst (uaCons (uStr) (uaCons (uStr) (uaCons (uStr) (uaCons (uStr) (uaCons (uStr) (uaCons (uStr) (uaNil))))))))) (ubCons (usSet 0 sc_Z0.nd (uBin op_cat (uv 0) (uLst (uaCons (uStr) (uaCons (uStr) (uaNil)))))) (ubCons (usSet 0 sc_Z0.nd (uBin op_cat (uv 0) (uLst (uaCons (uStr) (uaCons (uStr) (uaNil)))))) (ubCons (usSet 0 sc_Z0.nd (uBin op_cat (uv 0) (uLst (uaCons (uStr) (uaCons (uStr) (uaNil)))))) (ubCons (usSet 0 sc_Z0.nd (uBin op_cat (uv 0) (uLst (uaCons (uStr) (uaCons (uStr) (uaNil)))))) (ubCons (usSet 0 sc_Z0.nd (uBin op_cat (uv 0) (uLst (uaCons (uStr) (uaCons (uStr) (uaNil)))))) (ubCons (usSet 0 sc_Z0.nd (uBin op_cat (uv 0) (uLst (uaCons (uStr) (uaCons (uStr) (uaNil)))))) (ubCons (usSet 0 sc_Z0.nd (uBin op_cat (uv 0) (uLst (uaCons (uStr) (uaCons (uStr) (uaNil)))))) (ubCons (usSet 0 sc_Z0.nd (uBin op_cat (uv 0) (uLst (uaCons (uStr) (uaCons (uStr) (uaNil)))))) (ubCons (usSet 0 sc_Z0.nd (uBin op_cat (uv 0) (uLst (uaCons (uStr) (uaCons (uStr) (uaNil)))))) (ubCons (usSet 0 sc_Z0.nd (uBin op_cat (uv 0) (uLst (uaCons (uStr) (uaCons (uStr) (uaNil)))))) (ubCons (usSet 0 sc_Z0.nd (uBin op_cat (uv 0) (uLst (uaCons (uStr) (uaCons (uStr) (uaNil)))))) (ubCons (usSet 0 sc_Z0.nd (uBin op_cat (uv 0) (uLst (uaCons (uStr) (uaCons (uStr) (uaNil)))))) (ubCons (usSet 0 sc_Z0.nd (uBin op_cat (uv 0) (uLst (uaCons (uStr) (uaCons (uStr) (uaNil)))))) (ubCons (usSet 0 sc_Z0.nd (uBin op_cat (uv 0) (uLst (uaCons (uStr) (uaCons (uStr) (uaNil)))))) (ubCons (usSet 0 sc_Z0.nd (uBin op_cat (uv 0) (uLst (uaCons (uStr) (uaCons (uStr) (uaNil)))))) (ubCons (usSet 0 sc_Z0.nd (uBin op_cat (uv 0) (uLst (uaCons (uStr) (uaCons (uStr) (uaNil)))))) (ubCons (usSet 0 sc_Z0.nd (uBin op_cat (uv 0) (uLst (uaCons (uStr) (uaCons (uStr) (uaNil)))))) (ubCons (usSet 0 sc_Z0.nd (uBin op_cat (uv 0) (uLst (uaCons (uStr) (uaCons (uStr) (uaNil)))))) (ubCons (usSet 0 sc_Z0.nd (uBin op_cat (uv 0) (uLst (uaCons (uStr) (uaNil))))) (ubCons (usExpr (uBm PySem.F.plainAttrs_list PySem.F.slot_list_append PySem.F.type_list_append mt_append (uv 0) (uaCons (uStr) (uaNil)))) (ubCons (usSet 0 sc_Z0.nd (uBin op_cat (uv 0) (uLst (uaCons (uStr) (uaCons (uStr) (uaNil)))))) (ubCons (usSet 0 sc_Z0.nd (uBin op_cat (uv 0) (uLst (uaCons (uStr) (uaNil))))) (ubCons (usSet 0 sc_Z0.nd (uBin op_cat (uv 0) (uLst (uaCons (uStr) (uaCons (uStr) (uaNil)))))) (ubCons (usSet 0 sc_Z0.nd (uBin op_cat (uv 0) (uLst (uaCons (uStr) (uaCons (uStr) (uaNil)))))) (ubCons (usRet (uBin op_cat (uv 0) (uLst (uaCons (uBin op_add_str (uStr) (uBm PySem.F.plainAttrs_str PySem.F.slot_str_join PySem.F.type_str_join mt_join (uStr) (uaCons (uBin op_rep (uLst (uaCons (uStr) (uaNil))) (uInt)) (uaNil)))) (uaCons (uStr) (uaCons (uStr) (uaCons (uStr) (uaNil)))))))) (ubNil))))))))))))))))))))))))))) rd
def t_Z2 (Pg:Program) (w:World) (K:W.Frag) (ad:Ad):TS :=
  tSeq (tAsg (tLst (tCons (tC (V.str "bottom")) (tCons (tC (V.str "bottom b: run 1")) (tCons (tC (V.str "bottom e 1: run 1")) (tCons (tC (V.str "bottom e:")) (tNil)))))) (gName 0)) (tSeq (tAsg (tOp rCat (tVar 0) (tLst (tCons (tC (V.str "bottom e: mask")) (tCons (tC (V.str "bottom E: run 1")) (tCons (tC (V.str "bottom e e: run 1")) (tNil)))))) (gName 0)) (tSeq (tAsg (tOp rCat (tVar 0) (tLst (tCons (tC (V.str "bottom e: run 1, later")) (tCons (tC (V.str "thread")) (tCons (tC (V.str "thread e: run 1")) (tCons (tC (V.str "thread e 0: run 1")) (tNil))))))) (gName 0)) (tSeq (tAsg (tOp rCat (tVar 0) (tLst (tCons (tC (V.str "thread e 100: run 1")) (tCons (tC (V.str "thread t 9: run 1")) (tNil))))) (gName 0)) (tSeq (tAsg (tOp rCat (tVar 0) (tLst (tCons (tC (V.str "thread e 3: run 1")) (tCons (tC (V.str "thread e 01: run 1")) (tCons (tC (V.str "thread e 1 1: run 1")) (tNil)))))) (gName 0)) (tSeq (tRet (tOp rCat (tVar 0) (tLst (tCons (tC (V.str "thread e 1: open, run 1")) (tCons (tC (V.str "thread e 1: run 1, ")) (tNil)))))) (tNext))))))
theorem ok_Z2 {sp:Sp} (T:Txt Pg w K mg base ad)
    (len:∀ vs H Q E,sp vs H Q E→vs.length=ps_Z2.length) (rd:∀ vs H Q E,sp vs H Q E→t_Z2 Pg w K ad { nx:=fun _ H'=>Q .non H',rt:=Q } (start ns_Z2 vs) H):FnOk Pg w K mg base CX0 (2+1) ad.a_Z2 ad.d_Z2 ps_Z2 sp :=
  uFn (t:=t_Z2 Pg w K ad) T.f_Z2 sc_Z2 len (fun cdv A outer s H E hr=>have hu:=hr.units;ubCons (usSet 0 sc_Z2.nd (uLst (uaCons (uStr) (uaCons (uStr) (uaCons (uStr) (uaCons (uStr) (uaNil))))))) (ubCons (usSet 0 sc_Z2.nd (uBin op_cat (uv 0) (uLst (uaCons (uStr) (uaCons (uStr) (uaCons (uStr) (uaNil))))))) (ubCons (usSet 0 sc_Z2.nd (uBin op_cat (uv 0) (uLst (uaCons (uStr) (uaCons (uStr) (uaCons (uStr) (uaCons (uStr) (uaNil)))))))) (ubCons (usSet 0 sc_Z2.nd (uBin op_cat (uv 0) (uLst (uaCons (uStr) (uaCons (uStr) (uaNil)))))) (ubCons (usSet 0 sc_Z2.nd (uBin op_cat (uv 0) (uLst (uaCons (uStr) (uaCons (uStr) (uaCons (uStr) (uaNil))))))) (ubCons (usRet (uBin op_cat (uv 0) (uLst (uaCons (uStr) (uaCons (uStr) (uaNil)))))) (ubNil))))))) rd
def t_law (Pg:Program) (w:World) (K:W.Frag) (ad:Ad) (sp_Zb:Sp) (sp_Zc:Sp) (sp_Z4:Sp) (sp_Z0:Sp) (sp_Z2:Sp):TS :=
  tSeq (tAsg (tLst (tCons (tC (V.str "line a 5 up 3 10 20: run 1, answer a")) (tNil))) (gName 1)) (tSeq (tAsg (tOp rCat (tVar 1) (tLst (tCons (tC (V.str "line b 6 latched 9 60 60: mask, run 9, open, later b, wake t")) (tNil)))) (gName 1)) (tSeq (tAsg (tLst (tCons (tC (V.str "bottom b: run 2, answer b")) (tCons (tC (V.str "thread t 3: run 1, later b")) (tNil)))) (gName 2)) (tSeq (tIfS (tOr (tTest (tOp (rNeD K) (tCall sp_Z4 [] E0 (tCons (tBM K "str" (rJoin K) (tC (V.str "\n")) (tCons (tOp rCat (tVar 1) (tVar 2)) (tNil))) (tNil))) (tUn (rU fun i=>.int (-i)) (tC (V.int 1))))) (tTest (tOp (rNeD K) (tCall sp_Z4 [] E0 (tCons (tOp (rIxL K) (tVar 1) (tC (V.int 0))) (tNil))) (tUn (rU fun i=>.int (-i)) (tC (V.int 1)))))) (tSeq (tRet (tC (V.bl false))) (tNext)) (tNext)) (tSeq (tFor (iRng1 (tCons (tCB rMax2 (tCons (tC (V.int 1)) (tCons (tCB rMin2 (tCons (tC (V.int 8)) (tCons (tCB (rLenSq K) (tCons (tVar 0) (tNil))) (tNil)))) (tNil)))) (tNil))) (gName 3) (tSeq (tPar 10 11 (tCons (tCall sp_Zb [] E0 (tCons (tVar 0) (tCons (tVar 3) (tNil)))) (tCons (tCall sp_Z0 [] E0 tNil) (tNil)))) (tSeq (tFor (iEnum K (tCons (tVar 11) (tNil))) (gTup K 2 (gCons (gName 12) (gCons (gName 4) (gNil)))) (tSeq (tAsg (tOp (rI0 fun i j=>.int (i+j)) (tC (V.int 1)) (tCall sp_Zc [] E0 (tCons (tVar 10) (tCons (tOp (rI0 fun i j=>.int (i+j)) (tOp (rI (fun _ j=>0 < j) fun i j=>.int (i % j)) (tVar 12) (tC (V.int 12))) (tC (V.int 1))) (tCons (tC (V.int 2)) (tNil)))))) (gName 9)) (tSeq (tAsg (tOp (rIxL K) (tVar 11) (tCall sp_Zc [] E0 (tCons (tVar 10) (tCons (tOp (rI0 fun i j=>.int (i+j)) (tOp (rI (fun _ j=>0 < j) fun i j=>.int (i % j)) (tVar 12) (tC (V.int 12))) (tC (V.int 1))) (tCons (tCB (rLenSq K) (tCons (tVar 11) (tNil))) (tNil)))))) (gName 13)) (tSeq (tAsg (tOp rCat (tOp rCat (tOp rCat (tSl (rSlL K) (tVar 1) tNoPart (tPart (tVar 9))) (tLst (tCons (tVar 4) (tNil)))) (tSl (rSlL K) (tVar 1) (tPart (tVar 9)) tNoPart)) (tVar 2)) (gName 8)) (tSeq (tIfS (tTest (tOp rNe (tCall sp_Z4 [] E0 (tCons (tBM K "str" (rJoin K) (tC (V.str "\n")) (tCons (tVar 8) (tNil))) (tNil))) (tVar 9))) (tSeq (tRet (tC (V.bl false))) (tNext)) (tNext)) (tSeq (tIfS (tTest (tOp rNe (tCall sp_Z4 [] E0 (tCons (tBM K "str" (rJoin K) (tC (V.str "\n")) (tCons (tOp rCat (tOp rCat (tVar 1) (tLst (tCons (tVar 4) (tCons (tVar 13) (tNil))))) (tVar 2)) (tNil))) (tNil))) (tC (V.int 2)))) (tSeq (tRet (tC (V.bl false))) (tNext)) (tNext)) (tNext))))))) (tNext)))) (tSeq (tFor (iList K (tCall sp_Z2 [] E0 tNil)) (gName 4) (tSeq (tIfS (tOr (tTest (tOp rNe (tCall sp_Z4 [] E0 (tCons (tBM K "str" (rJoin K) (tC (V.str "\n")) (tCons (tOp rCat (tOp rCat (tVar 1) (tVar 2)) (tLst (tCons (tVar 4) (tNil)))) (tNil))) (tNil))) (tC (V.int 4)))) (tTest (tOp rNe (tCall sp_Z4 [] E0 (tCons (tBM K "str" (rJoin K) (tC (V.str "\n")) (tCons (tOp rCat (tOp rCat (tVar 1) (tVar 2)) (tLst (tCons (tVar 4) (tCons (tC (V.str "x")) (tNil))))) (tNil))) (tNil))) (tC (V.int 4))))) (tSeq (tRet (tC (V.bl false))) (tNext)) (tNext)) (tNext))) (tSeq (tIfS (tOr (tTest (tOp (rNeD K) (tLc (iTup K (tTup (tCons (tC V.non) (tCons (tC (V.int 5)) (tCons (tVar 1) (tCons (tC (V.bl true)) (tCons (tTup (tCons (tC (V.str "a")) (tNil))) (tNil)))))))) (gName 15) (tYes) (tCall sp_Z4 [] E0 (tCons (tVar 15) (tNil))) [15]) (tOp rRep (tLst (tCons (tC (V.int 0)) (tNil))) (tC (V.int 5))))) (tTest (tOp rNe (tCall sp_Z4 [] E0 (tCons (tBM K "str" (rJoin K) (tC (V.str "\n")) (tCons (tVar 2) (tNil))) (tNil))) (tC (V.int 0))))) (tSeq (tRet (tC (V.bl false))) (tNext)) (tNext)) (tSeq (tAsg (tOp rCat (tOp rCat (tSl (rSlL K) (tVar 1) tNoPart (tPart (tC (V.int 1)))) (tSl (rSlL K) (tVar 2) tNoPart (tPart (tC (V.int 1))))) (tSl (rSlL K) (tVar 1) (tPart (tC (V.int 1))) tNoPart)) (gName 5)) (tSeq (tFor (iTup K (tTup (tCons (tTup (tCons (tOp rCat (tVar 1) (tRevSl K (tVar 2) (tPart (tUn (rU fun i=>.int (-i)) (tC (V.int 1)))))) (tCons (tC (V.int 3)) (tNil)))) (tCons (tTup (tCons (tOp rCat (tSl (rSlL K) (tVar 2) tNoPart (tPart (tC (V.int 1)))) (tVar 1)) (tCons (tC (V.int 0)) (tNil)))) (tCons (tTup (tCons (tVar 5) (tCons (tC (V.int 2)) (tNil)))) (tCons (tTup (tCons (tOp rCat (tVar 1) (tLst (tCons (tC (V.str "")) (tNil)))) (tCons (tC (V.int 2)) (tNil)))) (tNil))))))) (gTup K 2 (gCons (gName 8) (gCons (gName 9) (gNil)))) (tSeq (tIfS (tTest (tOp rNe (tCall sp_Z4 [] E0 (tCons (tBM K "str" (rJoin K) (tC (V.str "\n")) (tCons (tVar 8) (tNil))) (tNil))) (tVar 9))) (tSeq (tRet (tC (V.bl false))) (tNext)) (tNext)) (tNext))) (tSeq (tAsg (tLc (iEnumS (tCons (tC (V.str "acdef")) (tNil))) (gTup K 2 (gCons (gName 12) (gCons (gName 14) (gNil)))) (tYes) (tOp rAdS (tOp rAdS (tOp rAdS (tOp rAdS (tC (V.str "line ")) (tVar 14)) (tC (V.str " "))) (tCB rStrX (tCons (tOp (rI0 fun i j=>.int (i+j)) (tC (V.int 1)) (tVar 12)) (tNil)))) (tC (V.str " up 1 1 1: run 1"))) [12,14]) (gName 6)) (tSeq (tAsg (tLc (iStr (tC (V.str "abcde"))) (gName 14) (tYes) (tOp rAdS (tOp rAdS (tC (V.str "bottom ")) (tVar 14)) (tC (V.str ": run 1"))) [14]) (gName 7)) (tSeq (tIfS (tOr (tTest (tOp (rNeD K) (tCall sp_Z4 [] E0 (tCons (tBM K "str" (rJoin K) (tC (V.str "\n")) (tCons (tOp rCat (tVar 6) (tSl (rSlL K) (tVar 7) tNoPart (tPart (tC (V.int 4))))) (tNil))) (tNil))) (tUn (rU fun i=>.int (-i)) (tC (V.int 1))))) (tTest (tOp rNe (tCall sp_Z4 [] E0 (tCons (tBM K "str" (rJoin K) (tC (V.str "\n")) (tCons (tOp rCat (tVar 6) (tLst (tCons (tC (V.str "line g 9 up 1 1 1: run 1")) (tNil)))) (tNil))) (tNil))) (tC (V.int 5))))) (tSeq (tRet (tC (V.bl false))) (tNext)) (tNext)) (tSeq (tIfS (tOr (tTest (tOp rNe (tCall sp_Z4 [] E0 (tCons (tBM K "str" (rJoin K) (tC (V.str "\n")) (tCons (tOp rCat (tVar 6) (tVar 7)) (tNil))) (tNil))) (tC (V.int 9)))) (tTest (tOp rNe (tCall sp_Z4 [] E0 (tCons (tBM K "str" (rJoin K) (tC (V.str "\n")) (tCons (tVar 1) (tNil))) (tNil))) (tC (V.int 2))))) (tSeq (tRet (tC (V.bl false))) (tNext)) (tNext)) (tSeq (tIfS (tTest (tOp rNe (tCall sp_Z4 [] E0 (tCons (tBM K "str" (rJoin K) (tC (V.str "\n")) (tCons (tOp rCat (tVar 1) (tSl (rSlL K) (tVar 2) tNoPart (tPart (tC (V.int 1))))) (tNil))) (tNil))) (tC (V.int 3)))) (tSeq (tRet (tC (V.bl false))) (tNext)) (tNext)) (tSeq (tRet (tOp (rEqD K) (tLst (tCons (tCall sp_Z4 [] E0 (tCons (tOp rAdS (tOp (rIxL K) (tVar 1) (tC (V.int 0))) (tC (V.str "\n"))) (tNil))) (tCons (tCall sp_Z4 [] E0 (tCons (tC (V.str "")) (tNil))) (tCons (tCall sp_Z4 [] E0 (tCons (tC (V.str "line a 1 up 1 1 1: run 1, answer b")) (tNil))) (tNil))))) (tLst (tCons (tC (V.int 1)) (tCons (tC (V.int 0)) (tCons (tC (V.int 1)) (tNil))))))) (tNext)))))))))))))))
theorem ok_law {sp sp_Zb sp_Zc sp_Z4 sp_Z0 sp_Z2:Sp} (T:Txt Pg w K mg base ad)
    (f_Zb:FnOk Pg w K mg base CX0 (2+1) ad.a_Zb ad.d_Zb ps_Zb sp_Zb)
    (f_Zc:FnOk Pg w K mg base CX0 (4+1) ad.a_Zc ad.d_Zc ps_Zc sp_Zc)
    (f_Z4:FnOk Pg w K mg base CX0 (16+1) ad.a_Z4 ad.d_Z4 ps_Z4 sp_Z4)
    (f_Z0:FnOk Pg w K mg base CX0 (2+1) ad.a_Z0 ad.d_Z0 ps_Z0 sp_Z0)
    (f_Z2:FnOk Pg w K mg base CX0 (2+1) ad.a_Z2 ad.d_Z2 ps_Z2 sp_Z2)
    (len:∀ vs H Q E,sp vs H Q E→vs.length=ps_law.length) (rd:∀ vs H Q E,sp vs H Q E→t_law Pg w K ad sp_Zb sp_Zc sp_Z4 sp_Z0 sp_Z2 { nx:=fun _ H'=>Q .non H',rt:=Q } (start ns_law vs) H):FnAt Pg w K mg base (18+1) ad.a_law ad.d_law ps_law sp :=
  uFnAt (t:=t_law Pg w K ad sp_Zb sp_Zc sp_Z4 sp_Z0 sp_Z2) T.f_law sc_law len (fun cdv outer s H E hr=>have hu:=hr.units;ubCons (usSet 1 sc_law.nd (uLst (uaCons (uStr) (uaNil)))) (ubCons (usSet 1 sc_law.nd (uBin op_cat (uv 1) (uLst (uaCons (uStr) (uaNil))))) (ubCons (usSet 2 sc_law.nd (uLst (uaCons (uStr) (uaCons (uStr) (uaNil))))) (ubCons (usIf (uW (uOr (utCmp (op_neD hu) (uCall f_Z4 (hr.mono (by decide)) T.m_Z4 T.f_Z4.kp T.n_Z4 (uaCons (uBm PySem.F.plainAttrs_str PySem.F.slot_str_join PySem.F.type_str_join mt_join (uStr) (uaCons (uBin op_cat (uv 1) (uv 2)) (uaNil))) (uaNil))) (uUn un_neg (uInt)) (nomark _)) (uOr1 (utCmp (op_neD hu) (uCall f_Z4 (hr.mono (by decide)) T.m_Z4 T.f_Z4.kp T.n_Z4 (uaCons (uIx ix_list (uv 1) (uInt)) (uaNil))) (uUn un_neg (uInt)) (nomark _))))) (ubCons (usRet (uBl)) (ubNil)) (ubNil)) (ubCons (usForG rfl (uiRng T.b_range (uaCons (uCallB (call_max2 rfl) T.b_max (by decide +kernel) (uaCons (uInt) (uaCons (uCallB (call_min2 rfl) T.b_min (by decide +kernel) (uaCons (uInt) (uaCons (uCallB call_len_seq T.b_len (by decide +kernel) (uaCons (uv 0) (uaNil))) (uaNil)))) (uaNil)))) (uaNil))) (ugName 3 sc_law.nd) (ubCons (usPar (i:=10) (j:=11) rfl sc_law.nd (uaCons (uCall f_Zb (hr.mono (by decide)) T.m_Zb T.f_Zb.kp T.n_Zb (uaCons (uv 0) (uaCons (uv 3) (uaNil)))) (uaCons (uCall0 f_Z0 (hr.mono (by decide)) T.m_Z0 T.f_Z0.kp T.n_Z0) (uaNil)))) (ubCons (usForG rfl (uiEnum T.b_enumerate (uaCons (uv 11) (uaNil))) (ugTup rfl (ugsCons (ugName 12 sc_law.nd) (ugsCons (ugName 4 sc_law.nd) (ugsNil)))) (ubCons (usSet 9 sc_law.nd (uBin op_add (uInt) (uCall f_Zc (hr.mono (by decide)) T.m_Zc T.f_Zc.kp T.n_Zc (uaCons (uv 10) (uaCons (uBin op_add (uBin op_mod (uv 12) (uInt)) (uInt)) (uaCons (uInt) (uaNil))))))) (ubCons (usSet 13 sc_law.nd (uIx ix_list (uv 11) (uCall f_Zc (hr.mono (by decide)) T.m_Zc T.f_Zc.kp T.n_Zc (uaCons (uv 10) (uaCons (uBin op_add (uBin op_mod (uv 12) (uInt)) (uInt)) (uaCons (uCallB call_len_seq T.b_len (by decide +kernel) (uaCons (uv 11) (uaNil))) (uaNil))))))) (ubCons (usSet 8 sc_law.nd (uBin op_cat (uBin op_cat (uBin op_cat (uSlc sl_list (uv 1) uoNone (uoSome (uv 9))) (uLst (uaCons (uv 4) (uaNil)))) (uSlc sl_list (uv 1) (uoSome (uv 9)) uoNone)) (uv 2))) (ubCons (usIf (utCmp op_ne (uCall f_Z4 (hr.mono (by decide)) T.m_Z4 T.f_Z4.kp T.n_Z4 (uaCons (uBm PySem.F.plainAttrs_str PySem.F.slot_str_join PySem.F.type_str_join mt_join (uStr) (uaCons (uv 8) (uaNil))) (uaNil))) (uv 9) (nomark _)) (ubCons (usRet (uBl)) (ubNil)) (ubNil)) (ubCons (usIf (utCmp op_ne (uCall f_Z4 (hr.mono (by decide)) T.m_Z4 T.f_Z4.kp T.n_Z4 (uaCons (uBm PySem.F.plainAttrs_str PySem.F.slot_str_join PySem.F.type_str_join mt_join (uStr) (uaCons (uBin op_cat (uBin op_cat (uv 1) (uLst (uaCons (uv 4) (uaCons (uv 13) (uaNil))))) (uv 2)) (uaNil))) (uaNil))) (uInt) (nomark _)) (ubCons (usRet (uBl)) (ubNil)) (ubNil)) (ubNil)))))) PassesOwn.never) (ubNil))) PassesOwn.never) (ubCons (usForG rfl (uiLst (uCall0 f_Z2 (hr.mono (by decide)) T.m_Z2 T.f_Z2.kp T.n_Z2)) (ugName 4 sc_law.nd) (ubCons (usIf (uW (uOr (utCmp op_ne (uCall f_Z4 (hr.mono (by decide)) T.m_Z4 T.f_Z4.kp T.n_Z4 (uaCons (uBm PySem.F.plainAttrs_str PySem.F.slot_str_join PySem.F.type_str_join mt_join (uStr) (uaCons (uBin op_cat (uBin op_cat (uv 1) (uv 2)) (uLst (uaCons (uv 4) (uaNil)))) (uaNil))) (uaNil))) (uInt) (nomark _)) (uOr1 (utCmp op_ne (uCall f_Z4 (hr.mono (by decide)) T.m_Z4 T.f_Z4.kp T.n_Z4 (uaCons (uBm PySem.F.plainAttrs_str PySem.F.slot_str_join PySem.F.type_str_join mt_join (uStr) (uaCons (uBin op_cat (uBin op_cat (uv 1) (uv 2)) (uLst (uaCons (uv 4) (uaCons (uStr) (uaNil))))) (uaNil))) (uaNil))) (uInt) (nomark _))))) (ubCons (usRet (uBl)) (ubNil)) (ubNil)) (ubNil)) PassesOwn.never) (ubCons (usIf (uW (uOr (utCmp (op_neD hu) (uLcG rfl sc_law.nd (uiTup (uTup (uaCons (uNon') (uaCons (uInt) (uaCons (uv 1) (uaCons (uBl) (uaCons (uTup (uaCons (uStr) (uaNil))) (uaNil)))))))) (blkOk_by (own:=[("_law_thing",15)]) (N:=ns_law) (by kernel_rfl)) (fun _ _ _ _ _=>ugName 15 sc_law.nd) (fun _ _ _ _ _=>utsNil) (fun _ _ _ _ _=>uCall f_Z4 (hr.mono (by decide)) T.m_Z4 T.f_Z4.kp T.n_Z4 (uaCons (uv 15) (uaNil)))) (uBin op_rep (uLst (uaCons (uInt) (uaNil))) (uInt)) (nomark _)) (uOr1 (utCmp op_ne (uCall f_Z4 (hr.mono (by decide)) T.m_Z4 T.f_Z4.kp T.n_Z4 (uaCons (uBm PySem.F.plainAttrs_str PySem.F.slot_str_join PySem.F.type_str_join mt_join (uStr) (uaCons (uv 2) (uaNil))) (uaNil))) (uInt) (nomark _))))) (ubCons (usRet (uBl)) (ubNil)) (ubNil)) (ubCons (usSet 5 sc_law.nd (uBin op_cat (uBin op_cat (uSlc sl_list (uv 1) uoNone (uoSome (uInt))) (uSlc sl_list (uv 2) uoNone (uoSome (uInt)))) (uSlc sl_list (uv 1) (uoSome (uInt)) uoNone))) (ubCons (usForG rfl (uiTup (uTup (uaCons (uTup (uaCons (uBin op_cat (uv 1) (uRevSl (uv 2) (uoSome (uUn un_neg (uInt))))) (uaCons (uInt) (uaNil)))) (uaCons (uTup (uaCons (uBin op_cat (uSlc sl_list (uv 2) uoNone (uoSome (uInt))) (uv 1)) (uaCons (uInt) (uaNil)))) (uaCons (uTup (uaCons (uv 5) (uaCons (uInt) (uaNil)))) (uaCons (uTup (uaCons (uBin op_cat (uv 1) (uLst (uaCons (uStr) (uaNil)))) (uaCons (uInt) (uaNil)))) (uaNil))))))) (ugTup rfl (ugsCons (ugName 8 sc_law.nd) (ugsCons (ugName 9 sc_law.nd) (ugsNil)))) (ubCons (usIf (utCmp op_ne (uCall f_Z4 (hr.mono (by decide)) T.m_Z4 T.f_Z4.kp T.n_Z4 (uaCons (uBm PySem.F.plainAttrs_str PySem.F.slot_str_join PySem.F.type_str_join mt_join (uStr) (uaCons (uv 8) (uaNil))) (uaNil))) (uv 9) (nomark _)) (ubCons (usRet (uBl)) (ubNil)) (ubNil)) (ubNil)) PassesOwn.never) (ubCons (usSetLc rfl sc_law.nd rfl rfl (sw_true rfl rfl rfl (by decide +kernel)) (uiEnumS T.b_enumerate (uaCons (uStr) (uaNil))) (blkOk_by (own:=[("_law_k",12),("_law_name",14)]) (N:=ns_law) (by kernel_rfl)) (fun _ _ _ _ _=>ugTup rfl (ugsCons (ugName 12 sc_law.nd) (ugsCons (ugName 14 sc_law.nd) (ugsNil)))) (fun _ _ _ _ _=>utsNil) (fun _ _ _ _ _=>uBin op_add_str (uBin op_add_str (uBin op_add_str (uBin op_add_str (uStr) (uv 14)) (uStr)) (uCallTy call_strX T.b_str (by decide +kernel) (uaCons (uBin op_add (uInt) (uv 12)) (uaNil)))) (uStr))) (ubCons (usSetLc rfl sc_law.nd rfl rfl (sw_true rfl rfl rfl (by decide +kernel)) (uiStr (uStr)) (blkOk_by (own:=[("_law_name",14)]) (N:=ns_law) (by kernel_rfl)) (fun _ _ _ _ _=>ugName 14 sc_law.nd) (fun _ _ _ _ _=>utsNil) (fun _ _ _ _ _=>uBin op_add_str (uBin op_add_str (uStr) (uv 14)) (uStr))) (ubCons (usIf (uW (uOr (utCmp (op_neD hu) (uCall f_Z4 (hr.mono (by decide)) T.m_Z4 T.f_Z4.kp T.n_Z4 (uaCons (uBm PySem.F.plainAttrs_str PySem.F.slot_str_join PySem.F.type_str_join mt_join (uStr) (uaCons (uBin op_cat (uv 6) (uSlc sl_list (uv 7) uoNone (uoSome (uInt)))) (uaNil))) (uaNil))) (uUn un_neg (uInt)) (nomark _)) (uOr1 (utCmp op_ne (uCall f_Z4 (hr.mono (by decide)) T.m_Z4 T.f_Z4.kp T.n_Z4 (uaCons (uBm PySem.F.plainAttrs_str PySem.F.slot_str_join PySem.F.type_str_join mt_join (uStr) (uaCons (uBin op_cat (uv 6) (uLst (uaCons (uStr) (uaNil)))) (uaNil))) (uaNil))) (uInt) (nomark _))))) (ubCons (usRet (uBl)) (ubNil)) (ubNil)) (ubCons (usIf (uW (uOr (utCmp op_ne (uCall f_Z4 (hr.mono (by decide)) T.m_Z4 T.f_Z4.kp T.n_Z4 (uaCons (uBm PySem.F.plainAttrs_str PySem.F.slot_str_join PySem.F.type_str_join mt_join (uStr) (uaCons (uBin op_cat (uv 6) (uv 7)) (uaNil))) (uaNil))) (uInt) (nomark _)) (uOr1 (utCmp op_ne (uCall f_Z4 (hr.mono (by decide)) T.m_Z4 T.f_Z4.kp T.n_Z4 (uaCons (uBm PySem.F.plainAttrs_str PySem.F.slot_str_join PySem.F.type_str_join mt_join (uStr) (uaCons (uv 1) (uaNil))) (uaNil))) (uInt) (nomark _))))) (ubCons (usRet (uBl)) (ubNil)) (ubNil)) (ubCons (usIf (utCmp op_ne (uCall f_Z4 (hr.mono (by decide)) T.m_Z4 T.f_Z4.kp T.n_Z4 (uaCons (uBm PySem.F.plainAttrs_str PySem.F.slot_str_join PySem.F.type_str_join mt_join (uStr) (uaCons (uBin op_cat (uv 1) (uSlc sl_list (uv 2) uoNone (uoSome (uInt)))) (uaNil))) (uaNil))) (uInt) (nomark _)) (ubCons (usRet (uBl)) (ubNil)) (ubNil)) (ubCons (usRet (uCmp (op_eqD hu) (uLst (uaCons (uCall f_Z4 (hr.mono (by decide)) T.m_Z4 T.f_Z4.kp T.n_Z4 (uaCons (uBin op_add_str (uIx ix_list (uv 1) (uInt)) (uStr)) (uaNil))) (uaCons (uCall f_Z4 (hr.mono (by decide)) T.m_Z4 T.f_Z4.kp T.n_Z4 (uaCons (uStr) (uaNil))) (uaCons (uCall f_Z4 (hr.mono (by decide)) T.m_Z4 T.f_Z4.kp T.n_Z4 (uaCons (uStr) (uaNil))) (uaNil))))) (uLst (uaCons (uInt) (uaCons (uInt) (uaCons (uInt) (uaNil))))) (nomark _))) (ubNil)))))))))))))))) rd
end
end
end G
namespace Ev
noncomputable section
open PySem PySem.Spec L2
section
abbrev Tp (K:W.Frag) (G:Hp) (a:Addr) (xs:List V):Prop:=G a=some (.tup xs)∨KTup K a xs
mutual
inductive Dq (K:W.Frag) (G:Hp):V→PyData→Prop
  | non:Dq K G .non .none
  | bl (b:Bool):Dq K G (.bl b) (.bool b)
  | int (i:Int):Dq K G (.int i) (.int i)
  | str (x:Str):Dq K G (.str x) (.str x)
  | lst {a:Addr} {xs:List V} {ds:List PyData}:G a=some (.lst xs)→DqA K G xs ds→Dq K G (.ref a) (.list ds)
  | tup {a:Addr} {xs:List V} {ds:List PyData}:Tp K G a xs→DqA K G xs ds→Dq K G (.ref a) (.tuple ds)
inductive DqA (K:W.Frag) (G:Hp):List V→List PyData→Prop
  | nil:DqA K G [] []
  | cons {v:V} {vs:List V} {d:PyData} {ds:List PyData}:Dq K G v d→DqA K G vs ds→DqA K G (v :: vs) (d :: ds)
end
variable {K:W.Frag} {G G' H H':Hp} {v:V} {vs ws:List V} {d:PyData} {ds es:List PyData} {a:Addr} {xs:List V}
theorem Tp.mono (e:Same G G') (h:Tp K G a xs):Tp K G' a xs:=h.imp (e _ _) id
theorem Tp.sq (h:Tp K G a xs):SqT K G a xs:=h.imp .inl id
theorem Tp.ty (h:Tp K G a xs):TyX K G (.ref a) (.type "tuple"):=by
  rcases h with h | h
  · exact .of (.tup h)
  · exact .tup h
mutual
theorem Dq.mono (e:Same G G'):∀ {v:V} (d:PyData),Dq K G v d→Dq K G' v d
  | _,.none,.non=>.non
  | _,.bool _,.bl b=>.bl b
  | _,.int _,.int i=>.int i
  | _,.str _,.str x=>.str x
  | _,.list ds,.lst h t=>.lst (e _ _ h) (DqA.mono e ds t)
  | _,.tuple ds,.tup h t=>.tup (Tp.mono e h) (DqA.mono e ds t)
  | _,.dict _,h=>by cases h
theorem DqA.mono (e:Same G G'):∀ {vs:List V} (ds:List PyData),DqA K G vs ds→DqA K G' vs ds
  | _,[],.nil=>.nil
  | _,d :: ds,.cons h t=>.cons (Dq.mono e d h) (DqA.mono e ds t)
end
mutual
theorem Dq.dp:∀ {v:V} (d:PyData),Dq K G v d→Dp K G v d
  | _,.none,.non=>.non
  | _,.bool _,.bl b=>.bl b
  | _,.int _,.int i=>.int i
  | _,.str _,.str x=>.str x
  | _,.list ds,.lst h t=>.lst (.of h) (DqA.dp ds t)
  | _,.tuple ds,.tup h t=>.tup (Tp.sq h) (DqA.dp ds t)
  | _,.dict _,h=>by cases h
theorem DqA.dp:∀ {vs:List V} (ds:List PyData),DqA K G vs ds→DpAll K G vs ds
  | _,[],.nil=>.nil
  | _,d :: ds,.cons h t=>.cons (Dq.dp d h) (DqA.dp ds t)
end
theorem Dq.up (h:Dq K G v d) (e:Same G G'):Dq K G' v d:=h.mono e d
theorem DqA.up (h:DqA K G vs ds) (e:Same G G'):DqA K G' vs ds:=h.mono e ds
theorem DqA.length:∀ {vs:List V} {ds:List PyData},DqA K G vs ds→vs.length=ds.length
  | _,_,.nil=>rfl
  | _,_,.cons _ t=>by rw[List.length_cons,List.length_cons,t.length]
theorem DqA.app:∀ {vs:List V} {ds:List PyData},DqA K G vs ds→DqA K G ws es→DqA K G (vs++ws) (ds++es)
  | _,_,.nil,h=>h
  | _,_,.cons h t,h'=>.cons h (t.app h')
theorem DqA.get:∀ {vs:List V} {ds:List PyData} {i:Nat} {v:V},DqA K G vs ds→vs[i]?=some v→∃ d,ds[i]?=some d∧Dq K G v d
  | _,_,i,_,.nil,e=>by simp at e
  | _,_,0,_,.cons h _,e=>by
    rw[List.getElem?_cons_zero] at e;cases e
    exact⟨_,rfl,h⟩
  | _,_,i+1,_,.cons _ t,e=>by
    rw[List.getElem?_cons_succ] at e
    rw[List.getElem?_cons_succ]
    exact t.get e
theorem DqA.at:∀ {vs:List V} {ds:List PyData} {i:Nat} {d:PyData},DqA K G vs ds→ds[i]?=some d→∃ v,vs[i]?=some v∧Dq K G v d
  | _,_,i,_,.nil,e=>by simp at e
  | _,_,0,_,.cons h _,e=>by
    rw[List.getElem?_cons_zero] at e;cases e
    exact⟨_,rfl,h⟩
  | _,_,i+1,_,.cons _ t,e=>by
    rw[List.getElem?_cons_succ] at e
    rw[List.getElem?_cons_succ]
    exact t.at e
theorem DqA.drop:∀ {vs:List V} {ds:List PyData} (n:Nat),DqA K G vs ds→DqA K G (vs.drop n) (ds.drop n)
  | _,_,0,h=>h
  | _,_,_+1,.nil=>.nil
  | _,_,n+1,.cons _ t=>t.drop n
theorem DqA.take:∀ {vs:List V} {ds:List PyData} (n:Nat),DqA K G vs ds→DqA K G (vs.take n) (ds.take n)
  | _,_,0,_=>.nil
  | _,_,_+1,.nil=>.nil
  | _,_,n+1,.cons h t=>.cons h (t.take n)
theorem DqA.set:∀ {vs:List V} {ds:List PyData} {i:Nat} {d:PyData} {v:V},DqA K G vs ds→ds[i]?=some d→Dq K G v d→DqA K G (vs.set i v) ds
  | _,_,i,_,_,.nil,e,_=>by simp at e
  | _,_,0,_,_,.cons _ t,e,h=>by
    rw[List.getElem?_cons_zero] at e;cases e
    exact .cons h t
  | _,_,i+1,_,_,.cons h' t,e,h=>by
    rw[List.getElem?_cons_succ] at e
    exact .cons h' (t.set e h)
def tyD:PyData→Nat
  | .none=>0 | .bool _=>1 | .int _=>2 | .str _=>3 | .list _=>4 | .tuple _=>5 | .dict _=>6
theorem Dq.ty (h:Dq K G v d):TyX K G v (.type (tyS (tyD d))):=by
  cases h with
  | non=>exact .of .non
  | bl b=>exact .of (.bl b)
  | int i=>exact .of (.int i)
  | str x=>exact .of (.str x)
  | lst h t=>exact .of (.lst h)
  | tup h t=>exact Tp.ty h
theorem Dq.nodict (h:Dq K G v d):tyD d≤5:=by
  cases h <;> simp[tyD]
theorem same_new {p:Addr} {o:HO} (hp:G p=none):Same G (L2.upd G p o):=fun b u e=>by
  rw[upd_ne (fun z=>by subst z;rw[hp] at e;cases e)];exact e
theorem same_upd2 {p:Addr} {o:HO} (e:Same G H):Same (L2.upd G p o) (L2.upd H p o):=fun b u h=>by
  by_cases z:b=p
  · subst z;rw[upd_same] at h ⊢;exact h
  · rw[upd_ne z] at h ⊢;exact e _ _ h
theorem same_off {p:Addr} {o:HO} (e:Same G H) (hp:G p=none):Same G (L2.upd H p o):=fun b u h=>by
  rw[upd_ne (fun z=>by subst z;rw[hp] at h;cases h)];exact e _ _ h
structure Gr (G H G' H':Hp):Prop where
  up:Same G G'
  le:Same G' H'
  new:∀ a,G' a≠none→G a≠none∨H a=none
theorem Gr.refl (e:Same G H):Gr G H G H:=⟨.refl _,e,fun _ h=>.inl h⟩
theorem Gr.none (g:Gr G H G' H') {p:Addr} {o:HO} (h1:G p=none) (h2:H p=some o):G' p=none:=by
  cases q:G' p with
  | none=>rfl
  | some u =>
    rcases g.new p (by rw[q];simp) with z | z
    · exact absurd h1 z
    · rw[h2] at z;cases z
theorem Gr.add (e:Same G H) {p:Addr} (o:HO) (hp:H p=Option.none):Gr G H (L2.upd G p o) (L2.upd H p o):=⟨same_new (e.free hp),same_upd2 e,fun a h=>by
  unfold L2.upd at h
  split at h
  · next z=>subst z;exact .inr hp
  · exact .inl h⟩
variable {σ:L2.St} {Q:VK}
end
end
end Ev
namespace G
noncomputable section
open PySem PySem.Spec L2 Ev
section
variable {Pg:Program} {w:World} {K:W.Frag} {mg:Str→Option Value} {base:Heap} {ad:Ad}
def kids:PyData→List PyData
  | .list ds=>ds
  | .tuple ds=>ds
  | _=>[]
def spInner (K:W.Frag):Sp:=fun vs H Q _=>∃ v d G,vs=[v]∧Same G H∧Dq K G v d∧∀ l ys H',Same H H'→H l=none→H' l=some (.lst ys)→DqA K G ys (kids d)→Q (.ref l) H'
theorem rd_Za:∀ vs H Q E,spInner K vs H Q E→t_Za Pg w K ad { nx:=fun _ H'=>Q .non H',rt:=Q } (start ns_Za vs) H:=by
  rintro vs H Q E ⟨v,d,G,rfl,e,h,q⟩
  have nd:=h.nodict
  refine⟨v,rfl,v,tyS (tyD d),tyS 6,isB (tyD d) 6,rfl,(h.up e).ty,kit_tab _ 6 (by omega) (by decide) (by decide),_,rfl,?_⟩
  have e6:isB (tyD d) 6=false:=by cases h <;> rfl
  rw[e6]
  refine iteF ⟨v,rfl,(show 2≤sizeLine by decide),fun p hp=>?_⟩
  have s1:=same_new (G:=H) (o:=.tup [.ty (tyS 4),.ty (tyS 5)]) hp
  have any:∃ b,W.kitAny K (.type (tyS (tyD d))) [.type (tyS 4),.type (tyS 5)]=some b∧(b=true↔tyD d=4∨tyD d=5):=by
    unfold W.kitAny W.kitAny W.kitAny
    rw[kit_tab _ 4 (by omega) (by decide) (by decide),kit_tab _ 5 (by omega) (by decide) (by decide)]
    cases h <;> exact⟨_,rfl,by simp[tyD]⟩
  obtain⟨b,hb,hb2⟩:=any
  refine⟨v,tyS (tyD d),p,tyS 4,tyS 5,b,rfl,upd_same,(h.up (e.trans s1)).ty,hb,b,rfl,?_⟩
  have other:(tyD d≠4∧tyD d≠5)→kids d=[]:=fun z=>by cases h <;> first | rfl | exact absurd rfl z.1 | exact absurd rfl z.2
  cases b with
  | false =>
    refine iteF ⟨Nat.zero_le _,fun l hl=>q l [] _ (s1.trans (same_new hl)) (s1.free hl) upd_same ?_⟩
    rw[other ⟨fun z=>Bool.noConfusion (hb2.mpr (.inl z)),fun z=>Bool.noConfusion (hb2.mpr (.inr z))⟩]
    exact .nil
  | true =>
    refine iteT ⟨v,rfl,?_⟩
    have z:=hb2.mp rfl
    cases h with
    | @lst a xs ds ha t=>exact⟨a,xs,rfl,.inl (.of (s1 _ _ (e _ _ ha))),fun l hl=>q l xs _ (s1.trans (same_new hl)) (s1.free hl) upd_same t⟩
    | @tup a xs ds ha t=>exact⟨a,xs,rfl,.inr (Tp.sq (Tp.mono (e.trans s1) ha)),fun l hl=>q l xs _ (s1.trans (same_new hl)) (s1.free hl) upd_same t⟩
    | _=>simp[tyD] at z
theorem f_Za (T:Txt Pg w K mg base ad):FnOk Pg w K mg base CX0 (2+1) ad.a_Za ad.d_Za ps_Za (spInner K) :=
  ok_Za T (fun vs H Q E ⟨v,d,G,e,_⟩=>by rw[e];rfl) rd_Za
def spRefilled (K:W.Frag):Sp:=fun vs H Q _=>∃ v b d ys G,vs=[v,.ref b]∧Same G H∧Dq K H v d∧H b=some (.lst ys)∧DqA K G ys (kids d)∧∀ v' H' G',Same H H'→Gr G H G' H'→Dq K G' v' d→(∀ l,v'=.ref l→H l=none)→Q v' H'
theorem rd_Zp:∀ vs H Q E,spRefilled K vs H Q E→t_Zp Pg w K ad { nx:=fun _ H'=>Q .non H',rt:=Q } (start ns_Zp vs) H:=by
  rintro vs H Q E ⟨v,b,d,ys,G,rfl,e,h,hb,t,q⟩
  have nd:=h.nodict
  refine⟨v,rfl,v,tyS (tyD d),tyS 6,isB (tyD d) 6,rfl,h.ty,kit_tab _ 6 (by omega) (by decide) (by decide),_,rfl,?_⟩
  have e6:isB (tyD d) 6=false:=by cases h <;> rfl
  rw[e6]
  refine iteF ⟨v,rfl,v,tyS (tyD d),tyS 5,isB (tyD d) 5,rfl,h.ty,kit_tab _ 5 (by omega) (by decide) (by decide),_,rfl,?_⟩
  cases h with
  | tup ha ht =>
    refine iteT ⟨.ref b,rfl,b,ys,rfl,.inl ⟨.of hb,fun l hl=>?_⟩⟩
    exact q _ _ _ (same_new hl) (.add e (.tup ys) hl) (.tup (.inl upd_same) (t.up (same_new (e.free hl)))) fun l' z=>by cases z;exact hl
  | lst ha ht =>
    refine iteF ⟨_,rfl,_,tyS 4,tyS 4,true,rfl,.of (.lst ha),kit_tab 4 4 (by decide) (by decide) (by decide),_,rfl,?_⟩
    refine iteT ⟨.ref b,rfl,b,ys,rfl,.inl (.of hb),fun l hl=>?_⟩
    exact q _ _ _ (same_new hl) (.add e (.lst ys) hl) (.lst upd_same (t.up (same_new (e.free hl)))) fun l' z=>by cases z;exact hl
  | non=>exact iteF ⟨_,rfl,_,tyS 0,tyS 4,false,rfl,.of .non,kit_tab 0 4 (by decide) (by decide) (by decide),_,rfl,iteF ⟨_,rfl,q _ _ _ (.refl _) (.refl e) .non fun l z=>by cases z⟩⟩
  | bl b=>exact iteF ⟨_,rfl,_,tyS 1,tyS 4,false,rfl,.of (.bl b),kit_tab 1 4 (by decide) (by decide) (by decide),_,rfl,iteF ⟨_,rfl,q _ _ _ (.refl _) (.refl e) (.bl b) fun l z=>by cases z⟩⟩
  | int i=>exact iteF ⟨_,rfl,_,tyS 2,tyS 4,false,rfl,.of (.int i),kit_tab 2 4 (by decide) (by decide) (by decide),_,rfl,iteF ⟨_,rfl,q _ _ _ (.refl _) (.refl e) (.int i) fun l z=>by cases z⟩⟩
  | str x=>exact iteF ⟨_,rfl,_,tyS 3,tyS 4,false,rfl,.of (.str x),kit_tab 3 4 (by decide) (by decide) (by decide),_,rfl,iteF ⟨_,rfl,q _ _ _ (.refl _) (.refl e) (.str x) fun l z=>by cases z⟩⟩
theorem f_Zp (T:Txt Pg w K mg base ad):FnOk Pg w K mg base CX0 (2+1) ad.a_Zp ad.d_Zp ps_Zp (spRefilled K) :=
  ok_Zp T (fun vs H Q E ⟨v,b,d,ys,G,e,_⟩=>by rw[e];rfl) rd_Zp
end
section
mutual
def sz:PyData→Nat
  | .list ds=>1+szs ds
  | .tuple ds=>1+szs ds
  | _=>1
def szs:List PyData→Nat
  | []=>0
  | d :: ds=>sz d+szs ds
end
theorem szs_app:∀ (a b:List PyData),szs (a++b)=szs a+szs b
  | [],b=>by rw[List.nil_append,szs,Nat.zero_add]
  | d :: a,b=>by rw[List.cons_append,szs,szs,szs_app a b,Nat.add_assoc]
theorem sz_kids:∀ d:PyData,sz d=1+szs (kids d)
  | .list ds=>by rw[sz,kids]
  | .tuple ds=>by rw[sz,kids]
  | .none=>by simp[sz,kids,szs]
  | .bool _=>by simp[sz,kids,szs]
  | .int _=>by simp[sz,kids,szs]
  | .str _=>by simp[sz,kids,szs]
  | .dict _=>by simp[sz,kids,szs]
theorem sz_pos (d:PyData):1≤sz d:=by rw[sz_kids];omega
theorem len_szs:∀ ds:List PyData,ds.length≤szs ds
  | []=>Nat.zero_le _
  | d :: ds=>by rw[List.length_cons,szs];have:=len_szs ds;have:=sz_pos d;omega
theorem szL:sizeLine=16777216:=sizeLine_eq
def SpanOk (ds:List PyData) (j:Nat) (x:PyData):Prop:=∃ (f n:Nat) (dj:PyData),x=.tuple [.int f,.int (f+n:Nat)]∧f+n≤ds.length∧ds[j]?=some dj∧(ds.drop f).take n=kids dj
theorem SpanOk.app {ds es:List PyData} {j:Nat} {x:PyData} (h:SpanOk ds j x):SpanOk (ds++es) j x:=by
  obtain⟨f,n,dj,e,l,g,t⟩:=h
  refine⟨f,n,dj,e,by rw[List.length_append];omega,by rw[List.getElem?_append_left (List.getElem?_eq_some_iff.mp g).1];exact g,?_⟩
  rw[List.drop_append_of_le_length (by omega),List.take_append_of_le_length (by rw[List.length_drop];omega)]
  exact t
section
variable {Pg:Program} {w:World} {K:W.Frag} {mg:Str→Option Value} {base:Heap} {ad:Ad}
def spCopied (K:W.Frag):Sp:=fun vs H Q _=>∃ v d G,vs=[v]∧Same G H∧Dq K G v d∧sz d≤100000∧∀ v' H' G',Same H H'→Gr G H G' H'→Dq K G' v' d→(∀ l,v'=.ref l→H l=none)→Q v' H'
structure W1 (K:W.Frag) (v:V) (d:PyData) (G H:Hp) (A B:Addr) (m:Nat) (σ:L2.St) (H1:Hp) (ds sd:List PyData) (vs sp:List V) (G1:Hp):Prop where
  st:∃ t,σ=[some v,some (.ref A),some (.ref B),none,t,none,none]
  hA:H1 A=some (.lst vs)
  hB:H1 B=some (.lst sp)
  gA:G1 A=none
  gB:G1 B=none
  s:Same H H1
  gr:Gr G H G1 H1
  dv:DqA K G1 vs ds
  dsp:DqA K G1 sp sd
  d0:ds[0]?=some d
  le:sd.length≤ds.length
  tot:sd.length+szs (ds.drop sd.length)=sz d
  ms:m=szs (ds.drop sd.length)
  ok:∀ (j:Nat) x,sd[j]?=some x→SpanOk ds j x
theorem rd_Zs:∀ vs H Q E,spCopied K vs H Q E→t_Zs Pg w K ad (spInner K) (spRefilled K) { nx:=fun _ H'=>Q .non H',rt:=Q } (start ns_Zs vs) H:=by
  rintro vs H Q E ⟨v,d,G,rfl,e,h,hz,q⟩
  have z:=szL
  refine⟨v,rfl,(show 1≤sizeLine by decide),fun A hA=>?_⟩
  refine⟨Nat.zero_le _,fun B hB=>?_⟩
  have nAB:A≠B:=fun z=>by subst z;rw[upd_same] at hB;cases hB
  have hB0:H B=none:=by rw[upd_ne (Ne.symm nAB)] at hB;exact hB
  have gA:G A=none:=e.free hA
  have gB:G B=none:=e.free hB0
  refine⟨fun m σ H1=>∃ ds sd vs sp G1,W1 K v d G H A B m σ H1 ds sd vs sp G1,⟨sz d,[d],[],[v],[],G,⟨none,rfl⟩,by rw[upd_ne nAB];exact upd_same,upd_same,gA,gB,(same_new hA).trans (same_new hB),⟨.refl _,same_off (same_off e gA) gB,fun _ h=>.inl h⟩,.cons h .nil,.nil,rfl,Nat.zero_le _,by simp[szs],by simp[szs],fun j x z=>by simp at z⟩,?_⟩
  rintro m σ H1 ⟨ds,sd,vs,sp,G1,⟨t4,rfl⟩,hA1,hB1,gA1,gB1,s1,gr1,dv,dsp,d0,le,tot,ms,ok⟩
  have lv:=dv.length
  have lp:=dsp.length
  have tot2:ds.length≤sz d:=by
    have:=len_szs (ds.drop sd.length)
    rw[List.length_drop] at this
    omega
  refine⟨.ref B,rfl,B,sp,rfl,.inl (.of hB1),.ref A,rfl,A,vs,rfl,.inl (.of hA1),_,_,rfl,rfl,_,rfl,?_⟩
  by_cases hi:sd.length < ds.length
  · rw[decide_eq_true (by omega:(sp.length:Int) < vs.length)]
    refine iteT ⟨_,_,rfl,rfl,_,rfl,?_⟩
    rw[decide_eq_true (by omega:(vs.length:Int)≤100000)]
    refine iteT ⟨fun σ' H'=>∃ m',m' < m∧∃ ds sd vs sp G1,W1 K v d G H A B m' σ' H' ds sd vs sp G1,fun _ _ h=>h,?_⟩
    obtain⟨di,edi⟩:∃ di,ds[sd.length]?=some di:=⟨ds[sd.length],by simp[hi]⟩
    obtain⟨vi,evi,hvi⟩:=dv.at edi
    refine⟨.ref A,rfl,.ref B,rfl,B,sp,rfl,.inl (.of hB1),A,vs,sp.length,vi,rfl,rfl,.of hA1,atI_nat (by rw[lp];exact evi),?_⟩
    refine⟨vi,di,G1,rfl,gr1.le,hvi,fun l ys H2 s2 hl hl2 dy=>?_⟩
    have hA2:=s2 _ _ hA1
    have hB2:=s2 _ _ hB1
    have nlA:l≠A:=fun z=>by subst z;rw[hl] at hA1;cases hA1
    have nlB:l≠B:=fun z=>by subst z;rw[hl] at hB1;cases hB1
    have ly:=dy.length
    have drop:ds.drop sd.length=di :: ds.drop (sd.length+1):=by
      have hdi:ds[sd.length]=di:=by have:=List.getElem?_eq_getElem hi;rw[this] at edi;exact Option.some.inj edi
      rw[List.drop_eq_getElem_cons hi,hdi]
    have szd:szs (ds.drop sd.length)=1+szs (kids di)+szs (ds.drop (sd.length+1)):=by rw[drop,szs,sz_kids]
    have lk:=len_szs (kids di)
    refine⟨.ref B,rfl,.inl ⟨rfl,sp,.of hB2⟩,.ref A,rfl,A,vs,rfl,.inl (.of hA2),.ref A,rfl,A,vs,rfl,.inl (.of hA2),.ref l,rfl,l,ys,rfl,.inl (.of hl2),_,_,rfl,rfl,(show 2≤sizeLine by decide),fun p hp=>?_⟩
    have npA:p≠A:=fun z=>by subst z;rw[hp] at hA2;cases hA2
    have npB:p≠B:=fun z=>by subst z;rw[hp] at hB2;cases hB2
    have npl:p≠l:=fun z=>by subst z;rw[hp] at hl2;cases hl2
    refine⟨B,sp,.ref p,rfl,rfl,by rw[upd_ne (Ne.symm npB)];exact hB2,by omega,?_⟩
    refine⟨.ref A,rfl,.inl ⟨rfl,vs,.of (by rw[upd_ne nAB,upd_ne (Ne.symm npA)];exact hA2)⟩,.ref l,rfl,A,l,vs,ys,rfl,rfl,by rw[upd_ne nAB,upd_ne (Ne.symm npA)];exact hA2,by rw[upd_ne nlB,upd_ne (Ne.symm npl)];exact hl2,by omega,?_⟩
    have gp:G1 p=none:=gr1.le.free (s2.free hp)
    have hp1:H1 p=none:=s2.free hp
    have sG:Same G1 (L2.upd G1 p (.tup [.int vs.length,.int (vs.length+ys.length)])):=same_new gp
    refine⟨szs ((ds++kids di).drop (sd.length+1)),?_,ds++kids di,sd++[.tuple [.int ds.length,.int (ds.length+(kids di).length:Nat)]],vs++ys,sp++[.ref p],L2.upd G1 p (.tup [.int vs.length,.int (vs.length+ys.length)]),⟨some (.ref l),rfl⟩,upd_same,?_,?_,?_,?_,?_,?_,?_,?_,?_,?_,?_,?_⟩
    · rw[List.drop_append_of_le_length (by omega),szs_app,ms];omega
    · rw[upd_ne (Ne.symm nAB)];exact upd_same
    · rw[upd_ne (Ne.symm npA)];exact gA1
    · rw[upd_ne (Ne.symm npB)];exact gB1
    · exact fun b o hb=>by
        have n1:b≠A:=fun z=>by subst z;rw[hA] at hb;cases hb
        have n2:b≠B:=fun z=>by subst z;rw[hB0] at hb;cases hb
        have:=s2 _ _ (s1 _ _ hb)
        have n3:b≠p:=fun z=>by subst z;rw[hp] at this;cases this
        rw[upd_ne n1,upd_ne n2,upd_ne n3];exact this
    · refine⟨gr1.up.trans sG,?_,fun a ha=>?_⟩
      · refine same_off (same_off (same_upd2 (gr1.le.trans s2)) ?_) ?_
        · rw[upd_ne (Ne.symm npB)];exact gB1
        · rw[upd_ne (Ne.symm npA)];exact gA1
      · by_cases zp:a=p
        · subst zp;exact .inr (s1.free hp1)
        · rw[upd_ne zp] at ha;exact gr1.new a ha
    · exact (dv.app dy).up sG
    · refine (dsp.up sG).app (.cons (.tup (.inl upd_same) ?_) .nil)
      rw[lv,ly]
      exact .cons (.int _) (.cons (.int _) .nil)
    · rw[List.getElem?_append_left (List.getElem?_eq_some_iff.mp d0).1];exact d0
    · rw[List.length_append,List.length_append];simp only[List.length_cons,List.length_nil];omega
    · rw[List.length_append];simp only[List.length_cons,List.length_nil,Nat.zero_add]
      rw[List.drop_append_of_le_length (by omega),szs_app];omega
    · rw[List.length_append];rfl
    · intro j x hx
      by_cases hj:j < sd.length
      · rw[List.getElem?_append_left hj] at hx
        exact (ok j x hx).app
      · rw[List.getElem?_append_right (by omega)] at hx
        have ej:j=sd.length:=by
          have:=(List.getElem?_eq_some_iff.mp hx).1
          simp at this;omega
        subst ej
        rw[Nat.sub_self] at hx
        cases hx
        refine⟨ds.length,(kids di).length,di,rfl,by rw[List.length_append];omega,by rw[List.getElem?_append_left hi];exact edi,?_⟩
        rw[List.drop_left,List.take_length]
  · rw[decide_eq_false (by omega:¬ (sp.length:Int) < vs.length)]
    refine iteF ⟨false,rfl,iteF ?_⟩
    have lds:sd.length=ds.length:=by omega
    refine⟨.ref B,rfl,B,sp,rfl,.inl (.of hB1),sp.length,rfl,by omega,by omega,?_⟩
    have en:(sp.length:Int).toNat=sp.length:=rfl
    refine for_rangeC (fun k σ H2=>∃ vs' G2 t5 t6 t3,σ=[some v,some (.ref A),some (.ref B),t3,t4,t5,t6]∧H2 A=some (.lst vs')∧H2 B=some (.lst sp)∧G2 A=none∧G2 B=none∧Same H H2∧Gr G H G2 H2∧DqA K G2 vs' ds∧DqA K G2 sp sd∧∀ (j:Nat) x l,ds.length-k≤j→vs'[j]?=some x→x=.ref l→H l=none)
      ⟨vs,G1,none,none,none,rfl,hA1,hB1,gA1,gB1,s1,gr1,dv,dsp,fun j x l hj hx _=>absurd (List.getElem?_eq_some_iff.mp hx).1 (by omega)⟩ ?_ ?_
    · rintro k σ H2 hk ⟨vs',G2,t5,t6,t3,rfl,hA2,hB2,gA2,gB2,s2,gr2,dv2,dsp2,fr⟩
      have lv2:=dv2.length
      have hk:k < sp.length:=hk
      obtain⟨j,ej⟩:∃ j:Nat,((sp.length:Int).toNat:Int)-1+(k:Nat) * (-1)=(j:Nat)∧j+k+1=sp.length:=⟨sp.length-1-k,by omega,by omega⟩
      obtain⟨xj,exj⟩:∃ x,sd[j]?=some x:=⟨sd[j]'(by omega),by simp⟩
      obtain⟨f,n,dj,rfl,fl,edj,tk⟩:=ok j xj exj
      obtain⟨sv,esv,hsv⟩:=dsp2.at exj
      obtain⟨vj,evj,hvj⟩:=dv2.at edj
      rw[ej.1]
      cases hsv with
      | @tup pa pxs _ hp hx =>
        cases hx with
        | cons h1 hx =>
          cases h1
          cases hx with
          | cons h2 hx =>
            cases h2
            cases hx
            refine⟨.ref B,rfl,.int j,rfl,B,sp,j,.ref pa,rfl,rfl,.of hB2,atI_nat esv,pa,_,rfl,Tp.sq (Tp.mono gr2.le hp),rfl,_,_,rfl,_,_,rfl,rfl,?_⟩
            refine⟨.ref A,rfl,.int j,rfl,A,vs',j,vj,rfl,rfl,.of hA2,atI_nat evj,?_⟩
            refine⟨.ref A,rfl,.int f,rfl,f,rfl,.int (f+n:Nat),rfl,(f+n:Nat),rfl,A,vs',rfl,.of hA2,fun l hl=>?_⟩
            have cut:cutV vs' (some (f:Int)) (some ((f+n:Nat):Int))=(vs'.drop f).take n:=by
              unfold cutV
              rw[HT.sIx_nat,HT.sIx_nat,Nat.min_eq_left (by omega),Nat.min_eq_left (by omega)]
              congr 1
              omega
            rw[cut]
            have nlA:l≠A:=fun z=>by subst z;rw[hl] at hA2;cases hA2
            have nlB:l≠B:=fun z=>by subst z;rw[hl] at hB2;cases hB2
            have sl:=same_new (G:=H2) (o:=.lst ((vs'.drop f).take n)) hl
            refine⟨vj,l,dj,_,G2,rfl,gr2.le.trans sl,(hvj.up gr2.le).up sl,upd_same,by rw[← tk];exact (dv2.drop f).take n,fun v' H3 G3 s3 g3 hv3 fr3=>?_⟩
            have hA3:=s3 _ _ (sl _ _ hA2)
            have hB3:=s3 _ _ (sl _ _ hB2)
            have gA3:G3 A=none:=g3.none gA2 (sl _ _ hA2)
            have gB3:G3 B=none:=g3.none gB2 (sl _ _ hB2)
            have hj:j < vs'.length:=(List.getElem?_eq_some_iff.mp evj).1
            refine⟨.ref A,rfl,.int j,rfl,A,vs',j,j,rfl,rfl,hA3,?_,?_⟩
            · unfold ixN
              rw[if_pos (by omega),if_pos (by omega)]
              rfl
            · refine⟨vs'.set j v',G3,_,_,_,rfl,upd_same,by rw[upd_ne (Ne.symm nAB)];exact hB3,gA3,gB3,fun b o hb=>?_,?_,?_,dsp2.up g3.up,?_⟩
              · have n1:b≠A:=fun z=>by subst z;rw[hA] at hb;cases hb
                rw[upd_ne n1]
                exact s3 _ _ (sl _ _ (s2 _ _ hb))
              · refine⟨gr2.up.trans g3.up,same_off g3.le gA3,fun a ha=>?_⟩
                rcases g3.new a ha with y | y
                · exact gr2.new a y
                · exact .inr (s2.free (sl.free y))
              · exact (dv2.up g3.up).set edj hv3
              · intro i x l' hi hx hx2
                by_cases ij:i=j
                · subst ij
                  rw[List.getElem?_set_self hj] at hx
                  cases hx
                  exact s2.free (sl.free (fr3 l' hx2))
                · rw[List.getElem?_set_ne (Ne.symm ij)] at hx
                  exact fr i x l' (by omega) hx hx2
    · rintro σ H2 ⟨vs',G2,t5,t6,t3,rfl,hA2,hB2,gA2,gB2,s2,gr2,dv2,dsp2,fr⟩
      obtain⟨v0,ev0,hv0⟩:=dv2.at d0
      exact⟨.ref A,rfl,A,vs',0,v0,rfl,rfl,.of hA2,atI_nat (j:=0) ev0,q v0 H2 G2 s2 gr2 hv0 fun l z=>fr 0 v0 l (by show ds.length-(sp.length:Int).toNat≤0;omega) ev0 z⟩
theorem f_Zs (T:Txt Pg w K mg base ad):FnOk Pg w K mg base CX0 (4+1) ad.a_Zs ad.d_Zs ps_Zs (spCopied K) :=
  ok_Zs T (f_Za T) (f_Zp T) (fun vs H Q E ⟨v,d,G,e,_⟩=>by rw[e];rfl) rd_Zs
end
end
end
end G
namespace Ev
noncomputable section
open PySem PySem.Spec L2
section
variable {K:W.Frag} {G G' H H':Hp} {a:Addr} {xs ys:List V} {d:PyData} {ds:List PyData}
structure Wk (J:L2.It) (xs:List V) (H:Hp):Prop where
  go:∀ H',Same H H'→∀ (i:Nat) x,xs[i]?=some x→J.go i H'
  yl:∀ H',Same H H'→∀ (i:Nat) x y H2,xs[i]?=some x→J.yld i H' y H2→y=x∧H2=H'
  st:∀ H',Same H H'→J.stop xs.length H'
theorem same_sqL (e:Same H H') (h:SqL K H a xs):SqL K H' a xs:=e.seq h
theorem same_sqT (e:Same H H') (h:SqT K H a xs):SqT K H' a xs:=by
  rcases h with (h | ⟨o,h⟩) | h
  · exact .inl (.inl (e _ _ h))
  · exact .inl (.inr ⟨o,e _ _ h⟩)
  · exact .inr h
theorem wk_list (h:SqL K H a xs):Wk (Itl K a) xs H where
  go:=fun H' e i x hx=>⟨xs,x,same_sqL e h,hx⟩
  yl:=fun H' e i x y H2 hx ⟨e1,e2⟩=>by
    have:=e2 xs (same_sqL e h)
    rw[hx] at this
    exact⟨(Option.some.inj this).symm,e1⟩
  st:=fun H' e=>⟨xs,same_sqL e h,Nat.le_refl _⟩
theorem wk_tup (h:SqT K H a xs):Wk (Itt K a) xs H where
  go:=fun H' e i x hx=>⟨xs,x,same_sqT e h,hx⟩
  yl:=fun H' e i x y H2 hx ⟨e1,e2⟩=>by
    have:=e2 xs (same_sqT e h)
    rw[hx] at this
    exact⟨(Option.some.inj this).symm,e1⟩
  st:=fun H' e=>⟨xs,same_sqT e h,Nat.le_refl _⟩
def signs (x:Str):List V:=x.cps.toList.map fun c=>V.str ⟨#[c]⟩
theorem wk_str (x:Str):Wk (Its x) (signs x) H where
  go:=fun H' e i y hy=>by
    have:=(List.getElem?_eq_some_iff.mp hy).1
    unfold signs at this
    rw[List.length_map,Array.length_toList] at this
    exact this
  yl:=fun H' e i z y H2 hx ⟨e1,c,e2,e3⟩=>by
    unfold signs at hx
    rw[List.getElem?_map,Array.getElem?_toList,e2] at hx
    exact⟨by rw[e3];exact (Option.some.inj hx),e1⟩
  st:=fun H' e=>by
    show _≤_
    unfold signs
    rw[List.length_map,Array.length_toList]
    exact Nat.le_refl _
theorem wipe1 (σ:L2.St) (i:Nat) (x:V):wipe ((wipe σ [i]).set i (some x)) [i]=wipe σ [i]:=by
  show (((σ.set i none).set i (some x)).set i none:L2.St)=σ.set i none
  rw[List.set_set,List.set_set]
theorem lc_map {J:L2.It} (wk:Wk J xs H) {i:Nat} {te:TE} {σ:L2.St} {Q:VK} (hl:ys.length=xs.length) (hz:xs.length < sizeLine)
    (el:∀ (k:Nat) x y,xs[k]?=some x→ys[k]?=some y→∀ H2 Q',Same H H2→(∀ H3,Same H2 H3→Q' y H3)→te ((wipe σ [i]).set i (some x)) H2 Q')
    (q:∀ D H2,Same H H2→H D=none→H2 D=some (.lst ys)→Q (.ref D) H2) :
    ∀ D,H D=none→∃ W:Nat→Nat→Hp→Prop,(∃ m,W 0 m (L2.upd H D (.lst [])))∧∀ k m H2,W k m H2 →
      (J.stop k H2∧Q (.ref D) H2)∨(J.go k H2∧∃ Nx:Hp→Prop,(∀ H',Nx H'→∃ m',m' < m∧W (k+1) m' H')∧∀ x H',J.yld k H2 x H'→gName i x (wipe σ [i]) H' fun σ2 H2=>wipe σ2 [i]=wipe σ [i]∧tYes σ2 H2 fun b H3 =>
        if b=true then te σ2 H3 fun y H4=>∃ acc,H4 D=some (.lst acc)∧acc.length < sizeLine∧Nx (L2.upd H4 D (.lst (acc++[y]))) else Nx H3):=by
  intro D hD
  have hw:∀ x,wipe ((wipe σ [i]).set i (some x)) [i]=wipe σ [i]:=fun x=>wipe1 σ i x
  refine⟨fun k m H2=>k+m=xs.length∧Same H H2∧H2 D=some (.lst (ys.take k)),⟨xs.length,by omega,same_new hD,upd_same⟩,?_⟩
  rintro k m H2 ⟨em,s2,h2⟩
  by_cases hk:k < xs.length
  · obtain⟨x,hx⟩:∃ x,xs[k]?=some x:=⟨xs[k],by simp[hk]⟩
    obtain⟨y,hy⟩:∃ y,ys[k]?=some y:=⟨ys[k],by simp[hl ▸ hk]⟩
    refine .inr ⟨wk.go _ s2 k x hx,fun H3=>Same H H3∧H3 D=some (.lst (ys.take (k+1))),fun H3 ⟨a,b⟩=>⟨m-1,by omega,by omega,a,b⟩,fun x' H' hyl=>?_⟩
    obtain⟨rfl,rfl⟩:=wk.yl _ s2 k x x' H' hx hyl
    refine⟨hw _,?_⟩
    simp only[tYes,if_true]
    refine el k _ y hx hy _ _ s2 fun H3 s3=>⟨_,s3 _ _ h2,by rw[List.length_take];omega,fun b o hb=>?_,?_⟩
    · rw[upd_ne (fun z=>by subst z;rw[hD] at hb;cases hb)]
      exact s3 _ _ (s2 _ _ hb)
    · rw[upd_same,List.take_add_one,hy];rfl
  · have ek:k=xs.length:=by omega
    subst ek
    refine .inl ⟨wk.st _ s2,q D H2 s2 hD ?_⟩
    rw[h2,← hl,List.take_length]
theorem lc_dat {J:L2.It} (e:Same G H) (wk:Wk J xs H) {g:TG} {ow:List Nat} {te:TE} {σ:L2.St} {Q:VK} (hl:ds.length=xs.length) (hz:xs.length < sizeLine)
    (el:∀ (k:Nat) x d,xs[k]?=some x→ds[k]?=some d→∀ G2 H2 Q',Same H H2→Gr G H G2 H2→(∀ y G3 H3,Same H2 H3→Gr G2 H2 G3 H3→Dq K G3 y d→Q' y H3)→g x (wipe σ ow) H2 fun σ2 H2=>wipe σ2 ow=wipe σ ow∧te σ2 H2 Q')
    (q:∀ D G2 H2,Same H H2→Gr G H G2 H2→H D=none→Dq K G2 (.ref D) (.list ds)→Q (.ref D) H2) :
    ∀ D,H D=none→∃ W:Nat→Nat→Hp→Prop,(∃ m,W 0 m (L2.upd H D (.lst [])))∧∀ k m H2,W k m H2 →
      (J.stop k H2∧Q (.ref D) H2)∨(J.go k H2∧∃ Nx:Hp→Prop,(∀ H',Nx H'→∃ m',m' < m∧W (k+1) m' H')∧∀ x H',J.yld k H2 x H'→g x (wipe σ ow) H' fun σ2 H2=>wipe σ2 ow=wipe σ ow∧tYes σ2 H2 fun b H3 =>
        if b=true then te σ2 H3 fun y H4=>∃ acc,H4 D=some (.lst acc)∧acc.length < sizeLine∧Nx (L2.upd H4 D (.lst (acc++[y]))) else Nx H3):=by
  intro D hD
  have gD:G D=none:=e.free hD
  refine⟨fun k m H2=>k+m=xs.length∧Same H H2∧∃ G2 ys,Gr G H G2 H2∧G2 D=none∧H2 D=some (.lst ys)∧DqA K G2 ys (ds.take k),⟨xs.length,by omega,same_new hD,G,[],⟨.refl _,same_off e gD,fun _ h=>.inl h⟩,gD,upd_same,.nil⟩,?_⟩
  rintro k m H2 ⟨em,s2,G2,ys,g2,gD2,h2,dy⟩
  by_cases hk:k < xs.length
  · obtain⟨x,hx⟩:∃ x,xs[k]?=some x:=⟨xs[k],by simp[hk]⟩
    obtain⟨d,hd⟩:∃ d,ds[k]?=some d:=⟨ds[k],by simp[hl ▸ hk]⟩
    have ly:=dy.length
    rw[List.length_take] at ly
    refine .inr ⟨wk.go _ s2 k x hx,fun H3=>Same H H3∧∃ G2 ys,Gr G H G2 H3∧G2 D=none∧H3 D=some (.lst ys)∧DqA K G2 ys (ds.take (k+1)),fun H3 ⟨a,b⟩=>⟨m-1,by omega,by omega,a,b⟩,fun x' H' hyl=>?_⟩
    obtain⟨rfl,rfl⟩:=wk.yl _ s2 k x x' H' hx hyl
    have:=el k _ d hx hd G2 H' (fun y H4=>∃ acc,H4 D=some (.lst acc)∧acc.length < sizeLine∧(fun H3=>Same H H3∧∃ G2 ys,Gr G H G2 H3∧G2 D=none∧H3 D=some (.lst ys)∧DqA K G2 ys (ds.take (k+1))) (L2.upd H4 D (.lst (acc++[y])))) s2 g2 fun y G3 H3 s3 g3 hy=>by
      have gD3:G3 D=none:=g3.none gD2 h2
      refine⟨_,s3 _ _ h2,by omega,fun b o hb=>?_,G3,ys++[y],⟨g2.up.trans g3.up,same_off g3.le gD3,fun a ha=>?_⟩,gD3,upd_same,?_⟩
      · rw[upd_ne (fun z=>by subst z;rw[hD] at hb;cases hb)]
        exact s3 _ _ (s2 _ _ hb)
      · rcases g3.new a ha with z | z
        · exact g2.new a z
        · exact .inr (s2.free z)
      · rw[List.take_add_one,hd]
        exact (dy.up g3.up).app (.cons hy .nil)
    simp only[tYes,if_true]
    exact this
  · have ek:k=xs.length:=by omega
    subst ek
    rw[← hl,List.take_length] at dy
    refine .inl ⟨wk.st _ s2,q D (L2.upd G2 D (.lst ys)) H2 s2 ⟨g2.up.trans (same_new gD2),fun b o hb=>?_,fun a ha=>?_⟩ hD (.lst upd_same (dy.up (same_new gD2)))⟩
    · by_cases z:b=D
      · subst z;rw[upd_same] at hb;rw[← hb];exact h2
      · rw[upd_ne z] at hb;exact g2.le _ _ hb
    · by_cases z:a=D
      · subst z;exact .inr hD
      · rw[upd_ne z] at ha;exact g2.new a ha
theorem rd_map {wi:TI} {J:L2.It} {i:Nat} {te:TE} {σ:L2.St} {Q:VK} (ys:List V) (wk:Wk J xs H) (hwi:∀ R:L2.It→Hp→Prop,R J H→wi σ H R) (hl:ys.length=xs.length) (hz:xs.length < sizeLine)
    (el:∀ (k:Nat) x y,xs[k]?=some x→ys[k]?=some y→∀ H2 Q',Same H H2→(∀ H3,Same H2 H3→Q' y H3)→te ((wipe σ [i]).set i (some x)) H2 Q')
    (q:∀ D H2,Same H H2→H D=none→H2 D=some (.lst ys)→Q (.ref D) H2):tLc wi (gName i) tYes te [i] σ H Q:=hwi _ (lc_map wk hl hz el q)
theorem ifT {c A B:Prop} [Decidable c] (hc:c) (h:A):if (decide c)=true then A else B:=by rw[decide_eq_true hc];exact iteT h
theorem ifF {c A B:Prop} [Decidable c] (hc:¬ c) (h:B):if (decide c)=true then A else B:=by rw[decide_eq_false hc];exact iteF h
theorem ifNT {c A B:Prop} [Decidable c] (hc:¬ c) (h:A):if (!decide c)=true then A else B:=by rw[decide_eq_false hc];exact iteT h
theorem ifNF {c A B:Prop} [Decidable c] (hc:c) (h:B):if (!decide c)=true then A else B:=by rw[decide_eq_true hc];exact iteF h
theorem addK_new {acc:List Key} {k:Key} (h:k∉acc):addK acc k=acc++[k]:=by
  unfold addK
  rw[if_neg]
  intro z
  unfold inK at z
  rw[List.any_eq_true] at z
  obtain⟨j,hj,e⟩:=z
  rw[decide_eq_true_eq] at e
  subst e
  exact h hj
theorem rd_filt {wi:TI} {J:L2.It} {i:Nat} {tt:TT} {te:TE} {σ:L2.St} {Q:VK} (acc:Nat→List V) (h0:acc 0=[]) (wk:Wk J xs H) (hwi:∀ R:L2.It→Hp→Prop,R J H→wi σ H R) (hz:xs.length < sizeLine) (ha:∀ k,(acc k).length≤k)
    (el:∀ (k:Nat) x,xs[k]?=some x→∀ H2,Same H H2→∃ b,(∀ Qt:Bool→Hp→Prop,Qt b H2→tt ((wipe σ [i]).set i (some x)) H2 Qt)∧(b=false→acc (k+1)=acc k)∧(b=true→∃ y,acc (k+1)=acc k++[y]∧∀ Q':VK,(∀ H3,Same H2 H3→Q' y H3)→te ((wipe σ [i]).set i (some x)) H2 Q'))
    (q:∀ D H2,Same H H2→H D=none→H2 D=some (.lst (acc xs.length))→Q (.ref D) H2):tLc wi (gName i) tt te [i] σ H Q:=by
  refine hwi _ fun D hD=>?_
  refine⟨fun k m H2=>k+m=xs.length∧Same H H2∧H2 D=some (.lst (acc k)),⟨xs.length,by omega,same_new hD,by rw[h0];exact upd_same⟩,?_⟩
  rintro k m H2 ⟨em,s2,h2⟩
  by_cases hlt:k < xs.length
  · obtain⟨x,hx⟩:∃ x,xs[k]?=some x:=⟨xs[k],by simp[hlt]⟩
    refine .inr ⟨wk.go _ s2 k x hx,fun H3=>Same H H3∧H3 D=some (.lst (acc (k+1))),fun H3 ⟨a,b⟩=>⟨m-1,by omega,by omega,a,b⟩,fun x' H' hyl=>?_⟩
    obtain⟨rfl,rfl⟩:=wk.yl _ s2 k x x' H' hx hyl
    refine⟨wipe1 _ _ _,?_⟩
    obtain⟨b,ht,hf,hT⟩:=el k _ hx H' s2
    refine ht _ ?_
    cases b with
    | false =>
      refine iteF ⟨s2,?_⟩
      rw[hf rfl]
      exact h2
    | true =>
      obtain⟨y,ey,hy⟩:=hT rfl
      refine iteT (hy _ fun H3 s3=>⟨_,s3 _ _ h2,by have:=ha k;omega,fun b o hb=>?_,?_⟩)
      · rw[upd_ne (fun z=>by subst z;rw[hD] at hb;cases hb)]
        exact s3 _ _ (s2 _ _ hb)
      · rw[upd_same,ey]
  · have ek:k=xs.length:=by omega
    subst ek
    exact .inl ⟨wk.st _ s2,q D H2 s2 hD h2⟩
theorem rd_mapC {wi:TI} {i:Nat} {te:TE} {σ:L2.St} {Q:VK} (ys:List V) (Pw:L2.It→List V→Hp→Prop) (hwi:∀ R:L2.It→Hp→Prop,(∀ J xs H1,Pw J xs H1→R J H1)→wi σ H R)
    (hw:∀ J xs H1,Pw J xs H1→Same H H1∧Wk J xs H1∧ys.length=xs.length∧xs.length < sizeLine∧∀ (k:Nat) x y,xs[k]?=some x→ys[k]?=some y→∀ H2 Q',Same H1 H2→(∀ H3,Same H2 H3→Q' y H3)→te ((wipe σ [i]).set i (some x)) H2 Q')
    (q:∀ D H2,Same H H2→H D=none→H2 D=some (.lst ys)→Q (.ref D) H2):tLc wi (gName i) tYes te [i] σ H Q :=
  hwi _ fun J xs H1 p=>let ⟨s,wk,hl,hz,el⟩:=hw J xs H1 p;lc_map wk hl hz el fun D H2 s2 hD h2=>q D H2 (s.trans s2) (s.free hD) h2
end
end
end Ev
namespace G
noncomputable section
open PySem PySem.Spec L2 Ev
abbrev abc:Str:="abcdefghijklmnopqrstuvwxyz"
structure NmOk (x:Str):Prop where
  lo:1≤x.length
  hi:x.length≤8
  abc:∀ c∈x.cps.toList,c∈abc.cps.toList
inductive Stp where
  | run (n:Int) | mask | opn | ans (x:Str) | lat (x:Str) | wak (x:Str)
def Stp.Ok:Stp→Prop
  | .run n=>1≤n∧n≤9 | .mask=>True | .opn=>True | .ans x=>NmOk x | .lat x=>NmOk x | .wak x=>NmOk x
def Bal:Nat→List Stp→Prop
  | _,[]=>True
  | k,.mask :: r=>Bal (k+1) r
  | k,.opn :: r=>0 < k∧Bal (k-1) r
  | k,_ :: r=>Bal k r
structure StsOk (s:List Stp):Prop where
  lo:1≤s.length
  hi:s.length≤12
  each:∀ x∈s,x.Ok
  runs:∃ n,Stp.run n∈s
  bal:Bal 0 s
structure Ln where
  name:Str
  rank:Int
  up:Bool
  m:Int
  wd:Int
  rs:Int
  top:List Stp
structure LnOk (l:Ln):Prop where
  nm:NmOk l.name
  rk:1≤l.rank∧l.rank≤99
  g1:1≤l.m∧l.m≤9
  g2:1≤l.wd∧l.wd≤60
  g3:1≤l.rs∧l.rs≤60
  st:StsOk l.top
structure Bt where
  name:Str
  steps:List Stp
structure BtOk (b:Bt):Prop where
  nm:NmOk b.name
  st:StsOk b.steps
structure Th where
  name:Str
  rank:Int
  steps:List Stp
structure ThOk (t:Th):Prop where
  nm:NmOk t.name
  rk:1≤t.rank∧t.rank≤99
  st:StsOk t.steps
structure LnsOk (ls:List Ln):Prop where
  lo:1≤ls.length
  hi:ls.length≤5
  each:∀ l∈ls,LnOk l
  nms:(ls.map Ln.name).Nodup
  rks:(ls.map Ln.rank).Nodup
structure BtsOk (bs:List Bt):Prop where
  hi:bs.length≤4
  each:∀ l∈bs,BtOk l
  nms:(bs.map Bt.name).Nodup
structure ThsOk (ts:List Th):Prop where
  hi:ts.length≤4
  each:∀ l∈ts,ThOk l
  nms:(ts.map Th.name).Nodup
  rks:(ts.map Th.rank).Nodup
def StsTo (a l t:List Str) (s:List Stp):Prop:=∀ x,(Stp.ans x∈s→x∈a)∧(Stp.lat x∈s→x∈l)∧(Stp.wak x∈s→x∈t)
structure Pl where
  ls:List Ln
  bs:List Bt
  ts:List Th
def Pl.all (p:Pl):List Stp:=(p.ls.map Ln.top).flatten++(p.bs.map Bt.steps).flatten++(p.ts.map Th.steps).flatten
structure PlOk (p:Pl):Prop where
  l:LnsOk p.ls
  b:BtsOk p.bs
  t:ThsOk p.ts
  to:StsTo (p.ls.map Ln.name) (p.bs.map Bt.name) (p.ts.map Th.name) p.all
mutual
def fitD:PyData→Bool
  | .str x=>decide (x.length < 1000)
  | .list ds=>decide (ds.length < 1000) && fitDs ds
  | .tuple ds=>decide (ds.length < 1000) && fitDs ds
  | .dict _=>false
  | .none=>true
  | .bool _=>true
  | .int _=>true
def fitDs:List PyData→Bool
  | []=>true
  | d :: ds=>fitD d && fitDs ds
end
theorem fitDs_mem:∀ {ds:List PyData},fitDs ds=true→∀ d∈ds,fitD d=true
  | e :: ds,h,d,hd=>by
    rw[fitDs,Bool.and_eq_true] at h
    rcases List.mem_cons.mp hd with rfl | hd
    · exact h.1
    · exact fitDs_mem h.2 d hd
theorem fit_lst {ds:List PyData} (h:fitD (.list ds)=true):ds.length < 1000∧fitDs ds=true:=by
  rw[fitD,Bool.and_eq_true,decide_eq_true_eq] at h
  exact h
theorem fit_tup {ds:List PyData} (h:fitD (.tuple ds)=true):ds.length < 1000∧fitDs ds=true:=by
  rw[fitD,Bool.and_eq_true,decide_eq_true_eq] at h
  exact h
def numD (lo hi:Int):PyData→Bool
  | .int i=>decide (lo≤i) && decide (i≤hi)
  | _=>false
def nameD:PyData→Bool
  | .str x=>decide ((1:Int)≤x.length) && (decide ((x.length:Int)≤8) && x.cps.toList.all fun c=>decide (c∈abc.cps.toList))
  | _=>false
def stepR:PyData→List PyData→Bool
  | .str w,[]=>inV (.str w) [.str "mask",.str "open"]
  | .str w,[d]=>if V.str w=V.str "run" then numD 1 9 d else inV (.str w) [.str "answer",.str "later",.str "wake"] && nameD d
  | _,_=>false
def stepD:PyData→Bool
  | .tuple (d :: ds)=>stepR d ds
  | _=>false
def balB:Int→List PyData→Bool
  | _,[]=>true
  | k,.tuple (.str w :: _) :: r =>
    let j:=if V.str w=V.str "mask" then k+1 else if V.str w=V.str "open" then k-1 else k
    if j < 0 then false else balB j r
  | _,_ :: _=>false
def runD:PyData→Bool
  | .tuple (.str w :: _)=>decide (V.str w=V.str "run")
  | _=>false
def stepsD:PyData→Bool
  | .list ds=>decide ((1:Int)≤ds.length) && (decide ((ds.length:Int)≤12) && (ds.all stepD && (ds.any runD && balB 0 ds)))
  | _=>false
def guardD3:PyData→Bool
  | .tuple [a,b,c]=>numD 1 9 a && (numD 1 60 b && numD 1 60 c)
  | _=>false
def boolD:PyData→Bool
  | .bool _=>true
  | _=>false
def lineD:PyData→Bool
  | .tuple [n,r,u,g,t]=>nameD n && (numD 1 99 r && (boolD u && (guardD3 g && stepsD t)))
  | _=>false
def bottomD:PyData→Bool
  | .tuple [n,t]=>nameD n && stepsD t
  | _=>false
def threadD:PyData→Bool
  | .tuple [n,r,t]=>nameD n && (numD 1 99 r && stepsD t)
  | _=>false
def kidsQ:PyData→Option (List PyData)
  | .list ds=>some ds
  | .tuple ds=>some ds
  | _=>none
def manyD (lo hi:Int) (d:PyData):Bool :=
  match kidsQ d with
  | some ds=>decide (lo≤ds.length) && decide ((ds.length:Int)≤hi)
  | none=>false
def keyQ (n:Nat):PyData→Option Key
  | .tuple ds=>match ds[n]? with
    | some (.str x)=>some (.inr x)
    | some (.int i)=>some (.inl i)
    | _=>none
  | _=>none
def unlikeD (n:Nat) (ds:List PyData):Bool:=decide ((ds.filterMap (keyQ n)).Nodup)
def linesD (ds:List PyData):Bool:=decide ((1:Int)≤ds.length) && (decide ((ds.length:Int)≤5) && (ds.all lineD && (unlikeD 0 ds && unlikeD 1 ds)))
def bottomsD (ds:List PyData):Bool:=decide ((ds.length:Int)≤4) && (ds.all bottomD && unlikeD 0 ds)
def threadsD (ds:List PyData):Bool:=decide ((ds.length:Int)≤4) && (ds.all threadD && (unlikeD 0 ds && unlikeD 1 ds))
def lastQ:PyData→List PyData
  | .tuple ds=>match ds.getLast? with
    | some (.list s)=>s
    | _=>[]
  | _=>[]
section
variable {Pg:Program} {w:World} {K:W.Frag} {mg:Str→Option Value} {base:Heap} {ad:Ad}
def spNumD (K:W.Frag):Sp:=fun vs H Q _=>∃ v d,∃ lo hi:Int,vs=[v,.int lo,.int hi]∧Dq K H v d∧Q (.bl (numD lo hi d)) H
theorem rd_Z6:∀ vs H Q E,spNumD K vs H Q E→t_Z6 Pg w K ad { nx:=fun _ H'=>Q .non H',rt:=Q } (start ns_Z6 vs) H:=by
  rintro vs H Q E ⟨v,d,lo,hi,rfl,h,q⟩
  have no:isB (tyD d) 2=false→numD lo hi d=false→t_Z6 Pg w K ad { nx:=fun _ H'=>Q .non H',rt:=Q } (start ns_Z6 [v,.int lo,.int hi]) H:=fun e e2=>by
    refine⟨v,rfl,v,tyS (tyD d),tyS 2,false,rfl,h.ty,by rw[← e];exact kit_tab _ 2 (by have:=h.nodict;omega) (by decide) (by decide),_,rfl,iteF ?_⟩
    rw[e2] at q
    exact q
  cases h with
  | non=>exact no rfl rfl
  | str x=>exact no rfl rfl
  | lst ha t=>exact no rfl rfl
  | tup ha t=>exact no rfl rfl
  | bl b =>
    refine⟨.bl b,rfl,.bl b,tyS 1,tyS 2,true,rfl,.of (.bl b),kit_tab 1 2 (by decide) (by decide) (by decide),_,rfl,iteT ?_⟩
    exact⟨.bl b,rfl,.bl b,tyS 1,tyS 1,true,rfl,.of (.bl b),kit_tab 1 1 (by decide) (by decide) (by decide),_,rfl,_,rfl,iteF q⟩
  | int i =>
    refine⟨.int i,rfl,.int i,tyS 2,tyS 2,true,rfl,.of (.int i),kit_tab 2 2 (by decide) (by decide) (by decide),_,rfl,iteT ?_⟩
    refine⟨.int i,rfl,.int i,tyS 2,tyS 1,false,rfl,.of (.int i),kit_tab 2 1 (by decide) (by decide) (by decide),_,rfl,_,rfl,iteT ?_⟩
    refine⟨.int lo,rfl,.int i,rfl,_,_,rfl,rfl,_,rfl,?_⟩
    have q:Q (.bl (decide (lo≤i) && decide (i≤hi))) H:=q
    cases e:decide (lo≤i) with
    | true =>
      rw[e,Bool.true_and] at q
      exact iteT ⟨.int hi,rfl,_,_,rfl,rfl,q⟩
    | false =>
      rw[e,Bool.false_and] at q
      exact iteF q
theorem f_Z6 (T:Txt Pg w K mg base ad):FnOk Pg w K mg base CX0 (2+1) ad.a_Z6 ad.d_Z6 ps_Z6 (spNumD K) :=
  ok_Z6 T (fun vs H Q E ⟨v,d,lo,hi,e,_⟩=>by rw[e];rfl) rd_Z6
def spNameD (K:W.Frag):Sp:=fun vs H Q _=>∃ v d,vs=[v]∧Dq K H v d∧fitD d=true∧∀ H',Same H H'→Q (.bl (nameD d)) H'
theorem rd_Zg:∀ vs H Q E,spNameD K vs H Q E→t_Zg Pg w K ad { nx:=fun _ H'=>Q .non H',rt:=Q } (start ns_Zg vs) H:=by
  rintro vs H Q E ⟨v,d,rfl,h,fit,q⟩
  have no:isB (tyD d) 3=false→nameD d=false→t_Zg Pg w K ad { nx:=fun _ H'=>Q .non H',rt:=Q } (start ns_Zg [v]) H:=fun e e2=>by
    refine⟨v,rfl,v,tyS (tyD d),tyS 3,false,rfl,h.ty,by rw[← e];exact kit_tab _ 3 (by have:=h.nodict;omega) (by decide) (by decide),_,rfl,iteT ?_⟩
    rw[e2] at q
    exact q _ (.refl _)
  cases h with
  | non=>exact no rfl rfl
  | bl b=>exact no rfl rfl
  | int i=>exact no rfl rfl
  | lst ha t=>exact no rfl rfl
  | tup ha t=>exact no rfl rfl
  | str x =>
    have z:=szL
    have lx:x.length < 1000:=by rw[fitD,decide_eq_true_eq] at fit;exact fit
    have q:∀ H',Same H H'→Q (.bl (decide ((1:Int)≤x.length) && (decide ((x.length:Int)≤8) && x.cps.toList.all fun c=>decide (c∈abc.cps.toList)))) H':=q
    refine⟨.str x,rfl,.str x,tyS 3,tyS 3,true,rfl,.of (.str x),kit_tab 3 3 (by decide) (by decide) (by decide),_,rfl,iteF ?_⟩
    refine⟨.str x,rfl,x,rfl,by omega,_,_,rfl,rfl,_,rfl,?_⟩
    cases e1:decide ((1:Int)≤x.length) with
    | false =>
      rw[e1,Bool.false_and] at q
      exact iteF ⟨_,rfl,iteT (q _ (.refl _))⟩
    | true =>
      rw[e1,Bool.true_and] at q
      refine iteT ⟨_,_,rfl,rfl,_,rfl,?_⟩
      cases e2:decide ((x.length:Int)≤8) with
      | false =>
        rw[e2,Bool.false_and] at q
        exact iteT (q _ (.refl _))
      | true =>
        rw[e2,Bool.true_and] at q
        refine iteF ?_
        have ls:(signs x).length=x.length:=by unfold signs;rw[List.length_map,Array.length_toList];rfl
        have lc:x.cps.toList.length=x.length:=by rw[Array.length_toList];rfl
        dsimp only [tNext,tSeq,tRet,tCB,tCons]
        refine rd_map ((x.cps.toList.map fun c=>decide (c∈abc.cps.toList)).map V.bl) (wk_str x) (fun R r=>⟨.str x,rfl,x,rfl,r⟩) (by rw[List.length_map,List.length_map,ls,lc]) (by omega) (fun k y b hy hb H2 Q' s2 q'=>?_) (fun D H2 s2 hD h2=>?_)
        · unfold signs at hy
          rw[List.getElem?_map] at hy hb
          rw[List.getElem?_map] at hb
          cases hc:x.cps.toList[k]? with
          | none=>rw[hc] at hy;cases hy
          | some c =>
            rw[hc] at hy hb
            cases hy
            cases hb
            exact⟨_,rfl,c,abc,rfl,rfl,q' _ (.refl _)⟩
        · refine⟨D,x.cps.toList.map fun c=>decide (c∈abc.cps.toList),rfl,.of h2,?_⟩
          have e:(x.cps.toList.map fun c=>decide (c∈abc.cps.toList)).all id=x.cps.toList.all fun c=>decide (c∈abc.cps.toList):=by
            rw[List.all_map];rfl
          rw[e]
          exact q _ s2
theorem f_Zg (T:Txt Pg w K mg base ad):FnOk Pg w K mg base CX0 (2+1) ad.a_Zg ad.d_Zg ps_Zg (spNameD K) :=
  ok_Zg T (fun vs H Q E ⟨v,d,e,_⟩=>by rw[e];rfl) rd_Zg
def spStepD (K:W.Frag):Sp:=fun vs H Q _=>∃ v d,vs=[v]∧Dq K H v d∧fitD d=true∧∀ H',Same H H'→Q (.bl (stepD d)) H'
theorem lone (T:Txt Pg w K mg base ad) {H:Hp}:SqT K H ad.g_LONE_WORDS [.str "mask",.str "open"]:=by
  obtain⟨ys,h1,h2⟩:=T.t_LONE_WORDS
  cases h1 with
  | cons e1 h1 =>
    cases h1 with
    | cons e2 h1 =>
      cases h1
      have e1:_=_:=e1
      have e2:_=_:=e2
      rw[e1,e2] at h2
      exact .inr h2
theorem naming (T:Txt Pg w K mg base ad) {H:Hp}:SqT K H ad.g_NAMING_WORDS [.str "answer",.str "later",.str "wake"]:=by
  obtain⟨ys,h1,h2⟩:=T.t_NAMING_WORDS
  cases h1 with
  | cons e1 h1 =>
    cases h1 with
    | cons e2 h1 =>
      cases h1 with
      | cons e3 h1 =>
        cases h1
        have e1:_=_:=e1
        have e2:_=_:=e2
        have e3:_=_:=e3
        rw[e1,e2,e3] at h2
        exact .inr h2
theorem in12 (i:Int):inV (.int i) [.int 1,.int 2]=((1:Int) == i || (2:Int) == i):=by
  simp[inV,eqV]
theorem rd_Zr (T:Txt Pg w K mg base ad):∀ vs H Q E,spStepD K vs H Q E→t_Zr Pg w K ad (spNumD K) (spNameD K) { nx:=fun _ H'=>Q .non H',rt:=Q } (start ns_Zr vs) H:=by
  rintro vs H Q E ⟨v,d,rfl,h,fit,q⟩
  have no:isB (tyD d) 5=false→stepD d=false→t_Zr Pg w K ad (spNumD K) (spNameD K) { nx:=fun _ H'=>Q .non H',rt:=Q } (start ns_Zr [v]) H:=fun e e2=>by
    refine⟨v,rfl,v,tyS (tyD d),tyS 5,false,rfl,h.ty,by rw[← e];exact kit_tab _ 5 (by have:=h.nodict;omega) (by decide) (by decide),_,rfl,iteT ?_⟩
    rw[e2] at q
    exact q _ (.refl _)
  cases h with
  | non=>exact no rfl rfl
  | bl b=>exact no rfl rfl
  | int i=>exact no rfl rfl
  | str x=>exact no rfl rfl
  | lst ha t=>exact no rfl rfl
  | @tup a xs ds ha t =>
    have fz:=fit_tup fit
    refine⟨.ref a,rfl,.ref a,tyS 5,tyS 5,true,rfl,Tp.ty ha,kit_tab 5 5 (by decide) (by decide) (by decide),_,rfl,iteF ?_⟩
    refine⟨.ref a,rfl,a,_,rfl,.inr (Tp.sq ha),(show 2≤sizeLine by decide),fun p hp=>?_⟩
    have s1:=same_new (G:=H) (o:=.tup [.int 1,.int 2]) hp
    have ha1:=Tp.sq (Tp.mono s1 ha)
    refine⟨p,_,rfl,.inr (.of upd_same),rfl,rfl,_,rfl,?_⟩
    rw[in12]
    have far:(1 == (xs.length:Int) || 2 == (xs.length:Int))=false→stepD (.tuple ds)=false→∀ {B:Prop},(if (!(1 == (xs.length:Int) || 2 == (xs.length:Int)))=true then Q (.bl false) (L2.upd H p (.tup [.int 1,.int 2])) else B):=fun e e2 B=>by
      rw[e]
      rw[e2] at q
      exact iteT (q _ s1)
    have near:(1 == (xs.length:Int) || 2 == (xs.length:Int))=true→∀ {A B:Prop},B→(if (!(1 == (xs.length:Int) || 2 == (xs.length:Int)))=true then A else B):=fun e A B h=>by
      rw[e]
      exact iteF h
    simp only[if_true]
    cases t with
    | nil=>exact far rfl rfl
    | @cons v0 vr d0 dr h0 t =>
      have h0':=h0.up s1
      have ty0:=h0'.ty
      have nd:=h0.nodict
      by_cases l2:vr.length≤1
      · refine near (by
          rcases Nat.le_one_iff_eq_zero_or_eq_one.mp l2 with e | e <;> rw[List.length_cons,e] <;> rfl) ?_
        refine⟨.ref a,rfl,a,_,0,v0,rfl,rfl,ha1,atI_nat (j:=0) rfl,v0,tyS (tyD d0),tyS 3,_,rfl,ty0,kit_tab _ 3 (by omega) (by decide) (by decide),_,rfl,?_⟩
        have nos:isB (tyD d0) 3=false→stepR d0 dr=false→∀ {B:Prop},(if (!isB (tyD d0) 3)=true then Q (.bl false) (L2.upd H p (.tup [.int 1,.int 2])) else B):=fun e e2 B=>by
          rw[e]
          rw[show stepD (.tuple (d0 :: dr))=stepR d0 dr from rfl,e2] at q
          exact iteT (q _ s1)
        cases h0 with
        | non=>exact nos rfl (by cases dr with | nil=>rfl | cons d1 dr=>cases dr <;> rfl)
        | bl b=>exact nos rfl (by cases dr with | nil=>rfl | cons d1 dr=>cases dr <;> rfl)
        | int i=>exact nos rfl (by cases dr with | nil=>rfl | cons d1 dr=>cases dr <;> rfl)
        | lst _ _=>exact nos rfl (by cases dr with | nil=>rfl | cons d1 dr=>cases dr <;> rfl)
        | tup _ _=>exact nos rfl (by cases dr with | nil=>rfl | cons d1 dr=>cases dr <;> rfl)
        | str x =>
          refine iteF ⟨.ref a,rfl,a,_,rfl,.inr ha1,rfl,_,rfl,?_⟩
          cases t with
          | nil =>
            refine iteT ⟨.ref a,rfl,a,_,0,.str x,rfl,rfl,ha1,rfl,ad.g_LONE_WORDS,_,rfl,.inr (lone T),rfl,rfl,?_⟩
            exact q _ s1
          | @cons v1 vr d1 dr h1 t =>
            cases t with
            | cons _ _=>simp at l2
            | nil =>
              have f1:fitD d1=true:=fitDs_mem fz.2 d1 (.tail _ (.head _))
              refine iteF ⟨.ref a,rfl,a,_,rfl,ha1,rfl,_,_,rfl,_,_,rfl,rfl,?_⟩
              refine⟨.str x,rfl,rfl,_,rfl,?_⟩
              have q:∀ H',Same H H'→Q (.bl (if V.str x=V.str "run" then numD 1 9 d1 else inV (.str x) [.str "answer",.str "later",.str "wake"] && nameD d1)) H':=q
              by_cases er:V.str x=V.str "run"
              · rw[if_pos er] at q
                exact ifT er ⟨v1,rfl,v1,d1,1,9,rfl,h1.up s1,q _ s1⟩
              · rw[if_neg er] at q
                refine ifF er ⟨.str x,rfl,ad.g_NAMING_WORDS,_,rfl,.inr (naming T),rfl,rfl,_,rfl,?_⟩
                cases ei:inV (.str x) [.str "answer",.str "later",.str "wake"] with
                | false =>
                  rw[ei,Bool.false_and] at q
                  exact iteF (q _ s1)
                | true =>
                  rw[ei,Bool.true_and] at q
                  exact iteT ⟨v1,rfl,v1,d1,rfl,h1.up s1,f1,fun H' s'=>q _ (s1.trans s')⟩
      · refine far ?_ ?_
        · rw[List.length_cons]
          simp only[Bool.or_eq_false_iff,beq_eq_false_iff_ne,ne_eq]
          omega
        · have lt:=t.length
          cases dr with
          | nil=>rw[lt] at l2;exact absurd (Nat.zero_le _) l2
          | cons d1 dr =>
            cases dr with
            | nil=>rw[lt] at l2;exact absurd (Nat.le_refl 1) l2
            | cons d2 dr=>cases d0 <;> rfl
theorem f_Zr (T:Txt Pg w K mg base ad):FnOk Pg w K mg base CX0 (4+1) ad.a_Zr ad.d_Zr ps_Zr (spStepD K) :=
  ok_Zr T (f_Z6 T) (f_Zg T) (fun vs H Q E ⟨v,s,e,_⟩=>by rw[e];rfl) (rd_Zr T)
end
section
def QB (H:Hp) (Q:VK) (c:Bool):Prop:=∀ H',Same H H'→Q (.bl c) H'
theorem QB.to {H H1:Hp} {Q:VK} {c:Bool} (q:QB H Q c) (s:Same H H1):QB H1 Q c:=fun H' s'=>q _ (s.trans s')
theorem QB.at {H:Hp} {Q:VK} {c:Bool} (q:QB H Q c):Q (.bl c) H:=q _ (.refl _)
theorem ifA {a b:Bool} {P F:Prop} {R:Bool→Prop} (q:R (a && b)) (hf:R false→F) (ht:R b→P):if a=true then P else F:=by
  cases a
  · exact iteF (hf q)
  · rw[Bool.true_and] at q;exact iteT (ht q)
theorem ifO {a b:Bool} {P F:Prop} {R:Bool→Prop} (q:R (a && b)) (hf:R false→F) (ht:R b→P):if (!a)=true then F else P:=by
  cases a
  · exact iteT (hf q)
  · rw[Bool.true_and] at q;exact iteF (ht q)
theorem map_id_all {α:Type} {f:α→Bool} (l:List α):(l.map f).all id=l.all f:=by rw[List.all_map];rfl
theorem map_id_any {α:Type} {f:α→Bool} (l:List α):(l.map f).any id=l.any f:=by rw[List.any_map];rfl
theorem step_inv {d:PyData} (h:stepD d=true):∃ x r,d=.tuple (.str x :: r):=by
  cases d with
  | tuple ds =>
    cases ds with
    | nil=>cases h
    | cons d0 r =>
      have h:stepR d0 r=true:=h
      cases d0 with
      | str x=>exact⟨x,r,rfl⟩
      | _=>cases r with
        | nil=>cases h
        | cons d1 r=>cases r <;> cases h
  | _=>cases h
section
variable {Pg:Program} {w:World} {K:W.Frag} {mg:Str→Option Value} {base:Heap} {ad:Ad}
theorem step_tup {H:Hp} {v:V} {d:PyData} (h:stepD d=true) (hd:Dq K H v d):∃ c x vr r,v=.ref c∧d=.tuple (.str x :: r)∧Tp K H c (.str x :: vr)∧DqA K H vr r:=by
  obtain⟨x,r,rfl⟩:=step_inv h
  cases hd with
  | tup hc t =>
    cases t with
    | cons h0 t=>cases h0;exact⟨_,_,_,_,rfl,rfl,hc,t⟩
theorem all_at {ds:List PyData} {p:PyData→Bool} (h:ds.all p=true) {i:Nat} {d:PyData} (e:ds[i]?=some d):p d=true:=by
  rw[List.all_eq_true] at h
  exact h d (List.mem_of_getElem? e)
def spOpensD (K:W.Frag):Sp:=fun vs H Q _=>∃ v ds,vs=[v]∧Dq K H v (.list ds)∧ds.all stepD=true∧Q (.bl (balB 0 ds)) H
theorem rd_opens:∀ vs H Q E,spOpensD K vs H Q E→t_Z1 Pg w K ad { nx:=fun _ H'=>Q .non H',rt:=Q } (start ns_Z1 vs) H:=by
  rintro vs H Q E ⟨v,ds,rfl,h,al,q⟩
  cases h with
  | @lst a xs _ ha t =>
  have lx:=t.length
  refine⟨.ref a,rfl,a,rfl,⟨xs,.of ha⟩,?_⟩
  refine for_list (xs:=xs) (fun i σ H'=>H'=H∧∃ (u:Option V) (k:Int),σ=[some (.ref a),some (.int k),u]∧balB k (ds.drop i)=balB 0 ds) ⟨rfl,none,0,rfl,rfl⟩ (fun i σ H' _ ⟨e,_⟩=>by rw[e];exact .of ha) ?_ ?_
  · rintro i x σ H' hx ⟨rfl,u,k,rfl,b⟩
    obtain⟨d,hd,dq⟩:=t.get hx
    obtain⟨c,y,vr,r,rfl,rfl,hc,tr⟩:=step_tup (all_at al hd) dq
    have hi:i < ds.length:=(List.getElem?_eq_some_iff.mp hd).1
    have dr:ds.drop i=.tuple (.str y :: r) :: ds.drop (i+1):=by
      rw[List.drop_eq_getElem_cons hi]
      rw[List.getElem?_eq_getElem hi] at hd
      rw[Option.some.inj hd]
    rw[dr] at b
    have b:(if (if V.str y=V.str "mask" then k+1 else if V.str y=V.str "open" then k-1 else k) < 0 then false else balB (if V.str y=V.str "mask" then k+1 else if V.str y=V.str "open" then k-1 else k) (ds.drop (i+1)))=balB 0 ds:=b
    have next:∀ k':Int,(if k' < 0 then false else balB k' (ds.drop (i+1)))=balB 0 ds→tSeq (tIfS (tTest (tOp (rI0 fun i j=>.bl (decide (i < j))) (tVar 1) (tC (V.int 0)))) (tSeq (tRet (tC (V.bl false))) (tNext)) (tNext)) tNext { nx:=fun σ H''=>H''=H'∧∃ (u:Option V) (k:Int),σ=[some (.ref a),some (.int k),u]∧balB k (ds.drop (i+1))=balB 0 ds,rt:=Q,ct:=fun σ H''=>H''=H'∧∃ (u:Option V) (k:Int),σ=[some (.ref a),some (.int k),u]∧balB k (ds.drop (i+1))=balB 0 ds,bk:=tSeq (tRet (tC (V.bl true))) tNext { nx:=fun _ H'=>Q .non H',rt:=Q } } [some (.ref a),some (.int k'),some (.ref c)] H':=fun k' b'=>by
      refine⟨.int k',rfl,_,_,rfl,rfl,_,rfl,?_⟩
      by_cases neg:k' < 0
      · rw[if_pos neg] at b'
        rw[← b'] at q
        exact ifT neg q
      · rw[if_neg neg] at b'
        exact ifF neg ⟨rfl,_,k',rfl,b'⟩
    refine⟨.ref c,rfl,c,_,0,.str y,rfl,rfl,Tp.sq hc,atI_nat (j:=0) rfl,rfl,_,rfl,?_⟩
    by_cases em:V.str y=V.str "mask"
    · rw[if_pos em] at b
      exact ifT em ⟨.int k,rfl,_,_,rfl,rfl,next (k+1) b⟩
    · rw[if_neg em] at b
      refine ifF em ⟨.ref c,rfl,c,_,0,.str y,rfl,rfl,Tp.sq hc,atI_nat (j:=0) rfl,rfl,_,rfl,?_⟩
      by_cases eo:V.str y=V.str "open"
      · rw[if_pos eo] at b
        exact ifT eo ⟨.int k,rfl,_,_,rfl,rfl,next (k-1) b⟩
      · rw[if_neg eo] at b
        exact ifF eo (next k b)
  · rintro σ H' ⟨rfl,u,k,rfl,b⟩
    rw[List.drop_of_length_le (by omega)] at b
    rw[← b] at q
    exact q
theorem f_opens (T:Txt Pg w K mg base ad):FnOk Pg w K mg base CX0 (2+1) ad.a_Z1 ad.d_Z1 ps_Z1 (spOpensD K) :=
  ok_Z1 T (fun vs H Q E ⟨v,s,e,_⟩=>by rw[e];rfl) rd_opens
def spStepsD (K:W.Frag):Sp:=fun vs H Q _=>∃ v d,vs=[v]∧Dq K H v d∧fitD d=true∧QB H Q (stepsD d)
theorem rd_Z9:∀ vs H Q E,spStepsD K vs H Q E→t_Z9 Pg w K ad (spStepD K) (spOpensD K) { nx:=fun _ H'=>Q .non H',rt:=Q } (start ns_Z9 vs) H:=by
  rintro vs H Q E ⟨v,d,rfl,h,fit,q⟩
  have no:isB (tyD d) 4=false→stepsD d=false→t_Z9 Pg w K ad (spStepD K) (spOpensD K) { nx:=fun _ H'=>Q .non H',rt:=Q } (start ns_Z9 [v]) H:=fun e e2=>by
    refine⟨v,rfl,v,tyS (tyD d),tyS 4,false,rfl,h.ty,by rw[← e];exact kit_tab _ 4 (by have:=h.nodict;omega) (by decide) (by decide),_,rfl,iteT ?_⟩
    rw[e2] at q
    exact q _ (.refl _)
  cases h with
  | non=>exact no rfl rfl
  | bl b=>exact no rfl rfl
  | int i=>exact no rfl rfl
  | str x=>exact no rfl rfl
  | tup ha t=>exact no rfl rfl
  | @lst a xs ds ha t =>
    have fz:=fit_lst fit
    have lx:=t.length
    have z:=szL
    have h:Dq K H (.ref a) (.list ds):=.lst ha t
    have q:QB H Q (decide ((1:Int)≤ds.length) && (decide ((ds.length:Int)≤12) && (ds.all stepD && (ds.any runD && balB 0 ds)))):=q
    refine⟨.ref a,rfl,.ref a,tyS 4,tyS 4,true,rfl,.of (.lst ha),kit_tab 4 4 (by decide) (by decide) (by decide),_,rfl,iteF ?_⟩
    refine⟨.ref a,rfl,a,xs,rfl,.inl (.of ha),_,_,rfl,rfl,_,rfl,?_⟩
    rw[← lx] at q
    refine ifA q (fun q=>⟨_,rfl,iteT q.at⟩) fun q=>⟨_,_,rfl,rfl,_,rfl,?_⟩
    refine ifO q (fun q=>q.at) fun q=>?_
    dsimp only [tNext,tSeq,tRet,tCB,tCons,tIfS,tNot,L2.tB]
    refine rd_map ((ds.map stepD).map V.bl) (wk_list (.of ha)) (fun R r=>⟨.ref a,rfl,a,rfl,⟨xs,.of ha⟩,r⟩) (by rw[List.length_map,List.length_map];omega) (by omega) (fun k y b hy hb H2 Q' s2 q'=>?_) (fun D H2 s2 hD h2=>?_)
    · obtain⟨x,hx,hd⟩:=t.get hy
      rw[List.getElem?_map,List.getElem?_map,hx] at hb
      cases hb
      exact⟨y,rfl,y,x,rfl,hd.up s2,fitDs_mem fz.2 x (List.mem_of_getElem? hx),fun H3 s3=>q' _ s3⟩
    · refine⟨D,ds.map stepD,rfl,.of h2,_,rfl,?_⟩
      rw[map_id_all]
      cases al:ds.all stepD with
      | false =>
        rw[al,Bool.false_and] at q
        exact iteT (q _ s2)
      | true =>
      rw[al,Bool.true_and] at q
      refine iteF ?_
      dsimp only [tNext,tSeq,tRet,tCB,tCons,tAndV]
      refine rd_map ((ds.map runD).map V.bl) (wk_list (.of (s2 _ _ ha))) (fun R r=>⟨.ref a,rfl,a,rfl,⟨xs,.of (s2 _ _ ha)⟩,r⟩) (by rw[List.length_map,List.length_map];omega) (by omega) (fun k y b hy hb H3 Q' s3 q'=>?_) (fun D' H3 s3 hD' h3=>?_)
      · obtain⟨x,hx,hd⟩:=t.get hy
        obtain⟨c,y',vr,r,rfl,rfl,hc,tr⟩:=step_tup (all_at al hx) ((hd.up s2).up s3)
        rw[List.getElem?_map,List.getElem?_map,hx] at hb
        cases hb
        exact⟨.ref c,rfl,c,_,0,.str y',rfl,rfl,Tp.sq hc,atI_nat (j:=0) rfl,rfl,q' _ (.refl _)⟩
      · refine⟨D',ds.map runD,rfl,.of h3,_,rfl,?_⟩
        rw[map_id_any]
        exact ifA (q.to (s2.trans s3)) (fun q=>q.at) fun q=>⟨.ref a,rfl,.ref a,ds,rfl,(h.up s2).up s3,al,q.at⟩
theorem f_Z9 (T:Txt Pg w K mg base ad):FnOk Pg w K mg base CX0 (6+1) ad.a_Z9 ad.d_Z9 ps_Z9 (spStepsD K) :=
  ok_Z9 T (f_Zr T) (f_opens T) (fun vs H Q E ⟨v,s,e,_⟩=>by rw[e];rfl) rd_Z9
end
end
section
theorem guard_len:∀ {ds:List PyData},ds.length≠3→guardD3 (.tuple ds)=false
  | [],_=>rfl
  | [_],_=>rfl
  | [_,_],_=>rfl
  | [_,_,_],h=>absurd rfl h
  | _ :: _ :: _ :: _ :: _,_=>rfl
theorem line_len:∀ {ds:List PyData},ds.length≠5→lineD (.tuple ds)=false
  | [],_=>rfl
  | [_],_=>rfl
  | [_,_],_=>rfl
  | [_,_,_],_=>rfl
  | [_,_,_,_],_=>rfl
  | [_,_,_,_,_],h=>absurd rfl h
  | _ :: _ :: _ :: _ :: _ :: _ :: _,_=>rfl
theorem bottom_len:∀ {ds:List PyData},ds.length≠2→bottomD (.tuple ds)=false
  | [],_=>rfl
  | [_],_=>rfl
  | [_,_],h=>absurd rfl h
  | _ :: _ :: _ :: _,_=>rfl
theorem thread_len:∀ {ds:List PyData},ds.length≠3→threadD (.tuple ds)=false
  | [],_=>rfl
  | [_],_=>rfl
  | [_,_],_=>rfl
  | [_,_,_],h=>absurd rfl h
  | _ :: _ :: _ :: _ :: _,_=>rfl
theorem int_len {n:Nat} {m:Int} (h:¬ V.int n=V.int m):(n:Int)≠m:=fun e=>h (by rw[e])
theorem len_int {n:Nat} {m:Int} (h:V.int n=V.int m):(n:Int)=m:=by cases h;rfl
theorem dqa_cons {K:W.Frag} {G:Hp} {xs:List V} {ds:List PyData} {n:Nat} (t:DqA K G xs ds) (l:xs.length=n+1):∃ v vs d es,xs=v :: vs∧ds=d :: es∧Dq K G v d∧DqA K G vs es∧vs.length=n:=by
  cases t with
  | nil=>cases l
  | cons h t=>exact⟨_,_,_,_,rfl,rfl,h,t,by simpa using l⟩
theorem dqa_nil {K:W.Frag} {G:Hp} {xs:List V} {ds:List PyData} (t:DqA K G xs ds) (l:xs.length=0):xs=[]∧ds=[]:=by
  cases t with
  | nil=>exact⟨rfl,rfl⟩
  | cons h t=>cases l
section
variable {Pg:Program} {w:World} {K:W.Frag} {mg:Str→Option Value} {base:Heap} {ad:Ad}
def spGuardD (K:W.Frag):Sp:=fun vs H Q _=>∃ v d,vs=[v]∧Dq K H v d∧QB H Q (guardD3 d)
theorem rd_Zo:∀ vs H Q E,spGuardD K vs H Q E→t_Zo Pg w K ad (spNumD K) { nx:=fun _ H'=>Q .non H',rt:=Q } (start ns_Zo vs) H:=by
  rintro vs H Q E ⟨v,d,rfl,h,q⟩
  have no:isB (tyD d) 5=false→guardD3 d=false→t_Zo Pg w K ad (spNumD K) { nx:=fun _ H'=>Q .non H',rt:=Q } (start ns_Zo [v]) H:=fun e e2=>by
    refine⟨v,rfl,v,tyS (tyD d),tyS 5,false,rfl,h.ty,by rw[← e];exact kit_tab _ 5 (by have:=h.nodict;omega) (by decide) (by decide),_,rfl,iteT ?_⟩
    rw[e2] at q
    exact q.at
  cases h with
  | non=>exact no rfl rfl
  | bl b=>exact no rfl rfl
  | int i=>exact no rfl rfl
  | str x=>exact no rfl rfl
  | lst ha t=>exact no rfl rfl
  | @tup a xs ds ha t =>
    have lx:=t.length
    refine⟨.ref a,rfl,.ref a,tyS 5,tyS 5,true,rfl,Tp.ty ha,kit_tab 5 5 (by decide) (by decide) (by decide),_,rfl,iteF ?_⟩
    refine⟨.ref a,rfl,a,_,rfl,.inr (Tp.sq ha),rfl,_,rfl,?_⟩
    by_cases l3:V.int (xs.length:Nat)=V.int 3
    · refine ifNF l3 ?_
      have l3:=len_int l3
      have ly:xs.length=3:=by omega
      obtain⟨v1,x1,d1,z1,rfl,rfl,e1,t1,l1⟩:=dqa_cons t ly
      obtain⟨v2,x2,d2,z2,rfl,rfl,e2,t2,l2⟩:=dqa_cons t1 l1
      obtain⟨v3,x3,d3,z3,rfl,rfl,e3,t3,l3⟩:=dqa_cons t2 l2
      obtain⟨rfl,rfl⟩:=dqa_nil t3 l3
      refine⟨.ref a,rfl,a,_,rfl,Tp.sq ha,rfl,_,_,rfl,_,_,rfl,_,_,rfl,rfl,?_⟩
      refine⟨_,rfl,_,_,1,9,rfl,e1,_,rfl,ifA q (fun q=>q.at) fun q=>?_⟩
      refine⟨_,rfl,_,_,1,60,rfl,e2,_,rfl,ifA q (fun q=>q.at) fun q=>?_⟩
      exact⟨_,rfl,_,_,1,60,rfl,e3,q.at⟩
    · refine ifNT l3 ?_
      have l3:=int_len l3
      rw[guard_len (by omega)] at q
      exact q.at
theorem f_Zo (T:Txt Pg w K mg base ad):FnOk Pg w K mg base CX0 (4+1) ad.a_Zo ad.d_Zo ps_Zo (spGuardD K) :=
  ok_Zo T (f_Z6 T) (fun vs H Q E ⟨v,d,e,_⟩=>by rw[e];rfl) rd_Zo
def spLineD (K:W.Frag):Sp:=fun vs H Q _=>∃ v d,vs=[v]∧Dq K H v d∧fitD d=true∧QB H Q (lineD d)
theorem isBool {d:PyData} (h:tyD d≤5):isB (tyD d) 1=boolD d:=by
  cases d <;> rfl
theorem rd_Zq:∀ vs H Q E,spLineD K vs H Q E→t_Zq Pg w K ad (spNumD K) (spNameD K) (spStepsD K) (spGuardD K) { nx:=fun _ H'=>Q .non H',rt:=Q } (start ns_Zq vs) H:=by
  rintro vs H Q E ⟨v,d,rfl,h,fit,q⟩
  have no:isB (tyD d) 5=false→lineD d=false→t_Zq Pg w K ad (spNumD K) (spNameD K) (spStepsD K) (spGuardD K) { nx:=fun _ H'=>Q .non H',rt:=Q } (start ns_Zq [v]) H:=fun e e2=>by
    refine⟨v,rfl,v,tyS (tyD d),tyS 5,false,rfl,h.ty,by rw[← e];exact kit_tab _ 5 (by have:=h.nodict;omega) (by decide) (by decide),_,rfl,iteT ?_⟩
    rw[e2] at q
    exact q.at
  cases h with
  | non=>exact no rfl rfl
  | bl b=>exact no rfl rfl
  | int i=>exact no rfl rfl
  | str x=>exact no rfl rfl
  | lst ha t=>exact no rfl rfl
  | @tup a xs ds ha t =>
    have lx:=t.length
    have fz:=fit_tup fit
    refine⟨.ref a,rfl,.ref a,tyS 5,tyS 5,true,rfl,Tp.ty ha,kit_tab 5 5 (by decide) (by decide) (by decide),_,rfl,iteF ?_⟩
    refine⟨.ref a,rfl,a,_,rfl,.inr (Tp.sq ha),rfl,_,rfl,?_⟩
    by_cases l3:V.int (xs.length:Nat)=V.int 5
    · refine ifNF l3 ?_
      have l3:=len_int l3
      have ly:xs.length=5:=by omega
      obtain⟨v1,x1,d1,z1,rfl,rfl,e1,t1,l1⟩:=dqa_cons t ly
      obtain⟨v2,x2,d2,z2,rfl,rfl,e2,t2,l2⟩:=dqa_cons t1 l1
      obtain⟨v3,x3,d3,z3,rfl,rfl,e3,t3,l3⟩:=dqa_cons t2 l2
      obtain⟨v4,x4,d4,z4,rfl,rfl,e4,t4,l4⟩:=dqa_cons t3 l3
      obtain⟨v5,x5,d5,z5,rfl,rfl,e5,t5,l5⟩:=dqa_cons t4 l4
      obtain⟨rfl,rfl⟩:=dqa_nil t5 l5
      have q:QB H Q (nameD d1 && (numD 1 99 d2 && (boolD d3 && (guardD3 d4 && stepsD d5)))):=q
      have m:=fitDs_mem fz.2
      refine⟨.ref a,rfl,a,_,rfl,Tp.sq ha,rfl,_,_,rfl,_,_,rfl,_,_,rfl,_,_,rfl,_,_,rfl,rfl,?_⟩
      refine⟨_,rfl,_,_,rfl,e1,m _ (.head _),fun H1 s1=>⟨_,rfl,ifO (q.to s1) (fun q=>q.at) fun q=>?_⟩⟩
      refine⟨_,rfl,_,_,1,99,rfl,e2.up s1,_,rfl,ifO q (fun q=>q.at) fun q=>?_⟩
      refine⟨_,rfl,_,tyS (tyD d3),tyS 1,_,rfl,(e3.up s1).ty,kit_tab _ 1 (by have:=e3.nodict;omega) (by decide) (by decide),_,rfl,?_⟩
      rw[isBool e3.nodict]
      refine ifO q (fun q=>q.at) fun q=>?_
      refine⟨_,rfl,_,_,rfl,e4.up s1,fun H2 s2=>⟨_,rfl,ifA (q.to s2) (fun q=>q.at) fun q=>?_⟩⟩
      exact⟨_,rfl,_,_,rfl,(e5.up s1).up s2,m _ (.tail _ (.tail _ (.tail _ (.tail _ (.head _))))),q⟩
    · refine ifNT l3 ?_
      have l3:=int_len l3
      rw[line_len (by omega)] at q
      exact q.at
theorem f_Zq (T:Txt Pg w K mg base ad):FnOk Pg w K mg base CX0 (8+1) ad.a_Zq ad.d_Zq ps_Zq (spLineD K) :=
  ok_Zq T (f_Z6 T) (f_Zg T) (f_Z9 T) (f_Zo T) (fun vs H Q E ⟨v,l,e,_⟩=>by rw[e];rfl) rd_Zq
def spBottomD (K:W.Frag):Sp:=fun vs H Q _=>∃ v d,vs=[v]∧Dq K H v d∧fitD d=true∧QB H Q (bottomD d)
theorem rd_Zk:∀ vs H Q E,spBottomD K vs H Q E→t_Zk Pg w K ad (spNameD K) (spStepsD K) { nx:=fun _ H'=>Q .non H',rt:=Q } (start ns_Zk vs) H:=by
  rintro vs H Q E ⟨v,d,rfl,h,fit,q⟩
  have no:isB (tyD d) 5=false→bottomD d=false→t_Zk Pg w K ad (spNameD K) (spStepsD K) { nx:=fun _ H'=>Q .non H',rt:=Q } (start ns_Zk [v]) H:=fun e e2=>by
    refine⟨v,rfl,v,tyS (tyD d),tyS 5,false,rfl,h.ty,by rw[← e];exact kit_tab _ 5 (by have:=h.nodict;omega) (by decide) (by decide),_,rfl,iteF ?_⟩
    rw[e2] at q
    exact q.at
  cases h with
  | non=>exact no rfl rfl
  | bl b=>exact no rfl rfl
  | int i=>exact no rfl rfl
  | str x=>exact no rfl rfl
  | lst ha t=>exact no rfl rfl
  | @tup a xs ds ha t =>
    have lx:=t.length
    have fz:=fit_tup fit
    refine⟨.ref a,rfl,.ref a,tyS 5,tyS 5,true,rfl,Tp.ty ha,kit_tab 5 5 (by decide) (by decide) (by decide),_,rfl,iteT ?_⟩
    refine⟨.ref a,rfl,a,_,rfl,.inr (Tp.sq ha),rfl,_,rfl,?_⟩
    by_cases l3:V.int (xs.length:Nat)=V.int 2
    · refine ifT l3 ?_
      have l3:=len_int l3
      have ly:xs.length=2:=by omega
      obtain⟨v1,x1,d1,z1,rfl,rfl,e1,t1,l1⟩:=dqa_cons t ly
      obtain⟨v2,x2,d2,z2,rfl,rfl,e2,t2,l2⟩:=dqa_cons t1 l1
      obtain⟨rfl,rfl⟩:=dqa_nil t2 l2
      have m:=fitDs_mem fz.2
      refine⟨.ref a,rfl,a,_,0,_,rfl,rfl,Tp.sq ha,rfl,_,_,rfl,e1,m _ (.head _),fun H1 s1=>⟨_,rfl,ifA (q.to s1) (fun q=>q.at) fun q=>?_⟩⟩
      exact⟨.ref a,rfl,a,_,1,_,rfl,rfl,Tp.sq (Tp.mono s1 ha),rfl,_,_,rfl,e2.up s1,m _ (.tail _ (.head _)),q⟩
    · refine ifF l3 ?_
      have l3:=int_len l3
      rw[bottom_len (by omega)] at q
      exact q.at
theorem f_Zk (T:Txt Pg w K mg base ad):FnOk Pg w K mg base CX0 (8+1) ad.a_Zk ad.d_Zk ps_Zk (spBottomD K) :=
  ok_Zk T (f_Zg T) (f_Z9 T) (fun vs H Q E ⟨v,l,e,_⟩=>by rw[e];rfl) rd_Zk
def spThreadD (K:W.Frag):Sp:=fun vs H Q _=>∃ v d,vs=[v]∧Dq K H v d∧fitD d=true∧QB H Q (threadD d)
theorem rd_Zi:∀ vs H Q E,spThreadD K vs H Q E→t_Zi Pg w K ad (spNumD K) (spNameD K) (spStepsD K) { nx:=fun _ H'=>Q .non H',rt:=Q } (start ns_Zi vs) H:=by
  rintro vs H Q E ⟨v,d,rfl,h,fit,q⟩
  have no:isB (tyD d) 5=false→threadD d=false→t_Zi Pg w K ad (spNumD K) (spNameD K) (spStepsD K) { nx:=fun _ H'=>Q .non H',rt:=Q } (start ns_Zi [v]) H:=fun e e2=>by
    refine⟨v,rfl,v,tyS (tyD d),tyS 5,false,rfl,h.ty,by rw[← e];exact kit_tab _ 5 (by have:=h.nodict;omega) (by decide) (by decide),_,rfl,iteT ?_⟩
    rw[e2] at q
    exact q.at
  cases h with
  | non=>exact no rfl rfl
  | bl b=>exact no rfl rfl
  | int i=>exact no rfl rfl
  | str x=>exact no rfl rfl
  | lst ha t=>exact no rfl rfl
  | @tup a xs ds ha t =>
    have lx:=t.length
    have fz:=fit_tup fit
    refine⟨.ref a,rfl,.ref a,tyS 5,tyS 5,true,rfl,Tp.ty ha,kit_tab 5 5 (by decide) (by decide) (by decide),_,rfl,iteF ?_⟩
    refine⟨.ref a,rfl,a,_,rfl,.inr (Tp.sq ha),rfl,_,rfl,?_⟩
    by_cases l3:V.int (xs.length:Nat)=V.int 3
    · refine ifNF l3 ?_
      have l3:=len_int l3
      have ly:xs.length=3:=by omega
      obtain⟨v1,x1,d1,z1,rfl,rfl,e1,t1,l1⟩:=dqa_cons t ly
      obtain⟨v2,x2,d2,z2,rfl,rfl,e2,t2,l2⟩:=dqa_cons t1 l1
      obtain⟨v3,x3,d3,z3,rfl,rfl,e3,t3,l3⟩:=dqa_cons t2 l2
      obtain⟨rfl,rfl⟩:=dqa_nil t3 l3
      have m:=fitDs_mem fz.2
      refine⟨.ref a,rfl,a,_,rfl,Tp.sq ha,rfl,_,_,rfl,_,_,rfl,_,_,rfl,rfl,?_⟩
      refine⟨_,rfl,_,_,rfl,e1,m _ (.head _),fun H1 s1=>⟨_,rfl,ifA (q.to s1) (fun q=>q.at) fun q=>?_⟩⟩
      refine⟨_,rfl,_,_,1,99,rfl,e2.up s1,_,rfl,ifA q (fun q=>q.at) fun q=>?_⟩
      exact⟨_,rfl,_,_,rfl,e3.up s1,m _ (.tail _ (.tail _ (.head _))),q⟩
    · refine ifNT l3 ?_
      have l3:=int_len l3
      rw[thread_len (by omega)] at q
      exact q.at
theorem f_Zi (T:Txt Pg w K mg base ad):FnOk Pg w K mg base CX0 (8+1) ad.a_Zi ad.d_Zi ps_Zi (spThreadD K) :=
  ok_Zi T (f_Z6 T) (f_Zg T) (f_Z9 T) (fun vs H Q E ⟨v,l,e,_⟩=>by rw[e];rfl) rd_Zi
end
end
section
theorem inK_mem {acc:List Key} {k:Key}:inK acc k=true↔k∈acc:=by
  unfold inK
  rw[List.any_eq_true]
  constructor
  · rintro⟨j,hj,e⟩
    rw[decide_eq_true_eq] at e
    subst e
    exact hj
  · exact fun h=>⟨k,h,decide_eq_true rfl⟩
theorem fold_le:∀ (ks acc:List Key),(ks.foldl addK acc).length≤acc.length+ks.length
  | [],acc=>Nat.le_refl _
  | k :: ks,acc=>by
    rw[List.foldl_cons,List.length_cons]
    have:=fold_le ks (addK acc k)
    have : (addK acc k).length≤acc.length+1:=by
      unfold addK
      split
      · omega
      · rw[List.length_append];exact Nat.le_refl _
    omega
theorem fold_len:∀ (ks acc:List Key),acc.Nodup→((ks.foldl addK acc).length=acc.length+ks.length↔(acc++ks).Nodup)
  | [],acc,nd=>by rw[List.append_nil];exact⟨fun _=>nd,fun _=>rfl⟩
  | k :: ks,acc,nd=>by
    rw[List.foldl_cons,List.length_cons]
    by_cases hk:inK acc k=true
    · have e:addK acc k=acc:=by unfold addK;rw[if_pos hk]
      rw[e]
      have:=fold_le ks acc
      constructor
      · intro h;omega
      · intro h
        rw[List.nodup_append] at h
        exact absurd rfl (h.2.2 k (inK_mem.mp hk) k (.head _))
    · have hm:k∉acc:=fun z=>hk (inK_mem.mpr z)
      rw[addK_new hm]
      have nd2:(acc++[k]).Nodup:=by
        rw[List.nodup_append]
        refine⟨nd,by simp,fun a ha b hb=>?_⟩
        rw[List.mem_singleton] at hb
        subst hb
        exact fun z=>hm (z ▸ ha)
      have ih:=fold_len ks (acc++[k]) nd2
      rw[List.length_append,List.length_singleton,List.append_assoc] at ih
      rw[show acc.length+(ks.length+1)=acc.length+1+ks.length by omega]
      exact ih
theorem fm_get {α β:Type} {f:α→Option β}:∀ {l:List α},(∀ x∈l,(f x).isSome=true)→∀ i:Nat,(l.filterMap f)[i]?=l[i]?.bind f
  | [],_,i=>by simp
  | a :: l,h,i=>by
    have ha:=h a (.head _)
    cases e:f a with
    | none=>rw[e] at ha;cases ha
    | some b =>
      rw[List.filterMap_cons_some e]
      cases i with
      | zero=>simp[e]
      | succ i =>
        rw[List.getElem?_cons_succ,List.getElem?_cons_succ]
        exact fm_get (fun x hx=>h x (.tail _ hx)) i
theorem fm_len {α β:Type} {f:α→Option β}:∀ {l:List α},(∀ x∈l,(f x).isSome=true)→(l.filterMap f).length=l.length
  | [],_=>rfl
  | a :: l,h=>by
    have ha:=h a (.head _)
    cases e:f a with
    | none=>rw[e] at ha;cases ha
    | some b =>
      rw[List.filterMap_cons_some e,List.length_cons,List.length_cons,fm_len fun x hx=>h x (.tail _ hx)]
theorem rd_setD {H:Hp} {xs:List V} {P:Program} {w:World} {wi:TI} {J:L2.It} {i:Nat} {te:TE} {σ:L2.St} {Q:VK} (ks:List Key) (wk:Wk J xs H) (hwi:∀ R:L2.It→Hp→Prop,R J H→wi σ H R) (hl:ks.length=xs.length) (hz:xs.length+1 < 4096)
    (el:∀ (k:Nat) x y,xs[k]?=some x→ks[k]?=some y→∀ H2 (Q':VK),Same H H2→Q' (kV y) H2→te ((wipe σ [i]).set i (some x)) H2 Q')
    (q:∀ D H2,Same H H2→H2 D=some (SetK P w D (ks.foldl addK []))→Q (.ref D) H2):tSc P w wi (gName i) tYes te [i] σ H Q:=by
  refine hwi _ fun D hD=>?_
  refine⟨fun k m H2=>k+m=xs.length∧Same H H2∧H2 D=some (SetK P w D ((ks.take k).foldl addK [])),⟨xs.length,by omega,same_new hD,upd_same⟩,?_⟩
  rintro k m H2 ⟨em,s2,h2⟩
  by_cases hlt:k < xs.length
  · obtain⟨x,hx⟩:∃ x,xs[k]?=some x:=⟨xs[k],by simp[hlt]⟩
    obtain⟨kk,hkk⟩:∃ y,ks[k]?=some y:=⟨ks[k]'(by omega),by simp⟩
    refine .inr ⟨wk.go _ s2 k x hx,fun H3=>Same H H3∧H3 D=some (SetK P w D ((ks.take (k+1)).foldl addK [])),fun H3 ⟨a,b⟩=>⟨m-1,by omega,by omega,a,b⟩,fun x' H' hyl=>?_⟩
    obtain⟨rfl,rfl⟩:=wk.yl _ s2 k x x' H' hx hyl
    refine⟨wipe1 _ _ _,?_⟩
    simp only[tYes,if_true]
    refine el k _ kk hx hkk H' _ s2 ⟨_,kk,h2,rfl,?_,fun b o hb=>?_,?_⟩
    · have:=fold_le (ks.take k) []
      rw[List.length_take,List.length_nil] at this
      show _ < 4096
      omega
    · rw[upd_ne (fun z=>by subst z;rw[hD] at hb;cases hb)]
      exact s2 _ _ hb
    · rw[upd_same,List.take_add_one,hkk,List.foldl_append]
      rfl
  · have ek:k=xs.length:=by omega
    subst ek
    refine .inl ⟨wk.st _ s2,q D H2 s2 ?_⟩
    rw[h2,List.take_of_length_le (by omega)]
section
variable {Pg:Program} {w:World} {K:W.Frag} {mg:Str→Option Value} {base:Heap} {ad:Ad}
theorem kids_cases {H:Hp} {v:V} {d:PyData} {ds:List PyData} (h:Dq K H v d) (s:kidsQ d=some ds):∃ a xs J,v=.ref a∧DqA K H xs ds∧(SqL K H a xs∨SqT K H a xs)∧(tyD d=4∨tyD d=5)∧Wk J xs H ∧
    ∀ (σ:L2.St) (tv:TE) (R:L2.It→Hp→Prop),(∀ Q:VK,Q v H→tv σ H Q)→R J H→iSq K tv σ H R:=by
  cases h with
  | lst ha t=>cases s;exact⟨_,_,_,rfl,t,.inl (.of ha),.inl rfl,wk_list (.of ha),fun σ tv R ht r=>ht _ (.inr ⟨_,rfl,.inl ⟨⟨_,.of ha⟩,r⟩⟩)⟩
  | tup ha t=>cases s;exact⟨_,_,_,rfl,t,.inr (Tp.sq ha),.inr rfl,wk_tup (Tp.sq ha),fun σ tv R ht r=>ht _ (.inr ⟨_,rfl,.inr ⟨⟨_,Tp.sq ha⟩,r⟩⟩)⟩
  | _=>cases s
def spManyD (K:W.Frag):Sp:=fun vs H Q _=>∃ v d,∃ lo hi:Int,vs=[v,.int lo,.int hi]∧Dq K H v d∧QB H Q (manyD lo hi d)
theorem rd_Zh:∀ vs H Q E,spManyD K vs H Q E→t_Zh Pg w K ad { nx:=fun _ H'=>Q .non H',rt:=Q } (start ns_Zh vs) H:=by
  rintro vs H Q E ⟨v,d,lo,hi,rfl,h,q⟩
  have nd:=h.nodict
  refine⟨_,rfl,(show 2≤sizeLine by decide),fun p hp=>?_⟩
  have s1:=same_new (G:=H) (o:=.tup [.ty (tyS 4),.ty (tyS 5)]) hp
  have any:W.kitAny K (.type (tyS (tyD d))) [.type (tyS 4),.type (tyS 5)]=some (kidsQ d).isSome:=by
    unfold W.kitAny W.kitAny W.kitAny
    rw[kit_tab _ 4 (by omega) (by decide) (by decide),kit_tab _ 5 (by omega) (by decide) (by decide)]
    cases h <;> rfl
  refine⟨v,tyS (tyD d),p,tyS 4,tyS 5,_,rfl,upd_same,(h.up s1).ty,any,_,rfl,?_⟩
  unfold manyD at q
  cases e:kidsQ d with
  | none =>
    rw[e] at q
    exact iteF (q _ s1)
  | some ds =>
    rw[e] at q
    have q:QB H Q (decide (lo≤ds.length) && decide ((ds.length:Int)≤hi)):=q
    obtain⟨a,xs,J,rfl,t,hs,ty,wk,wi⟩:=kids_cases h e
    rw[← t.length] at q
    refine iteT ⟨_,rfl,_,rfl,a,xs,rfl,hs.imp (same_sqL s1) (same_sqT s1),_,_,rfl,rfl,_,rfl,?_⟩
    exact ifA (q.to s1) (fun q=>q.at) fun q=>⟨_,rfl,_,_,rfl,rfl,q.at⟩
theorem f_Zh (T:Txt Pg w K mg base ad):FnOk Pg w K mg base CX0 (2+1) ad.a_Zh ad.d_Zh ps_Zh (spManyD K) :=
  ok_Zh T (fun vs H Q E ⟨v,d,lo,hi,e,_⟩=>by rw[e];rfl) rd_Zh
def spUnlikeD (K:W.Frag):Sp:=fun vs H Q _=>∃ v d ds,∃ n:Nat,vs=[v,.int n]∧Dq K H v d∧kidsQ d=some ds∧ds.length < 1000∧(∀ x∈ds,(keyQ n x).isSome=true)∧QB H Q (unlikeD n ds)
theorem key_at {H:Hp} {x:V} {d:PyData} {n:Nat} {k:Key} (h:Dq K H x d) (e:keyQ n d=some k):∃ c xs,x=.ref c∧Tp K H c xs∧xs[n]?=some (kV k):=by
  cases h with
  | @tup c xs ds hc tc =>
    have e:(match ds[n]? with | some (.str x)=>some (Sum.inr x) | some (.int i)=>some (Sum.inl i) | _=>none:Option Key)=some k:=e
    cases e2:ds[n]? with
    | none=>rw[e2] at e;cases e
    | some y =>
      obtain⟨z,hz,hd⟩:=tc.at e2
      rw[e2] at e
      cases hd with
      | str s=>cases e;exact⟨_,_,rfl,hc,hz⟩
      | int s=>cases e;exact⟨_,_,rfl,hc,hz⟩
      | _=>cases e
  | _=>cases e
theorem rd_Z5:∀ vs H Q E,spUnlikeD K vs H Q E→t_Z5 Pg w K ad { nx:=fun _ H'=>Q .non H',rt:=Q } (start ns_Z5 vs) H:=by
  rintro vs H Q E ⟨v,d,ds,n,rfl,h,sq,hz,hk,q⟩
  have z:=szL
  obtain⟨a,xs,J,rfl,t,hs,ty,wk,wi⟩:=kids_cases h sq
  have lx:=t.length
  have lk:=fm_len hk
  dsimp only [t_Z5,tNext,tSeq,tRet,tCB,tCons,tOp]
  refine rd_setD (ds.filterMap (keyQ n)) wk (fun R r=>wi _ _ _ (fun Q' q'=>⟨_,rfl,q'⟩) r) (by omega) (by omega) (fun k x kk hx hkk H2 Q' s2 q'=>?_) (fun D H2 s2 h2=>?_)
  · obtain⟨r,hr,hd⟩:=t.get hx
    rw[fm_get hk,hr] at hkk
    obtain⟨c,ys,rfl,hc,hy⟩:=key_at hd hkk
    exact⟨_,rfl,_,rfl,_,_,n,_,rfl,rfl,Tp.sq (Tp.mono s2 hc),atI_nat hy,q'⟩
  · refine⟨D,_,rfl,h2,_,rfl,a,xs,rfl,hs.imp (same_sqL s2) (same_sqT s2),rfl,?_⟩
    have e:decide (V.int (((ds.filterMap (keyQ n)).foldl addK []).length:Nat)=V.int (xs.length:Nat))=unlikeD n ds:=by
      unfold unlikeD
      have f:=fold_len (ds.filterMap (keyQ n)) [] List.nodup_nil
      rw[List.length_nil,Nat.zero_add,List.nil_append,lk,← lx] at f
      refine decide_eq_decide.mpr ⟨fun e=>f.mp (by have:=len_int e;omega),fun e=>by rw[f.mpr e]⟩
    show Q (.bl (decide (V.int (((ds.filterMap (keyQ n)).foldl addK []).length:Nat)=V.int (xs.length:Nat)))) H2
    rw[e]
    exact q _ s2
theorem f_Z5 (T:Txt Pg w K mg base ad):FnOk Pg w K mg base CX0 (2+1) ad.a_Z5 ad.d_Z5 ps_Z5 (spUnlikeD K) :=
  ok_Z5 T (fun vs H Q E ⟨v,d,ds,n,e,_⟩=>by rw[e];rfl) rd_Z5
theorem all_rowsD {H:Hp} {Q:VK} {v:V} {d:PyData} {ds:List PyData} {f:PyData→Bool} {sp:Sp} {i j:Nat} {σ:L2.St} (h:Dq K H v d) (s:kidsQ d=some ds) (hz:ds.length < 1000) (hσ:σ[j]?=some (some v)) (hi:i < σ.length)
    (el:∀ r∈ds,∀ x H2 (Q':VK),Dq K H2 x r→QB H2 Q' (f r)→sp [x] H2 Q' E0) (q:QB H Q (ds.all f)) :
    tCB (rAll K) (tCons (tLc (iSq K (tVar j)) (gName i) tYes (tCall sp [] E0 (tCons (tVar i) tNil)) [i]) tNil) σ H Q:=by
  have z:=szL
  obtain⟨a,xs,J,rfl,t,hs,ty,wk,wi⟩:=kids_cases h s
  have lx:=t.length
  dsimp only [tCB,tCons]
  refine rd_map ((ds.map f).map V.bl) wk (fun R r=>wi _ _ _ (fun Q' q'=>⟨_,hσ,q'⟩) r) (by rw[List.length_map,List.length_map];omega) (by omega) (fun k y b hy hb H2 Q' s2 q'=>?_) (fun D H2 s2 hD h2=>?_)
  · obtain⟨x,hx,hd⟩:=t.get hy
    rw[List.getElem?_map,List.getElem?_map,hx] at hb
    cases hb
    refine⟨y,?_,el x (List.mem_of_getElem? hx) y H2 _ (hd.up s2) fun H3 s3=>q' _ s3⟩
    rw[List.getElem?_set_self]
    show i < (List.set σ i none).length
    rw[List.length_set]
    exact hi
  · refine⟨D,ds.map f,rfl,.of h2,?_⟩
    rw[map_id_all]
    exact q _ s2
theorem line_inv {d:PyData} (h:lineD d=true):∃ n r u g t,d=.tuple [n,r,u,g,t]∧nameD n=true∧numD 1 99 r=true∧boolD u=true∧guardD3 g=true∧stepsD t=true:=by
  cases d with
  | tuple ds =>
    match ds,h with
    | [n,r,u,g,t],h =>
      have h:(nameD n && (numD 1 99 r && (boolD u && (guardD3 g && stepsD t))))=true:=h
      simp only[Bool.and_eq_true] at h
      exact⟨_,_,_,_,_,rfl,h⟩
  | _=>cases h
theorem bottom_inv {d:PyData} (h:bottomD d=true):∃ n t,d=.tuple [n,t]∧nameD n=true∧stepsD t=true:=by
  cases d with
  | tuple ds =>
    match ds,h with
    | [n,t],h =>
      have h:(nameD n && stepsD t)=true:=h
      simp only[Bool.and_eq_true] at h
      exact⟨_,_,rfl,h⟩
  | _=>cases h
theorem thread_inv {d:PyData} (h:threadD d=true):∃ n r t,d=.tuple [n,r,t]∧nameD n=true∧numD 1 99 r=true∧stepsD t=true:=by
  cases d with
  | tuple ds =>
    match ds,h with
    | [n,r,t],h =>
      have h:(nameD n && (numD 1 99 r && stepsD t))=true:=h
      simp only[Bool.and_eq_true] at h
      exact⟨_,_,_,rfl,h⟩
  | _=>cases h
theorem name_inv {d:PyData} (h:nameD d=true):∃ x,d=.str x:=by cases d <;> first | exact⟨_,rfl⟩ | cases h
theorem num_inv {lo hi:Int} {d:PyData} (h:numD lo hi d=true):∃ x,d=.int x∧lo≤x∧x≤hi:=by
  cases d with
  | int i =>
    have h:(decide (lo≤i) && decide (i≤hi))=true:=h
    rw[Bool.and_eq_true,decide_eq_true_eq,decide_eq_true_eq] at h
    exact⟨i,rfl,h⟩
  | _=>cases h
theorem line_key {d:PyData} (h:lineD d=true):(keyQ 0 d).isSome=true∧(keyQ 1 d).isSome=true:=by
  obtain⟨n,r,u,g,t,rfl,h1,h2,_⟩:=line_inv h
  obtain⟨x,rfl⟩:=name_inv h1
  obtain⟨y,rfl,_⟩:=num_inv h2
  exact⟨rfl,rfl⟩
theorem bottom_key {d:PyData} (h:bottomD d=true):(keyQ 0 d).isSome=true:=by
  obtain⟨n,t,rfl,h1,_⟩:=bottom_inv h
  obtain⟨x,rfl⟩:=name_inv h1
  rfl
theorem thread_key {d:PyData} (h:threadD d=true):(keyQ 0 d).isSome=true∧(keyQ 1 d).isSome=true:=by
  obtain⟨n,r,t,rfl,h1,h2,_⟩:=thread_inv h
  obtain⟨x,rfl⟩:=name_inv h1
  obtain⟨y,rfl,_⟩:=num_inv h2
  exact⟨rfl,rfl⟩
def onRows (p:List PyData→Bool) (d:PyData):Bool:=match kidsQ d with
  | some ds=>p ds
  | none=>false
theorem fit_kids {d:PyData} {ds:List PyData} (h:fitD d=true) (e:kidsQ d=some ds):ds.length < 1000∧fitDs ds=true:=by
  cases d with
  | list es=>cases e;exact fit_lst h
  | tuple es=>cases e;exact fit_tup h
  | _=>cases e
def spLinesD (K:W.Frag):Sp:=fun vs H Q _=>∃ v d,vs=[v]∧Dq K H v d∧fitD d=true∧QB H Q (onRows linesD d)
theorem rd_Zf:∀ vs H Q E,spLinesD K vs H Q E→t_Zf Pg w K ad (spLineD K) (spManyD K) (spUnlikeD K) { nx:=fun _ H'=>Q .non H',rt:=Q } (start ns_Zf vs) H:=by
  rintro vs H Q E ⟨v,d,rfl,h,fit,q⟩
  refine⟨v,rfl,v,d,1,5,rfl,h,fun H1 s1=>⟨_,rfl,?_⟩⟩
  unfold onRows at q
  unfold manyD
  cases e:kidsQ d with
  | none =>
    rw[e] at q
    exact iteT (q _ s1)
  | some ds =>
    rw[e] at q
    have fz:=fit_kids fit e
    have q:QB H Q (decide ((1:Int)≤ds.length) && (decide ((ds.length:Int)≤5) && (ds.all lineD && (unlikeD 0 ds && unlikeD 1 ds)))):=q
    rw[← Bool.and_assoc] at q
    refine ifO q (fun q=>q _ s1) fun q=>?_
    refine all_rowsD (f:=lineD) (h.up s1) e fz.1 rfl (show 1 < 2 by decide) (fun r hr x H2 Q' hd q'=>⟨x,r,rfl,hd,fitDs_mem fz.2 r hr,q'⟩) fun H2 s2=>⟨_,rfl,?_⟩
    cases al:ds.all lineD with
    | false =>
      rw[al,Bool.false_and] at q
      exact iteT (q _ (s1.trans s2))
    | true =>
    rw[al,Bool.true_and] at q
    refine iteF ⟨v,rfl,v,d,ds,0,rfl,(h.up s1).up s2,e,fz.1,fun x hx=>(line_key (List.all_eq_true.mp al x hx)).1,fun H3 s3=>⟨_,rfl,ifA (q.to ((s1.trans s2).trans s3)) (fun q=>q.at) fun q=>?_⟩⟩
    exact⟨v,rfl,v,d,ds,1,rfl,((h.up s1).up s2).up s3,e,fz.1,fun x hx=>(line_key (List.all_eq_true.mp al x hx)).2,q⟩
theorem f_Zf (T:Txt Pg w K mg base ad):FnOk Pg w K mg base CX0 (10+1) ad.a_Zf ad.d_Zf ps_Zf (spLinesD K) :=
  ok_Zf T (f_Zq T) (f_Zh T) (f_Z5 T) (fun vs H Q E ⟨v,d,e,_⟩=>by rw[e];rfl) rd_Zf
def spBottomsD (K:W.Frag):Sp:=fun vs H Q _=>∃ v d,vs=[v]∧Dq K H v d∧fitD d=true∧QB H Q (onRows bottomsD d)
theorem rd_Z7:∀ vs H Q E,spBottomsD K vs H Q E→t_Z7 Pg w K ad (spBottomD K) (spManyD K) (spUnlikeD K) { nx:=fun _ H'=>Q .non H',rt:=Q } (start ns_Z7 vs) H:=by
  rintro vs H Q E ⟨v,d,rfl,h,fit,q⟩
  refine⟨v,rfl,v,d,0,4,rfl,h,fun H1 s1=>⟨_,rfl,?_⟩⟩
  unfold onRows at q
  unfold manyD
  cases e:kidsQ d with
  | none =>
    rw[e] at q
    exact iteT (q _ s1)
  | some ds =>
    rw[e] at q
    have fz:=fit_kids fit e
    have q:QB H Q (decide ((ds.length:Int)≤4) && (ds.all bottomD && unlikeD 0 ds)):=q
    show if (!(decide ((0:Int)≤ds.length) && decide ((ds.length:Int)≤4)))=true then _ else _
    rw[decide_eq_true (by omega:(0:Int)≤ds.length),Bool.true_and]
    refine ifO q (fun q=>q _ s1) fun q=>?_
    refine all_rowsD (f:=bottomD) (h.up s1) e fz.1 rfl (show 1 < 2 by decide) (fun r hr x H2 Q' hd q'=>⟨x,r,rfl,hd,fitDs_mem fz.2 r hr,q'⟩) fun H2 s2=>⟨_,rfl,?_⟩
    cases al:ds.all bottomD with
    | false =>
      rw[al,Bool.false_and] at q
      exact iteT (q _ (s1.trans s2))
    | true =>
    rw[al,Bool.true_and] at q
    exact iteF ⟨v,rfl,v,d,ds,0,rfl,(h.up s1).up s2,e,fz.1,fun x hx=>bottom_key (List.all_eq_true.mp al x hx),q.to (s1.trans s2)⟩
theorem f_Z7 (T:Txt Pg w K mg base ad):FnOk Pg w K mg base CX0 (10+1) ad.a_Z7 ad.d_Z7 ps_Z7 (spBottomsD K) :=
  ok_Z7 T (f_Zk T) (f_Zh T) (f_Z5 T) (fun vs H Q E ⟨v,d,e,_⟩=>by rw[e];rfl) rd_Z7
def spThreadsD (K:W.Frag):Sp:=fun vs H Q _=>∃ v d,vs=[v]∧Dq K H v d∧fitD d=true∧QB H Q (onRows threadsD d)
theorem rd_Z8:∀ vs H Q E,spThreadsD K vs H Q E→t_Z8 Pg w K ad (spThreadD K) (spManyD K) (spUnlikeD K) { nx:=fun _ H'=>Q .non H',rt:=Q } (start ns_Z8 vs) H:=by
  rintro vs H Q E ⟨v,d,rfl,h,fit,q⟩
  refine⟨v,rfl,v,d,0,4,rfl,h,fun H1 s1=>⟨_,rfl,?_⟩⟩
  unfold onRows at q
  unfold manyD
  cases e:kidsQ d with
  | none =>
    rw[e] at q
    exact iteT (q _ s1)
  | some ds =>
    rw[e] at q
    have fz:=fit_kids fit e
    have q:QB H Q (decide ((ds.length:Int)≤4) && (ds.all threadD && (unlikeD 0 ds && unlikeD 1 ds))):=q
    show if (!(decide ((0:Int)≤ds.length) && decide ((ds.length:Int)≤4)))=true then _ else _
    rw[decide_eq_true (by omega:(0:Int)≤ds.length),Bool.true_and]
    refine ifO q (fun q=>q _ s1) fun q=>?_
    refine all_rowsD (f:=threadD) (h.up s1) e fz.1 rfl (show 1 < 2 by decide) (fun r hr x H2 Q' hd q'=>⟨x,r,rfl,hd,fitDs_mem fz.2 r hr,q'⟩) fun H2 s2=>⟨_,rfl,?_⟩
    cases al:ds.all threadD with
    | false =>
      rw[al,Bool.false_and] at q
      exact iteT (q _ (s1.trans s2))
    | true =>
    rw[al,Bool.true_and] at q
    refine iteF ⟨v,rfl,v,d,ds,0,rfl,(h.up s1).up s2,e,fz.1,fun x hx=>(thread_key (List.all_eq_true.mp al x hx)).1,fun H3 s3=>⟨_,rfl,ifA (q.to ((s1.trans s2).trans s3)) (fun q=>q.at) fun q=>?_⟩⟩
    exact⟨v,rfl,v,d,ds,1,rfl,((h.up s1).up s2).up s3,e,fz.1,fun x hx=>(thread_key (List.all_eq_true.mp al x hx)).2,q⟩
theorem f_Z8 (T:Txt Pg w K mg base ad):FnOk Pg w K mg base CX0 (10+1) ad.a_Z8 ad.d_Z8 ps_Z8 (spThreadsD K) :=
  ok_Z8 T (f_Zi T) (f_Zh T) (f_Z5 T) (fun vs H Q E ⟨v,d,e,_⟩=>by rw[e];rfl) rd_Z8
end
end
section
def stepW:PyData→Option (Str×Str)
  | .tuple [.str x,.str y]=>some (x,y)
  | _=>none
def spokeQ (w:Str) (d:PyData):Option Str:=match stepW d with
  | some (x,y)=>if V.str x=V.str w then some y else none
  | none=>none
def spoke (w:Str) (ss:List PyData):List Str:=ss.filterMap (spokeQ w)
def nameQ:PyData→Str
  | .tuple (.str x :: _)=>x
  | _=>""
def toB (w:Str) (rows ss:List PyData):Bool:=(spoke w ss).all fun x=>inV (.str x) ((rows.map nameQ).map V.str)
def toBs (l b t:List PyData):List Bool:=[toB "answer" l ((l++b++t).flatMap lastQ),toB "later" b ((l++b++t).flatMap lastQ),toB "wake" t ((l++b++t).flatMap lastQ)]
def thereD (l b t:List PyData):Bool:=(toBs l b t).all id
def Naming (w:Str):Prop:=w="answer"∨w="later"∨w="wake"
theorem stepR_str {x:Str} {r:List PyData} (h:stepR (.str x) r=true) (w:Str) (nw:Naming w) (e:V.str x=V.str w):∃ y,r=[.str y]:=by
  cases e
  match r,h with
  | [],h=>rcases nw with rfl | rfl | rfl <;> exact absurd h (by decide +kernel)
  | [d],h =>
    have h:(if V.str x=V.str "run" then numD 1 9 d else inV (.str x) [.str "answer",.str "later",.str "wake"] && nameD d)=true:=h
    rw[if_neg (by rcases nw with rfl | rfl | rfl <;> decide +kernel),Bool.and_eq_true] at h
    obtain⟨y,rfl⟩:=name_inv h.2
    exact⟨y,rfl⟩
  | _ :: _ :: _,h=>cases h
def RowQ (d:PyData):Prop:=∃ x p s,d=.tuple (.str x :: (p++[.list s]))∧s.all stepD=true∧s.length≤12
theorem steps_inv {d:PyData} (h:stepsD d=true):∃ s,d=.list s∧s.all stepD=true∧s.length≤12:=by
  cases d with
  | list s =>
    have h:(decide ((1:Int)≤s.length) && (decide ((s.length:Int)≤12) && (s.all stepD && (s.any runD && balB 0 s))))=true:=h
    simp only[Bool.and_eq_true,decide_eq_true_eq] at h
    exact⟨s,rfl,h.2.2.1,by omega⟩
  | _=>cases h
theorem line_row {d:PyData} (h:lineD d=true):RowQ d:=by
  obtain⟨n,r,u,g,t,rfl,h1,_,_,_,h5⟩:=line_inv h
  obtain⟨x,rfl⟩:=name_inv h1
  obtain⟨s,rfl,h6⟩:=steps_inv h5
  exact⟨x,[r,u,g],s,rfl,h6⟩
theorem bottom_row {d:PyData} (h:bottomD d=true):RowQ d:=by
  obtain⟨n,t,rfl,h1,h5⟩:=bottom_inv h
  obtain⟨x,rfl⟩:=name_inv h1
  obtain⟨s,rfl,h6⟩:=steps_inv h5
  exact⟨x,[],s,rfl,h6⟩
theorem thread_row {d:PyData} (h:threadD d=true):RowQ d:=by
  obtain⟨n,r,t,rfl,h1,_,h5⟩:=thread_inv h
  obtain⟨x,rfl⟩:=name_inv h1
  obtain⟨s,rfl,h6⟩:=steps_inv h5
  exact⟨x,[r],s,rfl,h6⟩
theorem last_row {x:Str} {p:List PyData} {s:List PyData}:lastQ (.tuple (.str x :: (p++[.list s])))=s:=by
  show (match (PyData.str x :: (p++[PyData.list s])).getLast? with | some (.list s)=>s | _=>[])=s
  have e:(PyData.str x :: (p++[PyData.list s])).getLast?=some (.list s):=by
    rw[← List.cons_append,List.getLast?_append]
    rfl
  rw[e]
theorem flat_le:∀ (l:List PyData),(∀ d∈l,RowQ d)→(l.flatMap lastQ).length≤l.length * 12
  | [],_=>Nat.zero_le _
  | a :: l,h=>by
    obtain⟨x,p,s,rfl,h1,h2⟩:=h a (.head _)
    rw[List.flatMap_cons,last_row,List.length_append,List.length_cons,Nat.add_mul]
    have:=flat_le l fun d hd=>h d (.tail _ hd)
    omega
theorem flat_step {l:List PyData} (h:∀ d∈l,RowQ d):(l.flatMap lastQ).all stepD=true:=by
  rw[List.all_eq_true]
  intro y hy
  obtain⟨d,hd,hy⟩:=List.mem_flatMap.mp hy
  obtain⟨x,p,s,rfl,h1,h2⟩:=h d hd
  rw[last_row] at hy
  exact List.all_eq_true.mp h1 y hy
theorem flat_strs:∀ l:List Str,(l.map V.str).all flatV=true
  | []=>rfl
  | _ :: l=>by rw[List.map_cons,List.all_cons,flat_strs l];rfl
section
variable {Pg:Program} {w:World} {K:W.Frag} {mg:Str→Option Value} {base:Heap} {ad:Ad}
def spSpokenD (K:W.Frag):Sp:=fun vs H Q _=>∃ v ds,∃ x:Str,vs=[v,.str x]∧Naming x∧Dq K H v (.list ds)∧ds.all stepD=true∧ds.length < 10000∧∀ D H',Same H H'→H' D=some (.lst ((spoke x ds).map V.str))→Q (.ref D) H'
theorem rd_Zj:∀ vs H Q E,spSpokenD K vs H Q E→t_Zj Pg w K ad { nx:=fun _ H'=>Q .non H',rt:=Q } (start ns_Zj vs) H:=by
  rintro vs H Q E ⟨v,ds,x,rfl,nx,h,al,hz,q⟩
  have z:=szL
  cases h with
  | @lst a xs _ ha t =>
  have lx:=t.length
  dsimp only [t_Zj,tNext,tSeq,tRet]
  refine rd_filt (fun n=>((ds.take n).filterMap (spokeQ x)).map V.str) rfl (wk_list (.of ha)) (fun R r=>⟨.ref a,rfl,a,rfl,⟨xs,.of ha⟩,r⟩) (by omega) (fun n=>?_) (fun n y hx H2 s2=>?_) (fun D H2 s2 hD h2=>?_)
  · rw[List.length_map]
    have:=List.length_filterMap_le (spokeQ x) (ds.take n)
    rw[List.length_take] at this
    omega
  · obtain⟨d,hy,hd⟩:=t.get hx
    have sd:=all_at al hy
    obtain⟨c,z,vr,r,rfl,rfl,hc,tr⟩:=step_tup sd (hd.up s2)
    have sd:stepR (.str z) r=true:=sd
    refine⟨decide (V.str z=V.str x),fun Qt qt=>⟨.ref c,rfl,c,_,0,.str z,rfl,rfl,Tp.sq hc,atI_nat (j:=0) rfl,_,rfl,rfl,_,rfl,qt⟩,fun hb=>?_,fun hb=>?_⟩
    · show ((ds.take (n+1)).filterMap (spokeQ x)).map V.str=_
      have e:spokeQ x (.tuple (.str z :: r))=none:=by
        rw[decide_eq_false_iff_not] at hb
        unfold spokeQ
        match r with
        | []=>rfl
        | [.str y]=>exact if_neg hb
        | [.none]=>rfl
        | [.bool _]=>rfl
        | [.int _]=>rfl
        | [.list _]=>rfl
        | [.tuple _]=>rfl
        | [.dict _]=>rfl
        | d :: _ :: _=>cases d <;> rfl
      rw[List.take_add_one,hy]
      simp[e]
    · rw[decide_eq_true_eq] at hb
      obtain⟨y,rfl⟩:=stepR_str sd x nx hb
      have e:spokeQ x (.tuple [.str z,.str y])=some y:=if_pos hb
      refine⟨.str y,?_,fun Q' q'=>?_⟩
      · show ((ds.take (n+1)).filterMap (spokeQ x)).map V.str=_
        rw[List.take_add_one,hy]
        simp[e]
      · cases tr with
        | cons h1 tr =>
          cases h1;cases tr
          exact⟨.ref c,rfl,c,_,1,.str y,rfl,rfl,Tp.sq hc,atI_nat (j:=1) rfl,q' _ (.refl _)⟩
  · refine q D H2 s2 ?_
    rw[h2,lx,List.take_length]
    rfl
theorem f_Zj (T:Txt Pg w K mg base ad):FnOk Pg w K mg base CX0 (2+1) ad.a_Zj ad.d_Zj ps_Zj (spSpokenD K) :=
  ok_Zj T (fun vs H Q E ⟨v,s,k,e,_⟩=>by rw[e];rfl) rd_Zj
theorem names_rdD {H:Hp} {Q:VK} {v:V} {d:PyData} {rs:List PyData} {i j:Nat} {σ:L2.St} (h:Dq K H v d) (s:kidsQ d=some rs) (rt:∀ r∈rs,RowQ r) (hz:rs.length < 1000) (hσ:σ[j]?=some (some v)) (hi:i < σ.length)
    (q:∀ D H',Same H H'→H D=none→H' D=some (.lst ((rs.map nameQ).map V.str))→Q (.ref D) H'):tLc (iSq K (tVar j)) (gName i) tYes (tOp (rIxT K) (tVar i) (tC (V.int 0))) [i] σ H Q:=by
  have z:=szL
  obtain⟨a,xs,J,rfl,t,hs,ty,wk,wi⟩:=kids_cases h s
  have lx:=t.length
  refine rd_map ((rs.map nameQ).map V.str) wk (fun R r=>wi _ _ _ (fun Q' q'=>⟨_,hσ,q'⟩) r) (by rw[List.length_map,List.length_map];omega) (by omega) (fun k y b hy hb H2 Q' s2 q'=>?_) q
  obtain⟨r,hr,hd⟩:=t.get hy
  rw[List.getElem?_map,List.getElem?_map,hr] at hb
  cases hb
  obtain⟨x,p,s,rfl,_⟩:=rt r (List.mem_of_getElem? hr)
  cases hd with
  | tup hc tc =>
    cases tc with
    | cons h0 tc =>
      cases h0
      refine⟨_,?_,_,_,0,_,rfl,rfl,Tp.sq (Tp.mono s2 hc),atI_nat (j:=0) rfl,q' _ (.refl _)⟩
      rw[List.getElem?_set_self]
      show i < (List.set σ i none).length
      rw[List.length_set]
      exact hi
def spThereD (K:W.Frag):Sp:=fun vs H Q _=>∃ v1 v2 v3 d1 d2 d3,∃ l1 l2 l3:List PyData,vs=[v1,v2,v3]∧Dq K H v1 d1∧Dq K H v2 d2∧Dq K H v3 d3∧kidsQ d1=some l1∧kidsQ d2=some l2∧kidsQ d3=some l3 ∧
  (∀ d∈l1++l2++l3,RowQ d)∧l1.length≤5∧l2.length≤4∧l3.length≤4∧QB H Q (thereD l1 l2 l3)
theorem rd_Ze:∀ vs H Q E,spThereD K vs H Q E→t_Ze Pg w K ad (spSpokenD K) { nx:=fun _ H'=>Q .non H',rt:=Q } (start ns_Ze vs) H:=by
  rintro vs H Q E ⟨v1,v2,v3,d1,d2,d3,l1,l2,l3,rfl,h1,h2,h3,q1,q2,q3,rt,z1,z2,z3,q⟩
  have z:=szL
  obtain⟨a1,x1,J1,rfl,u1,w1,_,_,_⟩:=kids_cases h1 q1
  obtain⟨a2,x2,J2,rfl,u2,w2,_,_,_⟩:=kids_cases h2 q2
  obtain⟨a3,x3,J3,rfl,u3,w3,_,_,_⟩:=kids_cases h3 q3
  have u:DqA K H (x1++(x2++(x3++[]))) (l1++l2++l3):=by
    rw[List.append_nil,← List.append_assoc]
    exact (u1.app u2).app u3
  have lu:=u.length
  have ll:(l1++l2++l3).length=l1.length+l2.length+l3.length:=by rw[List.length_append,List.length_append]
  rw[ll] at lu
  refine⟨Nat.zero_le _,fun S hS=>?_⟩
  have e1:=same_new (G:=H) (o:=.lst []) hS
  refine⟨_,rfl,a1,x1,rfl,w1.imp (same_sqL e1) (same_sqT e1),_,rfl,a2,x2,rfl,w2.imp (same_sqL e1) (same_sqT e1),_,rfl,a3,x3,rfl,w3.imp (same_sqL e1) (same_sqT e1),?_⟩
  refine⟨by show (x1++(x2++(x3++[]))).length≤_;omega,fun L hL=>⟨L,rfl,⟨_,.of upd_same⟩,?_⟩⟩
  have nLS:L≠S:=fun z=>by subst z;rw[upd_same] at hL;cases hL
  have hL0:H L=none:=by rw[upd_ne nLS] at hL;exact hL
  refine for_list (xs:=x1++(x2++(x3++[]))) (fun i σ H'=>∃ t vs,σ=[some (.ref a1),some (.ref a2),some (.ref a3),some (.ref S),t,none,none,none,none]∧Same H H'∧H' S=some (.lst vs)∧H' L=some (.lst (x1++(x2++(x3++[]))))∧DqA K H vs (((l1++l2++l3).take i).flatMap lastQ))
    ⟨none,[],rfl,e1.trans (same_new hL),by rw[upd_ne (Ne.symm nLS)];exact upd_same,upd_same,.nil⟩ (fun i σ H' _ ⟨_,_,_,_,_,h,_⟩=>.of h) ?_ ?_
  · rintro i x σ H' hx ⟨t,vs,rfl,sH,hS',hL',dv⟩
    obtain⟨r,hr,hd⟩:=u.get hx
    obtain⟨nm,p,s,rfl,hs1,hs2⟩:=rt r (List.mem_of_getElem? hr)
    have lvs:=dv.length
    have:=flat_le ((l1++l2++l3).take i) fun s hs=>rt s (List.mem_of_mem_take hs)
    rw[List.length_take] at this
    cases hd with
    | @tup c cs _ hc tc =>
      obtain⟨cp,cl,rfl,hcl⟩:∃ cp cl,cs=cp++[cl]∧Dq K H cl (.list s):=by
        have hl:=tc.length
        rw[List.length_cons,List.length_append,List.length_singleton] at hl
        obtain⟨y,hy,hyd⟩:=tc.at (i:=p.length+1) (d:=.list s) (by simp)
        refine⟨cs.take (p.length+1),y,?_,hyd⟩
        have hlt:p.length+1 < cs.length:=by omega
        rw[List.getElem?_eq_getElem hlt] at hy
        have e:=(List.take_append_drop (p.length+1) cs).symm
        rw[List.drop_eq_getElem_cons hlt,Option.some.inj hy,List.drop_of_length_le (by omega)] at e
        exact e
      cases hcl with
      | @lst b ys _ hb ty =>
      have ly:=ty.length
      have nbS:b≠S:=fun z=>by subst z;rw[hS] at hb;cases hb
      refine⟨.ref S,rfl,.inl ⟨rfl,vs,.of hS'⟩,.ref c,rfl,1,rfl,c,_,-1,.ref b,rfl,rfl,Tp.sq (Tp.mono sH hc),atI_last _ _,S,b,vs,ys,rfl,rfl,hS',sH _ _ hb,by omega,?_⟩
      refine⟨_,vs++ys,rfl,fun b' o hb'=>?_,upd_same,by rw[upd_ne nLS];exact hL',?_⟩
      · rw[upd_ne (fun z=>by subst z;rw[hS] at hb';cases hb')]
        exact sH _ _ hb'
      · rw[List.take_add_one,hr,List.flatMap_append]
        simp only[Option.toList_some,List.flatMap_cons,List.flatMap_nil,List.append_nil,last_row]
        exact dv.app ty
  · rintro σ H1 ⟨t,vs,rfl,sH,hS',hL',dv⟩
    rw[List.take_of_length_le (by omega)] at dv
    have lvs:=dv.length
    have lfl:=flat_le (l1++l2++l3) rt
    have alS:=flat_step rt
    have dS:∀ H',Same H1 H'→Dq K H' (.ref S) (.list ((l1++l2++l3).flatMap lastQ)):=fun H' s'=>.lst (s' _ _ hS') (dv.up (sH.trans s'))
    refine⟨_,rfl,(show 2≤sizeLine by decide),fun p1 hp1=>⟨_,rfl,(show 2≤sizeLine by decide),fun p2 hp2=>⟨_,rfl,(show 2≤sizeLine by decide),fun p3 hp3=>⟨(show 3≤sizeLine by decide),fun P hP=>⟨P,rfl,⟨_,.of upd_same⟩,?_⟩⟩⟩⟩⟩
    have f1:=same_new (G:=H1) (o:=.tup [.str "answer",.ref a1]) hp1
    have f2:=same_new (o:=.tup [.str "later",.ref a2]) hp2
    have f3:=same_new (o:=.tup [.str "wake",.ref a3]) hp3
    have f4:=same_new (o:=.tup [.ref p1,.ref p2,.ref p3]) hP
    have m1:∀ d∈l1,RowQ d:=fun d hd=>rt d (List.mem_append_left _ (List.mem_append_left _ hd))
    have m2:∀ d∈l2,RowQ d:=fun d hd=>rt d (List.mem_append_left _ (List.mem_append_right _ hd))
    have m3:∀ d∈l3,RowQ d:=fun d hd=>rt d (List.mem_append_right _ hd)
    have hp:∀ (i:Nat) (hi:i < 3),∃ c v d rs x,[V.ref p1,.ref p2,.ref p3][i]?=some (.ref c)∧(L2.upd (L2.upd (L2.upd (L2.upd H1 p1 (.tup [.str "answer",.ref a1])) p2 (.tup [.str "later",.ref a2])) p3 (.tup [.str "wake",.ref a3])) P (.tup [.ref p1,.ref p2,.ref p3])) c=some (.tup [.str x,v]) ∧
        Naming x∧Dq K H v d∧kidsQ d=some rs∧(∀ r∈rs,RowQ r)∧rs.length < 1000∧(toBs l1 l2 l3)[i]?=some (toB x rs ((l1++l2++l3).flatMap lastQ)):=fun i hi=>by
      match i,hi with
      | 0,_=>exact⟨p1,_,_,_,_,rfl,f4 _ _ (f3 _ _ (f2 _ _ upd_same)),.inl rfl,h1,q1,m1,by omega,rfl⟩
      | 1,_=>exact⟨p2,_,_,_,_,rfl,f4 _ _ (f3 _ _ upd_same),.inr (.inl rfl),h2,q2,m2,by omega,rfl⟩
      | 2,_=>exact⟨p3,_,_,_,_,rfl,f4 _ _ upd_same,.inr (.inr rfl),h3,q3,m3,by omega,rfl⟩
    have sA:=(f1.trans f2).trans (f3.trans f4)
    refine for_tup (xs:=[.ref p1,.ref p2,.ref p3]) (fun i σ H'=>∃ y4 y5 y6 y7 y8,σ=[some (.ref a1),some (.ref a2),some (.ref a3),some (.ref S),y4,y5,y6,y7,y8]∧Same (L2.upd (L2.upd (L2.upd (L2.upd H1 p1 (.tup [.str "answer",.ref a1])) p2 (.tup [.str "later",.ref a2])) p3 (.tup [.str "wake",.ref a3])) P (.tup [.ref p1,.ref p2,.ref p3])) H'∧((toBs l1 l2 l3).take i).all id=true)
      ⟨_,_,_,_,_,rfl,.refl _,rfl⟩ (fun i σ H' _ ⟨_,_,_,_,_,_,s',_⟩=>.of (s' _ _ upd_same)) ?_ ?_
    · rintro i x σ H2 hx ⟨y4,y5,y6,y7,y8,rfl,s',tk⟩
      have hi:i < 3:=(List.getElem?_eq_some_iff.mp hx).1
      obtain⟨c,v,d,rs,wd,hc,hc2,nw,hv,hq,rt',hz',eb⟩:=hp i hi
      rw[hx] at hc
      cases hc
      have sH2:=sH.trans (sA.trans s')
      refine⟨c,_,rfl,.of (s' _ _ hc2),rfl,_,_,rfl,_,_,rfl,rfl,?_⟩
      dsimp only [tSeq,tAsg]
      refine names_rdD (hv.up sH2) hq rt' hz' rfl (show 4 < 9 by decide) fun N H3 e3 hN0 hN=>?_
      dsimp only [gName,tSeq,tIfS,tNot,L2.tB,tCB,tCons]
      have z3:=(s'.trans e3)
      have dS3:=dS H3 (sA.trans z3)
      have lff:=List.length_filterMap_le (spokeQ wd) ((l1++l2++l3).flatMap lastQ)
      refine rd_mapC (((spoke wd ((l1++l2++l3).flatMap lastQ)).map fun x=>inV (.str x) ((rs.map nameQ).map V.str)).map V.bl) (fun J xs H4=>∃ D',J=Itl K D'∧xs=(spoke wd ((l1++l2++l3).flatMap lastQ)).map V.str∧Same H3 H4∧H4 D'=some (.lst xs))
        (fun R r=>⟨.ref S,rfl,.str wd,rfl,.ref S,_,wd,rfl,nw,dS3,alS,by omega,fun D' H4 s4 h4=>⟨D',rfl,⟨_,.of h4⟩,r _ _ _ ⟨D',rfl,rfl,s4,h4⟩⟩⟩) ?_ (fun D' H4 s4 hD' h4=>?_)
      · rintro J xs H4 ⟨D',rfl,rfl,s4,h4⟩
        refine⟨s4,wk_list (.of h4),by rw[List.length_map,List.length_map,List.length_map],by rw[List.length_map];show (List.filterMap _ _).length < _;omega,fun k x y hx hy H5 Q' s5 q'=>?_⟩
        rw[List.getElem?_map] at hx
        rw[List.getElem?_map,List.getElem?_map] at hy
        cases e:(spoke wd ((l1++l2++l3).flatMap lastQ))[k]? with
        | none=>rw[e] at hx;cases hx
        | some nx =>
          rw[e] at hx hy
          cases hx
          cases hy
          exact⟨.str nx,rfl,.ref N,rfl,N,_,rfl,.inl (.of (s5 _ _ (s4 _ _ hN))),rfl,flat_strs _,q' _ (.refl _)⟩
      · refine⟨D',_,rfl,.of h4,_,rfl,?_⟩
        rw[map_id_all]
        show if (!toB wd rs ((l1++l2++l3).flatMap lastQ))=true then _ else _
        cases eb2:toB wd rs ((l1++l2++l3).flatMap lastQ) with
        | false =>
          refine iteT ?_
          have e:thereD l1 l2 l3=false:=by
            cases e:thereD l1 l2 l3 with
            | false=>rfl
            | true =>
              have:=List.all_eq_true.mp e _ (List.mem_of_getElem? eb)
              rw[eb2] at this
              cases this
          rw[e] at q
          exact q _ (sH2.trans (e3.trans s4))
        | true =>
          refine iteF ⟨_,_,_,_,_,rfl,z3.trans s4,?_⟩
          rw[List.take_add_one,eb,eb2,List.all_append,tk]
          rfl
    · rintro σ H2 ⟨y4,y5,y6,y7,y8,rfl,s',tk⟩
      have e:thereD l1 l2 l3=true:=tk
      rw[e] at q
      exact q _ (sH.trans (sA.trans s'))
theorem f_Ze (T:Txt Pg w K mg base ad):FnOk Pg w K mg base CX0 (4+1) ad.a_Ze ad.d_Ze ps_Ze (spThereD K) :=
  ok_Ze T (f_Zj T) (fun vs H Q E ⟨_,_,_,_,_,_,_,_,_,e,_⟩=>by rw[e];rfl) rd_Ze
end
end
end
end G
namespace G
noncomputable section
open PySem PySem.Spec L2 Ev TL
section
abbrev mkS (l:List Nat):Str:=⟨l.toArray⟩
def fsplit (S:List Nat) (x:Str):List Str:=(spl S 0 [] (tl x)).map mkS
theorem split_f {y:Str} {S:List Nat} (e:tl y=S) (hS:S≠[]) (hk:y.cps.all (· < 256)=true) (x:Str):Txt.split x y=fsplit S x:=by
  refine map_tl_inj ?_
  subst e
  rw[split_spl x y hS (kind_ok hk)]
  unfold fsplit
  rw[List.map_map]
  have : (tl ∘ mkS)=id:=by funext p;rfl
  rw[this,List.map_id]
theorem spl_pos (S:List Nat):∀ (l:List Nat) (k:Nat) (acc:List Nat),1≤(spl S k acc l).length
  | [],k,acc=>by rw[spl_nil];exact Nat.le_refl _
  | c :: r,0,acc=>by
    show 1≤(if pre S (c :: r)=true then acc :: spl S (S.length-1) [] r else spl S 0 (acc++[c]) r).length
    split
    · rw[List.length_cons];omega
    · exact spl_pos S r 0 _
  | c :: r,k+1,acc=>spl_pos S r k acc
theorem spl_len (S:List Nat):∀ (l:List Nat) (k:Nat) (acc:List Nat),(spl S k acc l).length≤l.length+1
  | [],k,acc=>by rw[spl_nil];exact Nat.le_refl _
  | c :: r,0,acc=>by
    show (if pre S (c :: r)=true then acc :: spl S (S.length-1) [] r else spl S 0 (acc++[c]) r).length≤_
    split
    · rw[List.length_cons,List.length_cons];have:=spl_len S r (S.length-1) [];omega
    · rw[List.length_cons];have:=spl_len S r 0 (acc++[c]);omega
  | c :: r,k+1,acc=>by
    show (spl S k acc r).length≤_
    rw[List.length_cons];have:=spl_len S r k acc;omega
theorem spl_mem (S:List Nat):∀ (l:List Nat) (k:Nat) (acc p:List Nat),p∈spl S k acc l→p.length≤acc.length+l.length
  | [],k,acc,p,h=>by
    rw[spl_nil,List.mem_singleton] at h
    subst h;exact Nat.le_add_right _ _
  | c :: r,0,acc,p,h=>by
    have h:p∈(if pre S (c :: r)=true then acc :: spl S (S.length-1) [] r else spl S 0 (acc++[c]) r):=h
    rw[List.length_cons]
    split at h
    · rcases List.mem_cons.mp h with rfl | h
      · omega
      · have:=spl_mem S r _ _ p h;rw[List.length_nil] at this;omega
    · have:=spl_mem S r _ _ p h;rw[List.length_append,List.length_singleton] at this;omega
  | c :: r,k+1,acc,p,h=>by
    have:=spl_mem S r k acc p h
    rw[List.length_cons];omega
theorem par_len (S:List Nat):∀ (l acc a b:List Nat),par S acc l=some (a,b)→a.length≤acc.length+l.length∧b.length≤l.length
  | [],acc,a,b,h=>by cases h
  | c :: r,acc,a,b,h=>by
    have h:(if pre S (c :: r)=true then some (acc,(c :: r).drop S.length) else par S (acc++[c]) r)=some (a,b):=h
    split at h
    · cases h
      exact⟨Nat.le_add_right _ _,by rw[List.length_drop];omega⟩
    · have:=par_len S r _ a b h
      rw[List.length_append,List.length_singleton] at this
      rw[List.length_cons]
      omega
theorem fsplit_pos (S:List Nat) (x:Str):∃ w ws,fsplit S x=w :: ws:=by
  have:=spl_pos S (tl x) 0 []
  unfold fsplit
  cases e:spl S 0 [] (tl x) with
  | nil=>rw[e] at this;exact absurd this (by decide)
  | cons a b=>exact⟨_,_,rfl⟩
theorem fsplit_len (S:List Nat) (x:Str):(fsplit S x).length≤x.length+1:=by
  unfold fsplit
  rw[List.length_map,len_tl]
  exact spl_len S _ _ _
theorem fsplit_mem {S:List Nat} {x p:Str} (h:p∈fsplit S x):p.length≤x.length:=by
  obtain⟨l,hl,rfl⟩:=List.mem_map.mp h
  have:=spl_mem S _ _ _ _ hl
  rw[len_tl,len_tl x]
  rw[List.length_nil] at this
  show l.length≤_
  omega
abbrev digs:List Nat:=("0123456789":Str).cps.toList
def valL:List Nat→Nat
  | [c]=>c-48
  | [c,d]=>(c-48) * 10+(d-48)
  | _=>0
def numQ (x:Str):PyData :=
  if (decide ((1:Int)≤x.length) && decide ((x.length:Int)≤2))=true then
    if ((tl x).headD 48 == 48)=true then .none
    else if ((tl x).all fun c=>decide (c∈digs))=true then .int (valL (tl x)) else .none
  else .none
theorem digs_is {c:Nat} (h:c∈digs):48≤c∧c≤57:=by
  have e:digs=[48,49,50,51,52,53,54,55,56,57]:=by decide +kernel
  rw[e] at h
  simp at h
  omega
theorem val_one:∀ c:Nat,c < 58→49≤c→numL (c-48)=[c]:=by decide +kernel
theorem val_two:∀ c:Nat,c < 58→49≤c→∀ d:Nat,d < 58→48≤d→numL ((c-48) * 10+(d-48))=[c,d]:=by decide +kernel
theorem num_val {x:Str} (h1:1≤x.length) (h2:x.length≤2) (h3:¬ (tl x).headD 48=48) (h4:((tl x).all fun c=>decide (c∈digs))=true):intText? x=some (valL (tl x):Nat):=by
  rw[len_tl] at h1 h2
  have key:numL (valL (tl x))=tl x:=by
    match tl x,h1,h2,h3,h4 with
    | [c],_,_,h3,h4 =>
      simp only[List.all_cons,List.all_nil,Bool.and_true,decide_eq_true_eq] at h4
      have:=digs_is h4
      have h3:¬ c=48:=h3
      exact val_one c (by omega) (by omega)
    | [c,d],_,_,h3,h4 =>
      simp only[List.all_cons,List.all_nil,Bool.and_true,Bool.and_eq_true,decide_eq_true_eq] at h4
      have:=digs_is h4.1
      have:=digs_is h4.2
      have h3:¬ c=48:=h3
      exact val_two c (by omega) (by omega) d (by omega) (by omega)
  have ex:x=Str.ofString (toString ((valL (tl x):Nat):Int)):=ext_tl (by rw[tl_num,key])
  have:=int_num (n:=valL (tl x)) (by rw[key];omega)
  rw[← ex] at this
  exact this
section
variable {Pg:Program} {w:World} {K:W.Frag} {mg:Str→Option Value} {base:Heap} {ad:Ad}
def spNumR (K:W.Frag):Sp:=fun vs H Q _=>∃ x:Str,vs=[.str x]∧x.length < 1000∧∀ v H',Same H H'→(∀ G,Dq K G v (numQ x))→Q v H'
theorem rd_Z3:∀ vs H Q E,spNumR K vs H Q E→t_Z3 Pg w K ad { nx:=fun _ H'=>Q .non H',rt:=Q } (start ns_Z3 vs) H:=by
  rintro vs H Q E ⟨x,rfl,hx,q⟩
  have z:=szL
  unfold numQ at q
  refine⟨_,rfl,_,rfl,by omega,_,_,rfl,rfl,_,rfl,?_⟩
  cases e1:decide ((1:Int)≤x.length) with
  | false =>
    rw[e1] at q
    exact iteF ⟨_,rfl,iteT (q _ _ (.refl _) fun G=>.non)⟩
  | true =>
    rw[e1] at q
    refine iteT ⟨_,_,rfl,rfl,_,rfl,?_⟩
    cases e2:decide ((x.length:Int)≤2) with
    | false =>
      rw[e2] at q
      exact iteT (q _ _ (.refl _) fun G=>.non)
    | true =>
      rw[e2] at q
      have q:∀ v H',Same H H'→(∀ G,Dq K G v (if ((tl x).headD 48 == 48)=true then .none else if ((tl x).all fun c=>decide (c∈digs))=true then .int (valL (tl x)) else .none))→Q v H':=q
      rw[decide_eq_true_eq] at e1 e2
      refine iteF ?_
      obtain⟨c,r,ec⟩:∃ c r,tl x=c :: r:=by
        cases e:tl x with
        | nil=>have:=len_tl x;rw[e,List.length_nil] at this;omega
        | cons c r=>exact⟨_,_,rfl⟩
      refine⟨_,rfl,_,0,c,rfl,rfl,by omega,?_,rfl,_,rfl,?_⟩
      · show atI (tl x) 0=_
        rw[ec]
        exact atI_nat (j:=0) rfl
      · by_cases c48:c=48
        · subst c48
          refine ifT (show V.str (mkS [48])=V.str "0" from by decide +kernel) (q _ _ (.refl _) fun G=>?_)
          rw[ec]
          exact .non
        · refine ifF (fun h=>?_) ?_
          · injection h with h
            have:=congrArg tl h
            rw[show tl "0"=[48] from by decide +kernel] at this
            have : [c]=[48]:=this
            exact c48 (List.head_eq_of_cons_eq this)
          · have hd:¬ (tl x).headD 48=48:=by rw[ec];exact c48
            have hb:((tl x).headD 48 == 48)=false:=by simpa using hd
            rw[hb] at q
            have q:∀ v H',Same H H'→(∀ G,Dq K G v (if ((tl x).all fun c=>decide (c∈digs))=true then .int (valL (tl x)) else .none))→Q v H':=q
            dsimp only [tNext,tSeq,tRet,tCB,tCons,tIfS,tNot,L2.tB]
            have ls:(signs x).length=x.length:=by unfold signs;rw[List.length_map,Array.length_toList];rfl
            have lc:x.cps.toList.length=x.length:=by rw[Array.length_toList];rfl
            refine rd_map (((tl x).map fun c=>decide (c∈digs)).map V.bl) (wk_str x) (fun R r=>⟨_,rfl,_,rfl,r⟩) (by rw[List.length_map,List.length_map,ls,← lc]) (by omega) (fun k y bb hy hb H2 Q' s2 q'=>?_) (fun D H2 s2 hD h2=>?_)
            · unfold signs at hy
              rw[List.getElem?_map] at hy hb
              rw[List.getElem?_map] at hb
              cases hc:x.cps.toList[k]? with
              | none=>rw[hc] at hy;cases hy
              | some c' =>
                rw[hc] at hy hb
                cases hy
                cases hb
                exact⟨_,rfl,c',_,rfl,rfl,q' _ (.refl _)⟩
            · refine⟨D,(tl x).map fun c=>decide (c∈digs),rfl,.of h2,_,rfl,?_⟩
              rw[map_id_all]
              cases al:(tl x).all fun c=>decide (c∈digs) with
              | false =>
                rw[al] at q
                exact iteT (q _ _ s2 fun G=>.non)
              | true =>
                rw[al] at q
                exact iteF ⟨_,rfl,_,(valL (tl x):Nat),rfl,num_val (by omega) (by omega) hd al,by omega,q _ _ s2 fun G=>.int _⟩
theorem f_Z3 (T:Txt Pg w K mg base ad):FnOk Pg w K mg base CX0 (2+1) ad.a_Z3 ad.d_Z3 ps_Z3 (spNumR K) :=
  ok_Z3 T (fun vs H Q E ⟨_,e,_⟩=>by rw[e];rfl) rd_Z3
end
end
section
def wat (ws:List Str) (i:Nat):Str:=ws.getD i ""
def stepQ (x:Str):PyData :=
  if V.str (wat (fsplit [32] x) 0)=V.str "run" then
    if (fsplit [32] x).length=2 then .tuple [.str "run",numQ (wat (fsplit [32] x) 1)] else .tuple ((fsplit [32] x).map PyData.str)
  else .tuple ((fsplit [32] x).map PyData.str)
theorem wat_at {ws:List Str} {i:Nat} (h:i < ws.length):(ws.map V.str)[i]?=some (.str (wat ws i)):=by
  unfold wat
  rw[List.getElem?_map,List.getElem?_eq_getElem h,List.getD_eq_getElem?_getD,List.getElem?_eq_getElem h]
  rfl
theorem wat_lt {ws:List Str} {n i:Nat} (hn:∀ p∈ws,p.length≤n) (h:i < ws.length):(wat ws i).length≤n:=by
  unfold wat
  rw[List.getD_eq_getElem?_getD,List.getElem?_eq_getElem h]
  exact hn _ (List.getElem_mem h)
theorem strs_dq {K:W.Frag} {G:Hp}:∀ l:List Str,DqA K G (l.map V.str) (l.map PyData.str)
  | []=>.nil
  | a :: l=>.cons (.str a) (strs_dq l)
theorem Gr.hp {G H H1 G2 H2:Hp} (g:Gr G H1 G2 H2) (s:Same H H1):Gr G H G2 H2:=⟨g.up,g.le,fun a h=>(g.new a h).imp id fun z=>s.free z⟩
theorem add_gr {G H G2 H2:Hp} {p:Addr} {o:HO} (s:Same H H2) (g:Gr G H G2 H2) (hp:H2 p=none):Gr G H (L2.upd G2 p o) (L2.upd H2 p o):=⟨g.up.trans (same_new (g.le.free hp)),same_upd2 g.le,fun a ha=>by
  by_cases z:a=p
  · subst z;exact .inr (s.free hp)
  · rw[upd_ne z] at ha;exact g.new a ha⟩
theorem hp_gr {G H G2 H2 H3:Hp} (g:Gr G H G2 H2) (s:Same H2 H3):Gr G H G2 H3:=⟨g.up,g.le.trans s,g.new⟩
theorem int_eq {n:Nat} {m:Int}:(V.int (n:Nat)=V.int m)↔((n:Int)=m):=⟨len_int,fun e=>by rw[e]⟩
section
variable {Pg:Program} {w:World} {K:W.Frag} {mg:Str→Option Value} {base:Heap} {ad:Ad}
theorem rd_datC {G H:Hp} {wi:TI} {g:TG} {ow:List Nat} {te:TE} {σ:L2.St} {Q:VK} (ds:List PyData) (e:Same G H) (Pw:L2.It→List V→Hp→Prop) (hwi:∀ R:L2.It→Hp→Prop,(∀ J xs H1,Pw J xs H1→R J H1)→wi σ H R)
    (hw:∀ J xs H1,Pw J xs H1→Same H H1∧Wk J xs H1∧ds.length=xs.length∧xs.length < sizeLine∧∀ (k:Nat) x d,xs[k]?=some x→ds[k]?=some d→∀ G2 H2 Q',Same H1 H2→Gr G H1 G2 H2→(∀ y G3 H3,Same H2 H3→Gr G2 H2 G3 H3→Dq K G3 y d→Q' y H3)→g x (wipe σ ow) H2 fun σ2 H2=>wipe σ2 ow=wipe σ ow∧te σ2 H2 Q')
    (q:∀ D G2 H2,Same H H2→Gr G H G2 H2→H D=none→Dq K G2 (.ref D) (.list ds)→Q (.ref D) H2):tLc wi g tYes te ow σ H Q :=
  hwi _ fun J xs H1 p=>let ⟨s,wk,hl,hz,el⟩:=hw J xs H1 p;lc_dat (e.trans s) wk hl hz el fun D G2 H2 s2 g2 hD dD=>q D G2 H2 (s.trans s2) (Gr.hp g2 s) (s.free hD) dD
def spStepR (K:W.Frag):Sp:=fun vs H Q _=>∃ (x:Str) (G:Hp),vs=[.str x]∧x.length < 900∧Same G H∧∀ v' G' H',Same H H'→Gr G H G' H'→Dq K G' v' (stepQ x)→Q v' H'
theorem rd_Zm:∀ vs H Q E,spStepR K vs H Q E→t_Zm Pg w K ad (spNumR K) { nx:=fun _ H'=>Q .non H',rt:=Q } (start ns_Zm vs) H:=by
  rintro vs H Q E ⟨x,G,rfl,hx,e,q⟩
  have z:=szL
  refine⟨_,rfl,rfl,_," ",rfl,rfl,by decide +kernel,by omega,fun D hD=>?_⟩
  rw[split_f (y:=" ") (S:=[32]) (by decide +kernel) (by simp) (by decide +kernel)]
  have lw:=fsplit_len [32] x
  have lm:∀ p∈fsplit [32] x,p.length≤900:=fun p hp=>by have:=fsplit_mem hp;omega
  have l1:0 < (fsplit [32] x).length:=by obtain⟨a,b,e⟩:=fsplit_pos [32] x;rw[e];exact Nat.zero_lt_succ _
  unfold stepQ at q
  generalize fsplit [32] x=ws at *
  have s1:=same_new (G:=H) (o:=.lst (ws.map V.str)) hD
  have other:(∀ v' G' H',Same H H'→Gr G H G' H'→Dq K G' v' (.tuple (ws.map PyData.str))→Q v' H')→tSeq (tRet (tCB (rTupOf K) (tCons (tVar 1) (tNil)))) (tNext) { nx:=fun _ H'=>Q .non H',rt:=Q } [some (.str x),some (.ref D)] (L2.upd H D (.lst (ws.map V.str))):=by
    intro q
    refine⟨_,rfl,D,_,rfl,.inl ⟨.of upd_same,fun t ht=>?_⟩⟩
    have s2:=same_new (o:=.tup (ws.map V.str)) ht
    refine q _ (L2.upd G t (.tup (ws.map V.str))) _ (s1.trans s2) ?_ (.tup (.inl upd_same) (strs_dq ws))
    exact⟨same_new (e.free (s1.free ht)),same_upd2 (same_off e (e.free hD)),fun a ha=>by
      by_cases za:a=t
      · subst za;exact .inr (s1.free ht)
      · rw[upd_ne za] at ha;exact .inl ha⟩
  refine⟨.ref D,rfl,D,_,0,.str (wat ws 0),rfl,rfl,.of upd_same,atI_nat (j:=0) (wat_at l1),rfl,_,rfl,?_⟩
  by_cases er:V.str (wat ws 0)=V.str "run"
  · rw[if_pos er] at q
    refine ifT er ⟨.ref D,rfl,D,_,rfl,.inl (.of upd_same),rfl,_,rfl,?_⟩
    rw[List.length_map]
    by_cases l2:ws.length=2
    · rw[if_pos l2] at q
      refine ifT (int_eq.mpr (by omega)) ?_
      refine⟨.ref D,rfl,D,_,1,.str (wat ws 1),rfl,rfl,.of upd_same,atI_nat (j:=1) (wat_at (by omega)),wat ws 1,rfl,by have:=wat_lt lm (i:=1) (by omega);omega,fun v H2 s2 dv=>⟨(show 2≤sizeLine by decide),fun t ht=>?_⟩⟩
      have s3:=same_new (o:=.tup [.str "run",v]) ht
      refine q _ (L2.upd G t (.tup [.str "run",v])) _ (s1.trans (s2.trans s3)) ?_ (.tup (.inl upd_same) (.cons (.str _) (.cons (dv _) .nil)))
      exact⟨same_new (e.free (s1.free (s2.free ht))),same_upd2 ((same_off e (e.free hD)).trans s2),fun a ha=>by
        by_cases za:a=t
        · subst za;exact .inr (s1.free (s2.free ht))
        · rw[upd_ne za] at ha;exact .inl ha⟩
    · rw[if_neg l2] at q
      exact ifF (fun h=>l2 (by have:=int_eq.mp h;omega)) (other q)
  · rw[if_neg er] at q
    exact ifF er (iteF (other q))
theorem f_Zm (T:Txt Pg w K mg base ad):FnOk Pg w K mg base CX0 (4+1) ad.a_Zm ad.d_Zm ps_Zm (spStepR K) :=
  ok_Zm T (f_Z3 T) (fun vs H Q E ⟨_,_,e,_⟩=>by rw[e];rfl) rd_Zm
def partQ (x:Str):Str×Str:=match par [58,32] [] (tl x) with
  | some (a,b)=>(mkS a,mkS b)
  | none=>(x,Str.empty)
theorem part_f (x:Str):∃ m,Txt.partition x ": "=((partQ x).1,m,(partQ x).2):=by
  have:=partition_par x ": " (by decide +kernel)
  rw[this,show tl ": "=[58,32] from by decide +kernel]
  unfold partQ
  cases par [58,32] [] (tl x) with
  | none=>exact⟨_,rfl⟩
  | some ab=>exact⟨_,rfl⟩
theorem part_le (x:Str):(partQ x).1.length≤x.length∧(partQ x).2.length≤x.length:=by
  unfold partQ
  cases e:par [58,32] [] (tl x) with
  | none=>exact⟨Nat.le_refl _,Nat.zero_le _⟩
  | some ab =>
    have:=par_len _ _ _ _ _ e
    rw[List.length_nil] at this
    rw[len_tl x]
    exact⟨by show ab.1.length≤_;omega,by show ab.2.length≤_;omega⟩
def toldL (ws:List Str) (st:PyData):PyData :=
  if V.str (wat ws 0)=V.str "line"∧ws.length=7∧inV (.str (wat ws 3)) [.str "up",.str "latched"]=true then
    .tuple [.str (wat ws 1),numQ (wat ws 2),.bool (decide (V.str (wat ws 3)=V.str "up")),.tuple [numQ (wat ws 4),numQ (wat ws 5),numQ (wat ws 6)],st]
  else if V.str (wat ws 0)=V.str "bottom"∧ws.length=2 then .tuple [.str (wat ws 1),st]
  else if V.str (wat ws 0)=V.str "thread"∧ws.length=3 then .tuple [.str (wat ws 1),numQ (wat ws 2),st]
  else .none
def wordsQ (x:Str):List Str:=fsplit [32] (partQ x).1
def stsQ (x:Str):List PyData:=(fsplit [44,32] (partQ x).2).map stepQ
def toldQ (x:Str):PyData:=toldL (wordsQ x) (.list (stsQ x))
def spRowR (K:W.Frag):Sp:=fun vs H Q _=>∃ (x:Str) (G:Hp),vs=[.str x]∧x.length < 900∧Same G H∧∀ P vt G' H',Same H H'→Gr G H G' H'→H' P=some (.tup [.str (wat (wordsQ x) 0),vt])→Dq K G' vt (toldQ x)→Q (.ref P) H'
theorem rd_Zn:∀ vs H Q E,spRowR K vs H Q E→t_Zn Pg w K ad (spNumR K) (spStepR K) { nx:=fun _ H'=>Q .non H',rt:=Q } (start ns_Zn vs) H:=by
  rintro vs H Q E ⟨x,G,rfl,hx,e,q⟩
  have z:=szL
  have pl:=part_le x
  refine⟨_,rfl,rfl,_,": ",rfl,rfl,by decide +kernel,by omega,fun P1 hP1=>?_⟩
  obtain⟨mid,hp⟩:=part_f x
  rw[hp]
  unfold toldQ wordsQ stsQ at q
  generalize partQ x=hb at *
  obtain⟨hd,tail⟩:=hb
  have pl1:hd.length≤x.length:=pl.1
  have pl2:tail.length≤x.length:=pl.2
  have s1:=same_new (G:=H) (o:=.tup [.str hd,.str mid,.str tail]) hP1
  refine⟨P1,_,rfl,.of upd_same,rfl,_,_,rfl,_,_,rfl,_,_,rfl,rfl,?_⟩
  refine⟨_,rfl,rfl,hd," ",rfl,rfl,by decide +kernel,by omega,fun W hW=>?_⟩
  rw[split_f (y:=" ") (S:=[32]) (by decide +kernel) (by simp) (by decide +kernel)]
  have lw:=fsplit_len [32] hd
  have lm:∀ p∈fsplit [32] hd,p.length≤900:=fun p hp=>by have:=fsplit_mem hp;omega
  have l1:0 < (fsplit [32] hd).length:=by obtain⟨a,b,e⟩:=fsplit_pos [32] hd;rw[e];exact Nat.zero_lt_succ _
  have q:∀ P vt G' H',Same H H'→Gr G H G' H'→H' P=some (.tup [.str (wat (fsplit [32] hd) 0),vt])→Dq K G' vt (toldL (fsplit [32] hd) (.list ((fsplit [44,32] tail).map stepQ)))→Q (.ref P) H':=q
  generalize fsplit [32] hd=ws at *
  have s2:=same_new (o:=.lst (ws.map V.str)) hW
  have s12:=s1.trans s2
  have e2:Same G (L2.upd (L2.upd H P1 (.tup [.str hd,.str mid,.str tail])) W (.lst (ws.map V.str))):=e.trans s12
  have hW2:(L2.upd (L2.upd H P1 (.tup [.str hd,.str mid,.str tail])) W (.lst (ws.map V.str))) W=some (.lst (ws.map V.str)):=upd_same
  generalize hH2:L2.upd (L2.upd H P1 (.tup [.str hd,.str mid,.str tail])) W (.lst (ws.map V.str))=H2 at *
  dsimp only [gName,tSeq,tAsg]
  have lt:=fsplit_len [44,32] tail
  have ltm:∀ p∈fsplit [44,32] tail,p.length≤x.length:=fun p hp=>by have:=fsplit_mem hp;omega
  refine rd_datC (K:=K) ((fsplit [44,32] tail).map stepQ) e2 (fun J xs H1=>∃ D',J=Itl K D'∧xs=(fsplit [44,32] tail).map V.str∧Same H2 H1∧H1 D'=some (.lst xs)) (fun R rr=>⟨_,rfl,rfl,tail,", ",rfl,rfl,by decide +kernel,by omega,fun D' hD'=>⟨D',rfl,⟨_,.of upd_same⟩,rr _ ((fsplit [44,32] tail).map V.str) _ ⟨D',rfl,rfl,same_new hD',by rw[split_f (y:=", ") (S:=[44,32]) (by decide +kernel) (by simp) (by decide +kernel)];exact upd_same⟩⟩⟩) ?_ (fun D G3 H3 s3 g3 hD dD=>?_)
  · rintro J xs H1 ⟨D',rfl,rfl,s',h'⟩
    refine⟨s',wk_list (.of h'),by simp only[List.length_map],by simp only[List.length_map];omega,fun k x d hx hd G2 H3 Q' s3 g3 q'=>⟨wipe1 _ _ _,?_⟩⟩
    rw[List.getElem?_map] at hx hd
    cases es:(fsplit [44,32] tail)[k]? with
    | none=>rw[es] at hd;cases hd
    | some st =>
      rw[es] at hx hd
      cases hx;cases hd
      exact⟨_,rfl,st,G2,rfl,by have:=ltm st (List.mem_of_getElem? es);omega,g3.le,fun v' G4 H4 s4 g4 d4=>q' v' G4 H4 s4 g4 d4⟩
  · generalize hst:PyData.list ((fsplit [44,32] tail).map stepQ)=st at *
    have hW3:=s3 _ _ hW2
    have sH3:=s12.trans s3
    have g3':=Gr.hp g3 s12
    have at_:∀ i,i < ws.length→atI (ws.map V.str) ((i:Nat):Int)=some (.str (wat ws i)):=fun i hi=>atI_nat (wat_at hi)
    have wl:∀ i,i < ws.length→(wat ws i).length < 1000:=fun i hi=>by have:=wat_lt lm hi;omega
    have fin:∀ (vt:V) (G4 H4:Hp) (t7:Option V),Same H H4→Gr G H G4 H4→H4 W=some (.lst (ws.map V.str))→Dq K G4 vt (toldL ws st)→tSeq (tRet (tTup (tCons (tOp (rIxL K) (tVar 1) (tC (V.int 0))) (tCons (tVar 3) (tNil))))) (tNext) { nx:=fun _ H'=>Q .non H',rt:=Q } [some (.str x),some (.ref W),some (.ref D),some vt,some (.str hd),some (.str mid),some (.str tail),t7,none] H4:=by
      rintro vt G4 H4 t7 s4 g4 hW4 dT
      exact⟨.ref W,rfl,W,_,0,.str (wat ws 0),rfl,rfl,.of hW4,at_ 0 l1,vt,rfl,(show 2≤sizeLine by decide),fun P hP=>q P vt G4 _ (s4.trans (same_new hP)) (hp_gr g4 (same_new hP)) upd_same dT⟩
    have rest:∀ H4,Same H3 H4→toldL ws st=(if V.str (wat ws 0)=V.str "bottom"∧ws.length=2 then .tuple [.str (wat ws 1),st] else if V.str (wat ws 0)=V.str "thread"∧ws.length=3 then .tuple [.str (wat ws 1),numQ (wat ws 2),st] else .none) →
        tSeq (tIfS (tAnd (tTest (tOp rEq (tOp (rIxL K) (tVar 1) (tC (V.int 0))) (tC (V.str "bottom")))) (tTest (tOp rEq (tCB (rLenSq K) (tCons (tVar 1) (tNil))) (tC (V.int 2))))) (tSeq (tAsg (tTup (tCons (tOp (rIxL K) (tVar 1) (tC (V.int 1))) (tCons (tVar 2) (tNil)))) (gName 3)) (tNext)) (tSeq (tIfS (tAnd (tTest (tOp rEq (tOp (rIxL K) (tVar 1) (tC (V.int 0))) (tC (V.str "thread")))) (tTest (tOp rEq (tCB (rLenSq K) (tCons (tVar 1) (tNil))) (tC (V.int 3))))) (tSeq (tAsg (tTup (tCons (tOp (rIxL K) (tVar 1) (tC (V.int 1))) (tCons (tCall (spNumR K) [] E0 (tCons (tOp (rIxL K) (tVar 1) (tC (V.int 2))) (tNil))) (tCons (tVar 2) (tNil))))) (gName 3)) (tNext)) (tNext)) (tNext))) (tNext)
        { nx:=tSeq (tRet (tTup (tCons (tOp (rIxL K) (tVar 1) (tC (V.int 0))) (tCons (tVar 3) (tNil))))) (tNext) { nx:=fun _ H'=>Q .non H',rt:=Q },rt:=Q } [some (.str x),some (.ref W),some (.ref D),some .non,some (.str hd),some (.str mid),some (.str tail),none,none] H4:=by
      intro H4 s4 et
      have hW4:=s4 _ _ hW3
      have sH4:=sH3.trans s4
      have g4:=hp_gr g3' s4
      have third:toldL ws st=(if V.str (wat ws 0)=V.str "thread"∧ws.length=3 then .tuple [.str (wat ws 1),numQ (wat ws 2),st] else .none) →
          tSeq (tIfS (tAnd (tTest (tOp rEq (tOp (rIxL K) (tVar 1) (tC (V.int 0))) (tC (V.str "thread")))) (tTest (tOp rEq (tCB (rLenSq K) (tCons (tVar 1) (tNil))) (tC (V.int 3))))) (tSeq (tAsg (tTup (tCons (tOp (rIxL K) (tVar 1) (tC (V.int 1))) (tCons (tCall (spNumR K) [] E0 (tCons (tOp (rIxL K) (tVar 1) (tC (V.int 2))) (tNil))) (tCons (tVar 2) (tNil))))) (gName 3)) (tNext)) (tNext)) (tNext) { nx:=tSeq (tRet (tTup (tCons (tOp (rIxL K) (tVar 1) (tC (V.int 0))) (tCons (tVar 3) (tNil))))) (tNext) { nx:=fun _ H'=>Q .non H',rt:=Q },rt:=Q } [some (.str x),some (.ref W),some (.ref D),some .non,some (.str hd),some (.str mid),some (.str tail),none,none] H4:=by
        intro et
        refine⟨.ref W,rfl,W,_,0,.str (wat ws 0),rfl,rfl,.of hW4,at_ 0 l1,rfl,_,rfl,?_⟩
        by_cases ew:V.str (wat ws 0)=V.str "thread"
        · refine ifT ew ⟨.ref W,rfl,W,_,rfl,.inl (.of hW4),rfl,_,rfl,?_⟩
          rw[List.length_map]
          by_cases l3:ws.length=3
          · rw[if_pos ⟨ew,l3⟩] at et
            refine ifT (int_eq.mpr (by omega)) ?_
            refine⟨.ref W,rfl,W,_,1,.str (wat ws 1),rfl,rfl,.of hW4,at_ 1 (by omega),.ref W,rfl,W,_,2,.str (wat ws 2),rfl,rfl,.of hW4,at_ 2 (by omega),wat ws 2,rfl,wl 2 (by omega),fun vn H9 s9 dn=>⟨.ref D,rfl,(show 3≤sizeLine by decide),fun T hT=>?_⟩⟩
            have sH9:=sH4.trans s9
            have g9:=add_gr (o:=.tup [.str (wat ws 1),vn,.ref D]) sH9 (hp_gr g4 s9) hT
            have sT:=same_new (o:=.tup [.str (wat ws 1),vn,.ref D]) hT
            have gT:=(hp_gr g4 s9).le.free hT
            exact fin (.ref T) _ _ none (sH9.trans sT) g9 (sT _ _ (s9 _ _ hW4)) (by rw[et];exact .tup (.inl upd_same) (.cons (.str _) (.cons (dn _) (.cons (dD.up (same_new gT)) .nil))))
          · rw[if_neg (fun h=>l3 h.2)] at et
            exact ifF (fun h=>l3 (by have:=int_eq.mp h;omega)) (fin .non _ _ none sH4 g4 hW4 (by rw[et];exact .non))
        · rw[if_neg (fun h=>ew h.1)] at et
          exact ifF ew (iteF (fin .non _ _ none sH4 g4 hW4 (by rw[et];exact .non)))
      refine⟨.ref W,rfl,W,_,0,.str (wat ws 0),rfl,rfl,.of hW4,at_ 0 l1,rfl,_,rfl,?_⟩
      by_cases ew:V.str (wat ws 0)=V.str "bottom"
      · refine ifT ew ⟨.ref W,rfl,W,_,rfl,.inl (.of hW4),rfl,_,rfl,?_⟩
        rw[List.length_map]
        by_cases l2:ws.length=2
        · rw[if_pos ⟨ew,l2⟩] at et
          refine ifT (int_eq.mpr (by omega)) ?_
          refine⟨.ref W,rfl,W,_,1,.str (wat ws 1),rfl,rfl,.of hW4,at_ 1 (by omega),.ref D,rfl,(show 2≤sizeLine by decide),fun T hT=>?_⟩
          have g9:=add_gr (o:=.tup [.str (wat ws 1),.ref D]) sH4 g4 hT
          have sT:=same_new (o:=.tup [.str (wat ws 1),.ref D]) hT
          have gT:=g4.le.free hT
          exact fin (.ref T) _ _ none (sH4.trans sT) g9 (sT _ _ hW4) (by rw[et];exact .tup (.inl upd_same) (.cons (.str _) (.cons (dD.up (same_new gT)) .nil)))
        · rw[if_neg (fun h=>l2 h.2)] at et
          exact ifF (fun h=>l2 (by have:=int_eq.mp h;omega)) (third et)
      · rw[if_neg (fun h=>ew h.1)] at et
        exact ifF ew (iteF (third et))
    have noL:∀ {A B:PyData},¬ (V.str (wat ws 0)=V.str "line"∧ws.length=7∧inV (.str (wat ws 3)) [.str "up",.str "latched"]=true)→toldL ws st=(if V.str (wat ws 0)=V.str "bottom"∧ws.length=2 then .tuple [.str (wat ws 1),st] else if V.str (wat ws 0)=V.str "thread"∧ws.length=3 then .tuple [.str (wat ws 1),numQ (wat ws 2),st] else .none):=fun {A B} h=>by
      unfold toldL
      rw[if_neg h]
    refine⟨.ref W,rfl,W,_,0,.str (wat ws 0),rfl,rfl,.of hW3,at_ 0 l1,rfl,_,rfl,?_⟩
    by_cases ew:V.str (wat ws 0)=V.str "line"
    · refine ifT ew ⟨.ref W,rfl,W,_,rfl,.inl (.of hW3),rfl,_,rfl,?_⟩
      rw[List.length_map]
      by_cases l7:ws.length=7
      · refine ifT (int_eq.mpr (by omega)) ⟨.ref W,rfl,W,_,3,.str (wat ws 3),rfl,rfl,.of hW3,at_ 3 (by omega),(show 2≤sizeLine by decide),fun u hu=>⟨u,_,rfl,.inr (.of upd_same),rfl,rfl,_,rfl,?_⟩⟩
        have su:=same_new (o:=.tup [.str "up",.str "latched"]) hu
        have hWu:=su _ _ hW3
        cases hin:inV (.str (wat ws 3)) [.str "up",.str "latched"] with
        | false =>
          simp only[Bool.false_eq_true,if_false]
          exact rest _ su (noL (A:=.none) (B:=.none) fun h=>by rw[hin] at h;exact Bool.noConfusion h.2.2)
        | true =>
          simp only[Bool.false_eq_true,if_false,if_true]
          have et:toldL ws st=.tuple [.str (wat ws 1),numQ (wat ws 2),.bool (decide (V.str (wat ws 3)=V.str "up")),.tuple [numQ (wat ws 4),numQ (wat ws 5),numQ (wat ws 6)],st]:=if_pos ⟨ew,l7,hin⟩
          refine⟨.ref W,rfl,W,_,4,.str (wat ws 4),rfl,rfl,.of hWu,at_ 4 (by omega),wat ws 4,rfl,wl 4 (by omega),fun v4 H5 s5 d4=>?_⟩
          refine⟨.ref W,rfl,W,_,5,.str (wat ws 5),rfl,rfl,.of (s5 _ _ hWu),at_ 5 (by omega),wat ws 5,rfl,wl 5 (by omega),fun v5 H6 s6 d5=>?_⟩
          refine⟨.ref W,rfl,W,_,6,.str (wat ws 6),rfl,rfl,.of (s6 _ _ (s5 _ _ hWu)),at_ 6 (by omega),wat ws 6,rfl,wl 6 (by omega),fun v6 H7 s7 d6=>⟨(show 3≤sizeLine by decide),fun Gd hGd=>?_⟩⟩
          have s37:=su.trans (s5.trans (s6.trans s7))
          have sH7:=sH3.trans s37
          have g7:=add_gr (o:=.tup [v4,v5,v6]) sH7 (hp_gr g3' s37) hGd
          have s8:=same_new (o:=.tup [v4,v5,v6]) hGd
          have hW8:=s8 _ _ (s37 _ _ hW3)
          have gGd:=(hp_gr g3' s37).le.free hGd
          refine⟨.ref W,rfl,W,_,1,.str (wat ws 1),rfl,rfl,.of hW8,at_ 1 (by omega),.ref W,rfl,W,_,2,.str (wat ws 2),rfl,rfl,.of hW8,at_ 2 (by omega),wat ws 2,rfl,wl 2 (by omega),fun v2 H9 s9 d2=>?_⟩
          have hW9:=s9 _ _ hW8
          refine⟨.ref W,rfl,W,_,3,.str (wat ws 3),rfl,rfl,.of hW9,at_ 3 (by omega),rfl,.ref Gd,rfl,.ref D,rfl,(show 5≤sizeLine by decide),fun T hT=>?_⟩
          have sH9:=sH7.trans (s8.trans s9)
          have g9:=add_gr (o:=.tup [.str (wat ws 1),v2,.bl (decide (V.str (wat ws 3)=V.str "up")),.ref Gd,.ref D]) sH9 (hp_gr g7 s9) hT
          have sT:=same_new (o:=.tup [.str (wat ws 1),v2,.bl (decide (V.str (wat ws 3)=V.str "up")),.ref Gd,.ref D]) hT
          have gT:=(hp_gr g7 s9).le.free hT
          exact fin (.ref T) _ _ _ (sH9.trans sT) g9 (sT _ _ hW9) (by rw[et];exact .tup (.inl upd_same) (.cons (.str _) (.cons (d2 _) (.cons (.bl _) (.cons (.tup (.inl (same_new gT _ _ upd_same)) (.cons (d4 _) (.cons (d5 _) (.cons (d6 _) .nil)))) (.cons ((dD.up (same_new gGd)).up (same_new gT)) .nil))))))
      · exact ifF (fun h=>l7 (by have:=int_eq.mp h;omega)) (iteF (rest _ (.refl _) (noL (A:=.none) (B:=.none) fun h=>l7 h.2.1)))
    · exact ifF ew (iteF (rest _ (.refl _) (noL (A:=.none) (B:=.none) fun h=>ew h.1)))
theorem f_Zn (T:Txt Pg w K mg base ad):FnOk Pg w K mg base CX0 (6+1) ad.a_Zn ad.d_Zn ps_Zn (spRowR K) :=
  ok_Zn T (f_Z3 T) (f_Zm T) (fun vs H Q E ⟨_,_,e,_⟩=>by rw[e];rfl) rd_Zn
end
end
end
end G
namespace G
noncomputable section
open PySem PySem.Spec L2 Ev
section
variable {Pg:Program} {w:World} {K:W.Frag} {mg:Str→Option Value} {base:Heap} {ad:Ad}
def SameX (x:Addr) (H H':Hp):Prop:=∀ b o,b≠x→H b=some o→H' b=some o
theorem SameX.of {x:Addr} {H H':Hp} (s:Same H H'):SameX x H H':=fun b o _ h=>s b o h
theorem SameX.trans {x:Addr} {H H1 H2:Hp} (a:SameX x H H1) (b:SameX x H1 H2):SameX x H H2:=fun c o n h=>b c o n (a c o n h)
theorem SameX.upd {x:Addr} {H:Hp} {o:HO}:SameX x H (L2.upd H x o):=fun b u n h=>by rw[upd_ne n];exact h
abbrev planF (a b c:V):List (Str×V):=[("line_rows",a),("bottom_rows",b),("thread_rows",c)]
theorem putF_len (f:Str) (v:V):∀ fs:List (Str×V),(putF f v fs).length≤fs.length+1
  | []=>Nat.le_refl _
  | (g,x) :: r=>by
    unfold putF
    split
    · simp
    · rw[List.length_cons,List.length_cons]
      have:=putF_len f v r
      omega
theorem fld_step {C x dx:Addr} {fs:List (Str×V)} {f:Str} {i:Nat} {σ:L2.St} {D:Ends} {G H:Hp} {v:V} {d:PyData} {ds:List PyData} (cl:Cls K C) (no:NoAttr K C f) (hl:fs.length < 1000) (h0:σ[0]?=some (some (.ref x))) (hi:σ[i]?=some (some v)) (e:Same G H) (gx:G x=none) (hx:H x=some (.ins C dx fs)) (h:Dq K G v d) (sq:kidsQ d=some ds) (hz:sz (.list ds)≤100000)
    (q:∀ a G' H',SameX x H H'→Same G G'→Same G' H'→G' x=none→(∀ y,G' y≠none→G y≠none∨H y=none)→H' x=some (.ins C dx (putF f a fs))→Dq K G' a (.list ds)→D.nx σ H') :
    sFld K (tVar 0) (tCall (spCopied K) [] E0 (tCons (tCB (rListOf K) (tCons (tVar i) tNil)) tNil)) f D σ H:=by
  obtain⟨a,xs,J,rfl,t,hs,ty,wk,wi⟩:=kids_cases h sq
  refine⟨_,hi,a,xs,rfl,hs.imp (same_sqL e) (same_sqT e),fun l hl'=>?_⟩
  have sl:=same_new (G:=H) (o:=.lst xs) hl'
  have gl:G l=none:=e.free hl'
  refine⟨.ref l,.list ds,L2.upd G l (.lst xs),rfl,same_upd2 e,.lst upd_same (t.up (same_new gl)),hz,fun v' H' G' s' g' hd fr=>?_⟩
  have nlx:x≠l:=fun z=>by subst z;rw[hx] at hl';cases hl'
  have hx':H' x=some (.ins C dx fs):=s' _ _ (sl _ _ hx)
  have gx':G' x=none:=g'.none (by rw[upd_ne nlx];exact gx) (sl _ _ hx)
  refine⟨_,h0,x,C,dx,fs,rfl,hx',cl,no,hl,q v' G' _ ((SameX.of (sl.trans s')).trans .upd) ((same_new gl).trans g'.up) (same_off g'.le gx') gx' (fun y hy=>?_) upd_same hd⟩
  rcases g'.new y hy with z | z
  · by_cases zl:y=l
    · subst zl;exact .inr hl'
    · rw[upd_ne zl] at z;exact .inl z
  · exact .inr (sl.free z)
def spInitD (K:W.Frag) (C:Addr):Sp:=fun vs H Q _=>∃ x dx vl vb vt dl db dt G,∃ l b t:List PyData,vs=[.ref x,vl,vb,vt]∧H x=some (.ins C dx [])∧Same G H∧G x=none∧Dq K G vl dl∧Dq K G vb db∧Dq K G vt dt ∧
  kidsQ dl=some l∧kidsQ db=some b∧kidsQ dt=some t∧fitD dl=true∧fitD db=true∧fitD dt=true∧linesD l=true∧bottomsD b=true∧threadsD t=true∧thereD l b t=true∧sz (.list l)≤100000∧sz (.list b)≤100000∧sz (.list t)≤100000 ∧
  ∀ a b' c G' H',SameX x H H'→Same G G'→Same G' H'→G' x=none→(∀ y,G' y≠none→G y≠none∨H y=none)→H' x=some (.ins C dx (planF a b' c))→Dq K G' a (.list l)→Dq K G' b' (.list b)→Dq K G' c (.list t)→Q .non H'
theorem rows3 {l b t:List PyData} (h1:l.all lineD=true) (h2:b.all bottomD=true) (h3:t.all threadD=true):∀ d∈l++b++t,RowQ d:=fun d hd=>by
  rcases List.mem_append.mp hd with hd | hd
  · rcases List.mem_append.mp hd with hd | hd
    · exact line_row (List.all_eq_true.mp h1 d hd)
    · exact bottom_row (List.all_eq_true.mp h2 d hd)
  · exact thread_row (List.all_eq_true.mp h3 d hd)
theorem lines_inv {l:List PyData} (h:linesD l=true):1≤l.length∧l.length≤5∧l.all lineD=true:=by
  unfold linesD at h
  simp only[Bool.and_eq_true,decide_eq_true_eq] at h
  exact⟨by omega,by omega,h.2.2.1⟩
theorem bottoms_inv {l:List PyData} (h:bottomsD l=true):l.length≤4∧l.all bottomD=true:=by
  unfold bottomsD at h
  simp only[Bool.and_eq_true,decide_eq_true_eq] at h
  exact⟨by omega,h.2.1⟩
theorem threads_inv {l:List PyData} (h:threadsD l=true):l.length≤4∧l.all threadD=true:=by
  unfold threadsD at h
  simp only[Bool.and_eq_true,decide_eq_true_eq] at h
  exact⟨by omega,h.2.1⟩
theorem on_rows {p:List PyData→Bool} {d:PyData} {ds:List PyData} (e:kidsQ d=some ds):onRows p d=p ds:=by unfold onRows;rw[e]
theorem rd_Zd (T:Txt Pg w K mg base ad):∀ vs H Q E,spInitD K ad.c_Plan vs H Q E→t_Zd Pg w K ad (spCopied K) (spLinesD K) (spBottomsD K) (spThreadsD K) (spThereD K) { nx:=fun _ H'=>Q .non H',rt:=Q } (start ns_Zd vs) H:=by
  rintro vs H Q E ⟨x,dx,vl,vb,vt,dl,db,dt,G,l,b,t,rfl,hx,e,gx,hl,hb,ht,ql,qb,qt,fl,fb,ft,okl,okb,okt,okh,zl,zb,zt,q⟩
  have il:=lines_inv okl
  have ib:=bottoms_inv okb
  have it:=threads_inv okt
  refine⟨vl,rfl,vl,dl,rfl,hl.up e,fl,fun H1 s1=>⟨_,rfl,?_⟩⟩
  rw[on_rows ql,okl]
  refine iteF ⟨vb,rfl,vb,db,rfl,(hb.up e).up s1,fb,fun H2 s2=>⟨_,rfl,?_⟩⟩
  rw[on_rows qb,okb]
  refine iteF ⟨vt,rfl,vt,dt,rfl,((ht.up e).up s1).up s2,ft,fun H3 s3=>⟨_,rfl,?_⟩⟩
  rw[on_rows qt,okt]
  have s13:=(s1.trans s2).trans s3
  refine iteF ⟨vl,rfl,vb,rfl,vt,rfl,vl,vb,vt,dl,db,dt,l,b,t,rfl,(hl.up e).up s13,(hb.up e).up s13,(ht.up e).up s13,ql,qb,qt,rows3 il.2.2 ib.2 it.2,il.2.1,ib.1,it.1,fun H4 s4=>⟨_,rfl,?_⟩⟩
  rw[okh]
  refine iteF ?_
  have s14:=s13.trans s4
  refine fld_step T.cl_Plan T.no_Plan_line_rows (by decide) rfl rfl (e.trans s14) gx (s14 _ _ hx) hl ql zl fun a G5 H5 x5 u5 l5 g5 n5 hx5 da=>?_
  refine fld_step T.cl_Plan T.no_Plan_bottom_rows (Nat.lt_of_le_of_lt (putF_len _ _ _) (by decide)) rfl rfl l5 g5 hx5 (hb.up u5) qb zb fun b' G6 H6 x6 u6 l6 g6 n6 hx6 db'=>?_
  refine fld_step T.cl_Plan T.no_Plan_thread_rows (Nat.lt_of_le_of_lt (putF_len _ _ _) (Nat.lt_of_le_of_lt (Nat.succ_le_succ (putF_len _ _ _)) (by decide))) rfl rfl l6 g6 hx6 ((ht.up u5).up u6) qt zt fun c G7 H7 x7 u7 l7 g7 n7 hx7 dc=>?_
  refine q a b' c G7 H7 ((SameX.of s14).trans (x5.trans (x6.trans x7))) (u5.trans (u6.trans u7)) l7 g7 (fun y hy=>?_) hx7 (da.up (u6.trans u7)) (db'.up u7) dc
  have back:∀ {Ha Hb:Hp},SameX x Ha Hb→Hb y=none→y≠x→Ha y=none:=fun {Ha Hb} s hn hy'=>by
    cases q:Ha y with
    | none=>rfl
    | some o=>rw[s y o hy' q] at hn;cases hn
  have yx:y≠x:=fun z=>by subst z;exact hy g7
  rcases n7 y hy with z | z
  · rcases n6 y z with z | z
    · rcases n5 y z with z | z
      · exact .inl z
      · exact .inr (s14.free z)
    · exact .inr (s14.free (back x5 z yx))
  · exact .inr (s14.free (back x5 (back x6 z yx) yx))
theorem f_Zd (T:Txt Pg w K mg base ad):FnOk Pg w K mg base CX0 (12+1) ad.a_Zd ad.d_Zd ps_Zd (spInitD K ad.c_Plan) :=
  ok_Zd T (f_Zs T) (f_Zf T) (f_Z7 T) (f_Z8 T) (f_Ze T) (fun vs H Q E ⟨_,_,_,_,_,_,_,_,_,_,_,_,e,_⟩=>by rw[e];rfl) (rd_Zd T)
end
end
end G
namespace G
noncomputable section
open PySem PySem.Spec L2 Ev TL
section
inductive Ans where
  | bad (n:Nat) | good | huge
def goR:Nat→List Str→List PyData→List PyData→List PyData→Ans
  | n,[],l,b,t=>if thereD l b t=true then (if sz (.list l)≤100000∧sz (.list b)≤100000∧sz (.list t)≤100000 then .good else .huge) else .bad n
  | n,x :: rest,l,b,t =>
    if x.length < 900∧fitD (toldQ x)=true then
      if V.str (wat (wordsQ x) 0)=V.str "line"∧b=[]∧t=[] then
        if (linesD (l++[toldQ x]) && (bottomsD b && threadsD t))=true then goR (n+1) rest (l++[toldQ x]) b t else .bad n
      else if V.str (wat (wordsQ x) 0)=V.str "bottom"∧t=[] then
        if (linesD l && (bottomsD (b++[toldQ x]) && threadsD t))=true then goR (n+1) rest l (b++[toldQ x]) t else .bad n
      else if V.str (wat (wordsQ x) 0)=V.str "thread" then
        if (linesD l && (bottomsD b && threadsD (t++[toldQ x])))=true then goR (n+1) rest l b (t++[toldQ x]) else .bad n
      else .bad n
    else .huge
def AnsOk (B:Addr) (H:Hp) (Q:VK) (E:XK):Ans→Prop
  | .bad n=>∀ H1 dx,Same H H1→H1 dx=none→E (.ref B) (some dx) (L2.upd H1 dx (xdOf "row" (n:Nat)))
  | .good=>∀ v' H',Same H H'→Q v' H'
  | .huge=>False
theorem log_nat {n:Nat} (h:n < 1048576):((n:Nat):Int).natAbs.log2 < 1920:=by
  show n.log2 < 1920
  by_cases h0:n=0
  · subst h0;decide
  · have : n.log2 < 20:=(Nat.log2_lt h0).mpr h
    omega
section
variable {Pg:Program} {w:World} {K:W.Frag} {mg:Str→Option Value} {base:Heap} {ad:Ad}
def spReadD (K:W.Frag) (B:Addr):Sp:=fun vs H Q E=>∃ v d,vs=[v]∧Dq K H v d∧((isB (tyD d) 3=false∧AnsOk B H Q E (.bad 0))∨∃ x:Str,d=.str x∧x.length≤100000∧AnsOk B H Q E (goR 0 (fsplit [10] x) [] [] []))
theorem AnsOk.up {B:Addr} {H H1:Hp} {Q:VK} {E:XK} {a:Ans} (q:AnsOk B H Q E a) (s:Same H H1):AnsOk B H1 Q E a:=by
  cases a with
  | bad n=>exact fun H2 dx s2=>q H2 dx (s.trans s2)
  | good=>exact fun v H2 s2=>q v H2 (s.trans s2)
  | huge=>exact q
theorem tru_lst {H:Hp} {a:Addr} {xs:List V} {k:Bool} (h:H a=some (.lst xs)) (hk:k=!xs.isEmpty):TruV K (.ref a) H k:=.inl ⟨xs,.of h,hk⟩
theorem gp0 (x a b c:V):gOf V.non [] y_Zd_0 [x,a] [b,c]=[x,a,b,c]:=by
  unfold gOf
  rw[if_pos ⟨rfl,rfl⟩]
  rfl
def tAsksD (K:W.Frag) (ad:Ad) (E:XK):TS:=tSeq (tIfS (tOr (tNot (L2.tB (tCall (spLinesD K) [] E0 (tCons (tVar 2) (tNil))))) (tOr (tNot (L2.tB (tCall (spBottomsD K) [] E0 (tCons (tVar 3) (tNil))))) (tNot (L2.tB (tCall (spThreadsD K) [] E0 (tCons (tVar 4) (tNil))))))) (tSeq (tRaiseF ad.c_BadRows "row" (tVar 5) E) (tNext)) (tNext)) (tNext)
theorem fit_list {l:List PyData} (h1:l.length≤6) (h2:fitDs l=true):fitD (.list l)=true:=by
  rw[fitD,h2,decide_eq_true (by omega)]
  rfl
theorem fitDs_app:∀ {l:List PyData} {d:PyData},fitDs l=true→fitD d=true→fitDs (l++[d])=true
  | [],d,_,h=>by rw[List.nil_append,fitDs,h];rfl
  | a :: l,d,h,h'=>by
    rw[fitDs,Bool.and_eq_true] at h
    rw[List.cons_append,fitDs,h.1,fitDs_app h.2 h']
    rfl
structure LBT (K:W.Frag) (Ll Lb Lt:Addr) (G1 H1:Hp) (l b t:List PyData) (vl vb vt:List V):Prop where
  e:Same G1 H1
  hl:H1 Ll=some (.lst vl)
  hb:H1 Lb=some (.lst vb)
  ht:H1 Lt=some (.lst vt)
  dl:DqA K G1 vl l
  db:DqA K G1 vb b
  dt:DqA K G1 vt t
  ll:l.length≤6
  lb:b.length≤6
  lt:t.length≤6
  fl:fitDs l=true
  fb:fitDs b=true
  ft:fitDs t=true
theorem rd_asksD {E:XK} {Q:VK} {x:Str} {Tx Ll Lb Lt:Addr} {n:Nat} {t6 t7 t8:Option V} {H1 G1:Hp} {l b t:List PyData} {vl vb vt:List V} {D:Ends} {r:Ans} (w:LBT K Ll Lb Lt G1 H1 l b t vl vb vt) (hn:n < 1048576)
    (q:AnsOk ad.c_BadRows H1 Q E (if (linesD l && (bottomsD b && threadsD t))=true then r else .bad n))
    (k:(linesD l && (bottomsD b && threadsD t))=true→∀ H2,Same H1 H2→AnsOk ad.c_BadRows H2 Q E r→D.nx [some (.str x),some (.ref Tx),some (.ref Ll),some (.ref Lb),some (.ref Lt),some (.int (n:Nat)),t6,t7,t8] H2):tAsksD K ad E D [some (.str x),some (.ref Tx),some (.ref Ll),some (.ref Lb),some (.ref Lt),some (.int (n:Nat)),t6,t7,t8] H1:=by
  refine⟨.ref Ll,rfl,.ref Ll,.list l,rfl,.lst w.hl (w.dl.up w.e),fit_list w.ll w.fl,fun H2 s2=>⟨_,rfl,?_⟩⟩
  rw[on_rows (p:=linesD) (d:=.list l) rfl]
  cases el:linesD l with
  | false =>
    rw[el] at q
    exact iteT ⟨_,rfl,(n:Nat),rfl,log_nat hn,fun dx hdx=>q H2 dx s2 hdx⟩
  | true =>
  rw[el,Bool.true_and] at q k
  refine iteF ⟨.ref Lb,rfl,.ref Lb,.list b,rfl,.lst (s2 _ _ w.hb) (w.db.up (w.e.trans s2)),fit_list w.lb w.fb,fun H3 s3=>⟨_,rfl,?_⟩⟩
  rw[on_rows (p:=bottomsD) (d:=.list b) rfl]
  cases eb:bottomsD b with
  | false =>
    rw[eb] at q
    exact iteT ⟨_,rfl,(n:Nat),rfl,log_nat hn,fun dx hdx=>q H3 dx (s2.trans s3) hdx⟩
  | true =>
  rw[eb,Bool.true_and] at q k
  refine iteF ⟨.ref Lt,rfl,.ref Lt,.list t,rfl,.lst (s3 _ _ (s2 _ _ w.ht)) (w.dt.up (w.e.trans (s2.trans s3))),fit_list w.lt w.ft,fun H4 s4=>⟨_,rfl,?_⟩⟩
  rw[on_rows (p:=threadsD) (d:=.list t) rfl]
  cases et:threadsD t with
  | false =>
    rw[et] at q
    exact iteT ⟨_,rfl,(n:Nat),rfl,log_nat hn,fun dx hdx=>q H4 dx (s2.trans (s3.trans s4)) hdx⟩
  | true =>
    rw[et] at q
    exact iteF (k et H4 (s2.trans (s3.trans s4)) (AnsOk.up q (s2.trans (s3.trans s4))))
structure WRD (K:W.Frag) (ad:Ad) (x:Str) (rows:List Str) (Tx Ll Lb Lt:Addr) (H:Hp) (Q:VK) (E:XK) (i:Nat) (σ:L2.St) (H1 G1:Hp) (l b t:List PyData) (vl vb vt:List V):Prop where
  σ:∃ t5 t6 t7 t8,σ=[some (.str x),some (.ref Tx),some (.ref Ll),some (.ref Lb),some (.ref Lt),t5,t6,t7,t8]
  s:Same H H1
  tx:H1 Tx=some (.lst (rows.map V.str))
  w:LBT K Ll Lb Lt G1 H1 l b t vl vb vt
  gl:G1 Ll=none
  gb:G1 Lb=none
  gt:G1 Lt=none
  q:AnsOk ad.c_BadRows H Q E (goR i (rows.drop i) l b t)
  ok:i=0∧l=[]∧b=[]∧t=[]∨(linesD l && (bottomsD b && threadsD t))=true
structure Four (H:Hp) (Tx Ll Lb Lt:Addr):Prop where
  a:H Tx=none
  b:H Ll=none
  c:H Lb=none
  d:H Lt=none
  n1:Ll≠Tx
  n2:Lb≠Tx
  n3:Lt≠Tx
  n4:Lb≠Ll
  n5:Lt≠Ll
  n6:Lt≠Lb
theorem push3 {Tx Ll Lb Lt:Addr} {H:Hp} (four:Four H Tx Ll Lb Lt) {L:Addr} {vs:List V} {H2:Hp} {v:V} (hL:L=Ll∨L=Lb∨L=Lt) (s:Same H H2):Same H (L2.upd H2 L (.lst (vs++[v]))):=fun b o hb=>by
  rw[upd_ne (fun z=>by
    subst z
    rcases hL with e | e | e
    · rw[e,four.b] at hb;cases hb
    · rw[e,four.c] at hb;cases hb
    · rw[e,four.d] at hb;cases hb)]
  exact s _ _ hb
end
end
section
variable {Pg:Program} {w:World} {K:W.Frag} {mg:Str→Option Value} {base:Heap} {ad:Ad}
theorem lbt_push {Ll Lb Lt:Addr} {G1 H1 G2 H2:Hp} {l b t:List PyData} {vl vb vt:List V} (w:LBT K Ll Lb Lt G1 H1 l b t vl vb vt) (s:Same H1 H2) (u:Same G1 G2) (e:Same G2 H2):LBT K Ll Lb Lt G2 H2 l b t vl vb vt :=
  ⟨e,s _ _ w.hl,s _ _ w.hb,s _ _ w.ht,w.dl.up u,w.db.up u,w.dt.up u,w.ll,w.lb,w.lt,w.fl,w.fb,w.ft⟩
theorem read_end (T:Txt Pg w K mg base ad) {x:Str} {rows:List Str} {Tx Ll Lb Lt:Addr} {H:Hp} {Q:VK} {E:XK} {i:Nat} {σ:L2.St} {H1 G1:Hp} {l b t:List PyData} {vl vb vt:List V}
    (wr:WRD K ad x rows Tx Ll Lb Lt H Q E i σ H1 G1 l b t vl vb vt) (ei:i=rows.length) (i1:1≤i) (rl:rows.length < 1048576) :
    tSeq (tIfS (tNot (L2.tB (tCall (spThereD K) [] E0 (tCons (tVar 2) (tCons (tVar 3) (tCons (tVar 4) (tNil))))))) (tSeq (tRaiseF ad.c_BadRows "row" (tCB (rLenSq K) (tCons (tVar 1) (tNil))) E) (tNext)) (tNext)) (tSeq (tRet (tMakeK ad.c_Plan (spInitD K ad.c_Plan) (gOf .non [] y_Zd_0) E0 (tCons (tVar 2) (tNil)) (tCons (tVar 3) (tCons (tVar 4) (tNil))))) (tNext)) { nx:=fun _ H'=>Q .non H',rt:=Q } σ H1:=by
  obtain⟨t5,t6,t7,t8,rfl⟩:=wr.σ
  have ok:=wr.ok.resolve_left (fun z=>by omega)
  simp only[Bool.and_eq_true] at ok
  have il:=lines_inv ok.1
  have ib:=bottoms_inv ok.2.1
  have it:=threads_inv ok.2.2
  have w:=wr.w
  have hL:Dq K H1 (.ref Ll) (.list l):=.lst w.hl (w.dl.up w.e)
  have hB:Dq K H1 (.ref Lb) (.list b):=.lst w.hb (w.db.up w.e)
  have hT:Dq K H1 (.ref Lt) (.list t):=.lst w.ht (w.dt.up w.e)
  have q:=wr.q
  rw[List.drop_of_length_le (by omega)] at q
  have q:AnsOk ad.c_BadRows H Q E (if thereD l b t=true then (if sz (.list l)≤100000∧sz (.list b)≤100000∧sz (.list t)≤100000 then .good else .huge) else .bad i):=q
  refine⟨_,rfl,_,rfl,_,rfl,.ref Ll,.ref Lb,.ref Lt,.list l,.list b,.list t,l,b,t,rfl,hL,hB,hT,rfl,rfl,rfl,rows3 il.2.2 ib.2 it.2,il.2.1,ib.1,it.1,fun H4 s4=>⟨_,rfl,?_⟩⟩
  cases eh:thereD l b t with
  | false =>
    rw[eh] at q
    refine iteT ⟨.ref Tx,rfl,Tx,_,rfl,.inl (.of (s4 _ _ wr.tx)),(rows.length:Nat),by rw[List.length_map],log_nat rl,fun dx hdx=>?_⟩
    rw[← ei]
    exact q H4 dx (wr.s.trans s4) hdx
  | true =>
    rw[eh,if_pos rfl] at q
    by_cases hz:sz (.list l)≤100000∧sz (.list b)≤100000∧sz (.list t)≤100000
    · rw[if_pos hz] at q
      refine iteF ⟨_,rfl,_,rfl,_,rfl,?_⟩
      intro xo dx hx hdx ne
      dsimp only [tNil]
      rw[gp0]
      refine⟨xo,dx,.ref Ll,.ref Lb,.ref Lt,.list l,.list b,.list t,H4,l,b,t,rfl,upd_same,same_off (same_off (.refl _) hdx) hx,hx,hL.up s4,hB.up s4,hT.up s4,rfl,rfl,rfl,fit_list w.ll w.fl,fit_list w.lb w.fb,fit_list w.lt w.ft,ok.1,ok.2.1,ok.2.2,eh,hz.1,hz.2.1,hz.2.2,fun a b' c G' H' sx u l' g n hx' da db' dc=>⟨rfl,?_⟩⟩
      exact q _ _ ((wr.s.trans s4).trans (u.trans l'))
    · rw[if_neg hz] at q
      exact q.elim
def tRowD (K:W.Frag) (ad:Ad) (E:XK):TS:=tIfS (tAnd (tTest (tOp rEq (tVar 7) (tC (V.str "line")))) (tAnd (tNot (tTruth K (tVar 3))) (tNot (tTruth K (tVar 4))))) (tSeq (tDrop (tBM K "list" rAppend (tVar 2) (tCons (tVar 8) (tNil)))) (tNext)) (tSeq (tIfS (tAnd (tTest (tOp rEq (tVar 7) (tC (V.str "bottom")))) (tNot (tTruth K (tVar 4)))) (tSeq (tDrop (tBM K "list" rAppend (tVar 3) (tCons (tVar 8) (tNil)))) (tNext)) (tSeq (tIfS (tTest (tOp rEq (tVar 7) (tC (V.str "thread")))) (tSeq (tDrop (tBM K "list" rAppend (tVar 4) (tCons (tVar 8) (tNil)))) (tNext)) (tSeq (tRaiseF ad.c_BadRows "row" (tVar 5) E) (tNext))) (tNext))) (tNext))
theorem emp_b {vs:List V} {l:List PyData} {G:Hp} (h:DqA K G vs l):(!vs.isEmpty)=decide (¬ l=[]):=by
  cases h with
  | nil=>rfl
  | cons _ _=>exact (decide_eq_true (by simp)).symm
theorem rd_row {E:XK} {x r wd:Str} {vr:V} {Tx Ll Lb Lt:Addr} {n:Nat} {G1 H1:Hp} {l b t:List PyData} {vl vb vt:List V} {D:Ends} (w:LBT K Ll Lb Lt G1 H1 l b t vl vb vt) (hn:n < 1048576)
    (kL:(V.str wd=V.str "line"∧b=[]∧t=[])→D.nx [some (.str x),some (.ref Tx),some (.ref Ll),some (.ref Lb),some (.ref Lt),some (.int (n:Nat)),some (.str r),some (.str wd),some vr] (L2.upd H1 Ll (.lst (vl++[vr]))))
    (kB:¬ (V.str wd=V.str "line"∧b=[]∧t=[])→(V.str wd=V.str "bottom"∧t=[])→D.nx [some (.str x),some (.ref Tx),some (.ref Ll),some (.ref Lb),some (.ref Lt),some (.int (n:Nat)),some (.str r),some (.str wd),some vr] (L2.upd H1 Lb (.lst (vb++[vr]))))
    (kT:¬ (V.str wd=V.str "line"∧b=[]∧t=[])→¬ (V.str wd=V.str "bottom"∧t=[])→V.str wd=V.str "thread"→D.nx [some (.str x),some (.ref Tx),some (.ref Ll),some (.ref Lb),some (.ref Lt),some (.int (n:Nat)),some (.str r),some (.str wd),some vr] (L2.upd H1 Lt (.lst (vt++[vr]))))
    (kN:¬ (V.str wd=V.str "line"∧b=[]∧t=[])→¬ (V.str wd=V.str "bottom"∧t=[])→¬ V.str wd=V.str "thread"→∀ dx,H1 dx=none→E (.ref ad.c_BadRows) (some dx) (L2.upd H1 dx (xdOf "row" (n:Nat)))) :
    tRowD K ad E D [some (.str x),some (.ref Tx),some (.ref Ll),some (.ref Lb),some (.ref Lt),some (.int (n:Nat)),some (.str r),some (.str wd),some vr] H1:=by
  have z:=szL
  have lvl:=w.dl.length
  have lvb:=w.db.length
  have lvt:=w.dt.length
  have h1:=w.ll
  have h2:=w.lb
  have h3:=w.lt
  have second:¬ (V.str wd=V.str "line"∧b=[]∧t=[])→tSeq (tIfS (tAnd (tTest (tOp rEq (tVar 7) (tC (V.str "bottom")))) (tNot (tTruth K (tVar 4)))) (tSeq (tDrop (tBM K "list" rAppend (tVar 3) (tCons (tVar 8) (tNil)))) (tNext)) (tSeq (tIfS (tTest (tOp rEq (tVar 7) (tC (V.str "thread")))) (tSeq (tDrop (tBM K "list" rAppend (tVar 4) (tCons (tVar 8) (tNil)))) (tNext)) (tSeq (tRaiseF ad.c_BadRows "row" (tVar 5) E) (tNext))) (tNext))) (tNext) D [some (.str x),some (.ref Tx),some (.ref Ll),some (.ref Lb),some (.ref Lt),some (.int (n:Nat)),some (.str r),some (.str wd),some vr] H1:=by
    intro nL
    have third:¬ (V.str wd=V.str "bottom"∧t=[])→tSeq (tIfS (tTest (tOp rEq (tVar 7) (tC (V.str "thread")))) (tSeq (tDrop (tBM K "list" rAppend (tVar 4) (tCons (tVar 8) (tNil)))) (tNext)) (tSeq (tRaiseF ad.c_BadRows "row" (tVar 5) E) (tNext))) (tNext) D [some (.str x),some (.ref Tx),some (.ref Ll),some (.ref Lb),some (.ref Lt),some (.int (n:Nat)),some (.str r),some (.str wd),some vr] H1:=by
      intro nB
      refine⟨_,rfl,rfl,_,rfl,?_⟩
      by_cases c3:V.str wd=V.str "thread"
      · exact ifT c3 ⟨.ref Lt,rfl,.inl ⟨rfl,_,.of w.ht⟩,vr,rfl,Lt,vt,vr,rfl,rfl,w.ht,by omega,kT nL nB c3⟩
      · exact ifF c3 ⟨_,rfl,(n:Nat),rfl,log_nat hn,kN nL nB c3⟩
    refine⟨_,rfl,rfl,_,rfl,?_⟩
    by_cases c2:V.str wd=V.str "bottom"
    · refine ifT c2 ⟨.ref Lt,rfl,_,tru_lst w.ht rfl,?_⟩
      rw[emp_b w.dt]
      by_cases t0:t=[]
      · rw[decide_eq_false (fun h=>h t0)]
        exact iteT ⟨.ref Lb,rfl,.inl ⟨rfl,_,.of w.hb⟩,vr,rfl,Lb,vb,vr,rfl,rfl,w.hb,by omega,kB nL ⟨c2,t0⟩⟩
      · rw[decide_eq_true t0]
        exact iteF (third fun h=>t0 h.2)
    · exact ifF c2 (iteF (third fun h=>c2 h.1))
  refine⟨_,rfl,rfl,_,rfl,?_⟩
  by_cases c1:V.str wd=V.str "line"
  · refine ifT c1 ⟨.ref Lb,rfl,_,tru_lst w.hb rfl,?_⟩
    rw[emp_b w.db]
    by_cases b0:b=[]
    · rw[decide_eq_false (fun h=>h b0)]
      refine iteT ⟨.ref Lt,rfl,_,tru_lst w.ht rfl,?_⟩
      rw[emp_b w.dt]
      by_cases t0:t=[]
      · rw[decide_eq_false (fun h=>h t0)]
        exact iteT ⟨.ref Ll,rfl,.inl ⟨rfl,_,.of w.hl⟩,vr,rfl,Ll,vl,vr,rfl,rfl,w.hl,by omega,kL ⟨c1,b0,t0⟩⟩
      · rw[decide_eq_true t0]
        exact iteF (second fun h=>t0 h.2.2)
    · rw[decide_eq_true b0]
      exact iteF (iteF (second fun h=>b0 h.2.1))
  · exact ifF c1 (iteF (second fun h=>c1 h.1))
theorem rd_Zt (T:Txt Pg w K mg base ad):∀ vs H Q E,spReadD K ad.c_BadRows vs H Q E→t_Zt Pg w K ad (spLinesD K) (spBottomsD K) (spThreadsD K) (spThereD K) (spInitD K ad.c_Plan) (spRowR K) E { nx:=fun _ H'=>Q .non H',rt:=Q } (start ns_Zt vs) H:=by
  rintro vs H Q E ⟨v,d,rfl,h,q⟩
  have z:=szL
  refine⟨_,rfl,v,tyS (tyD d),tyS 3,_,rfl,h.ty,kit_tab _ 3 (by have:=h.nodict;omega) (by decide) (by decide),_,rfl,?_⟩
  rcases q with ⟨e,q⟩ | ⟨x,rfl,hx,q⟩
  · rw[e]
    exact iteT ⟨0,rfl,log_nat (n:=0) (by decide),fun dx hdx=>q H dx (.refl _) hdx⟩
  · cases h
    refine iteF ?_
    refine⟨_,rfl,rfl,x,"\n",rfl,rfl,by decide +kernel,by omega,fun Tx hTx=>?_⟩
    rw[split_f (y:="\n") (S:=[10]) (by decide +kernel) (by simp) (by decide +kernel)]
    have rl:=fsplit_len [10] x
    have r1:1≤(fsplit [10] x).length:=by obtain⟨a,b,e⟩:=fsplit_pos [10] x;rw[e];exact Nat.succ_le_succ (Nat.zero_le _)
    generalize fsplit [10] x=rows at *
    have s1:=same_new (G:=H) (o:=.lst (rows.map V.str)) hTx
    refine⟨Nat.zero_le _,fun Ll hLl=>⟨Nat.zero_le _,fun Lb hLb=>⟨Nat.zero_le _,fun Lt hLt=>?_⟩⟩⟩
    have s2:=same_new (o:=.lst []) hLl
    have s3:=same_new (o:=.lst []) hLb
    have s4:=same_new (o:=.lst []) hLt
    have n1:Ll≠Tx:=fun z=>by subst z;rw[upd_same] at hLl;cases hLl
    have n2:Lb≠Tx:=fun z=>by subst z;rw[s2 _ _ upd_same] at hLb;cases hLb
    have n3:Lt≠Tx:=fun z=>by subst z;rw[s3 _ _ (s2 _ _ upd_same)] at hLt;cases hLt
    have n4:Lb≠Ll:=fun z=>by subst z;rw[upd_same] at hLb;cases hLb
    have n5:Lt≠Ll:=fun z=>by subst z;rw[s3 _ _ upd_same] at hLt;cases hLt
    have n6:Lt≠Lb:=fun z=>by subst z;rw[upd_same] at hLt;cases hLt
    have four:Four H Tx Ll Lb Lt:=⟨hTx,s1.free hLl,s1.free (s2.free hLb),s1.free (s2.free (s3.free hLt)),n1,n2,n3,n4,n5,n6⟩
    have s14:=s1.trans (s2.trans (s3.trans s4))
    have w0:WRD K ad x rows Tx Ll Lb Lt H Q E 0 [some (.str x),some (.ref Tx),some (.ref Ll),some (.ref Lb),some (.ref Lt),none,none,none,none] (L2.upd (L2.upd (L2.upd (L2.upd H Tx (.lst (rows.map V.str))) Ll (.lst [])) Lb (.lst [])) Lt (.lst [])) H [] [] [] [] [] [] :=
      ⟨⟨_,_,_,_,rfl⟩,s14,s4 _ _ (s3 _ _ (s2 _ _ upd_same)),⟨s14,s4 _ _ (s3 _ _ upd_same),s4 _ _ upd_same,upd_same,.nil,.nil,.nil,by simp,by simp,by simp,rfl,rfl,rfl⟩,four.b,four.c,four.d,q,.inl ⟨rfl,rfl,rfl,rfl⟩⟩
    refine⟨.ref Tx,rfl,Tx,_,rfl,.of w0.tx,?_⟩
    refine⟨fun i m σ H'=>i+m=rows.length∧∃ G1 l b t vl vb vt,WRD K ad x rows Tx Ll Lb Lt H Q E i σ H' G1 l b t vl vb vt,⟨rows.length,by omega,H,[],[],[],[],[],[],w0⟩,?_⟩
    rintro i m σ H1 ⟨em,G1,l,b,t,vl,vb,vt,wr⟩
    by_cases hi:i < rows.length
    · obtain⟨t5,t6,t7,t8,eσ⟩:=wr.σ
      subst eσ
      obtain⟨r,hr⟩:∃ r,rows[i]?=some r:=⟨rows[i],by simp[hi]⟩
      have hrow:(rows.map V.str)[i]?=some (.str r):=by rw[List.getElem?_map,hr];rfl
      refine .inr ⟨⟨_,.str r,.of wr.tx,hrow⟩,fun σ' H''=>∃ G1 l b t vl vb vt,WRD K ad x rows Tx Ll Lb Lt H Q E (i+1) σ' H'' G1 l b t vl vb vt,fun σ' H'' h=>⟨m-1,by omega,by omega,h⟩,?_⟩
      rintro x' H' ⟨Tp',y,rfl,hT,rfl,hy⟩
      have hy:=hy _ (.of wr.tx)
      rw[hrow] at hy
      cases hy
      have sT:=same_new (o:=.tup [.int (i:Nat),.str r]) hT
      refine⟨Tp',_,rfl,.of upd_same,rfl,_,_,rfl,_,_,rfl,rfl,?_⟩
      have dr:rows.drop i=r :: rows.drop (i+1):=by
        rw[List.drop_eq_getElem_cons hi]
        rw[List.getElem?_eq_getElem hi] at hr
        rw[Option.some.inj hr]
      have q:=wr.q
      rw[dr,goR] at q
      by_cases fit:r.length < 900∧fitD (toldQ r)=true
      case neg =>
        rw[if_neg fit] at q
        exact q.elim
      rw[if_pos fit] at q
      have w:=wr.w
      refine⟨_,rfl,r,G1,rfl,fit.1,w.e.trans sT,fun P vr G2 H2 s2' g2 hP dv=>⟨P,_,rfl,.of hP,rfl,_,_,rfl,_,_,rfl,rfl,?_⟩⟩
      have sH2:=sT.trans s2'
      have gl2:=g2.none wr.gl (sT _ _ w.hl)
      have gb2:=g2.none wr.gb (sT _ _ w.hb)
      have gt2:=g2.none wr.gt (sT _ _ w.ht)
      have w2:=lbt_push w sH2 g2.up g2.le
      have tx2:=sH2 _ _ wr.tx
      have sHH:=wr.s.trans sH2
      have lvl:=w2.dl.length
      have lvb:=w2.db.length
      have lvt:=w2.dt.length
      have in_:i < 1048576:=by omega
      have lens:l.length≤5∧b.length≤5∧t.length≤5:=by
        rcases wr.ok with ⟨_,rfl,rfl,rfl⟩ | ok
        · exact⟨by simp,by simp,by simp⟩
        · simp only[Bool.and_eq_true] at ok
          have:=lines_inv ok.1
          have:=bottoms_inv ok.2.1
          have:=threads_inv ok.2.2
          omega
      generalize toldQ r=td at *
      generalize wat (wordsQ r) 0=wd at *
      have app:∀ {L:Addr} {vs:List V},(L=Ll∨L=Lb∨L=Lt)→Same H (L2.upd H2 L (.lst (vs++[vr]))):=fun hL=>push3 four hL sHH
      have gng:∀ {l' b' t':List PyData} {H3:Hp} {vl' vb' vt':List V} (wp:LBT K Ll Lb Lt G2 H3 l' b' t' vl' vb' vt') (sP:Same H H3) (tx3:H3 Tx=some (.lst (rows.map V.str))) (q:AnsOk ad.c_BadRows H Q E (if (linesD l' && (bottomsD b' && threadsD t'))=true then goR (i+1) (rows.drop (i+1)) l' b' t' else .bad i)),
          tAsksD K ad E { nx:=fun σ' H''=>∃ G1 l b t vl vb vt,WRD K ad x rows Tx Ll Lb Lt H Q E (i+1) σ' H'' G1 l b t vl vb vt,rt:=Q,ct:=fun σ' H''=>∃ G1 l b t vl vb vt,WRD K ad x rows Tx Ll Lb Lt H Q E (i+1) σ' H'' G1 l b t vl vb vt,bk:=tSeq (tIfS (tNot (L2.tB (tCall (spThereD K) [] E0 (tCons (tVar 2) (tCons (tVar 3) (tCons (tVar 4) (tNil))))))) (tSeq (tRaiseF ad.c_BadRows "row" (tCB (rLenSq K) (tCons (tVar 1) (tNil))) E) (tNext)) (tNext)) (tSeq (tRet (tMakeK ad.c_Plan (spInitD K ad.c_Plan) (gOf .non [] y_Zd_0) E0 (tCons (tVar 2) (tNil)) (tCons (tVar 3) (tCons (tVar 4) (tNil))))) (tNext)) { nx:=fun _ H'=>Q .non H',rt:=Q } } [some (.str x),some (.ref Tx),some (.ref Ll),some (.ref Lb),some (.ref Lt),some (.int (i:Nat)),some (.str r),some (.str wd),some vr] H3:=fun wp sP tx3 q =>
        rd_asksD wp in_ (q.up sP) fun c H4 s4 _=>⟨G2,_,_,_,_,_,_,⟨⟨_,_,_,_,rfl⟩,sP.trans s4,s4 _ _ tx3,lbt_push wp s4 (.refl _) (wp.e.trans s4),gl2,gb2,gt2,by rw[if_pos c] at q;exact q,.inr c⟩⟩
      refine rd_row w2 in_ (fun c=>?_) (fun nL c=>?_) (fun nL nB c=>?_) (fun nL nB nT dx hdx=>?_)
      · rw[if_pos c] at q
        exact gng ⟨same_off w2.e gl2,upd_same,by rw[upd_ne n4];exact w2.hb,by rw[upd_ne n5];exact w2.ht,w2.dl.app (.cons dv .nil),w2.db,w2.dt,by rw[List.length_append,List.length_singleton];omega,w2.lb,w2.lt,fitDs_app w2.fl fit.2,w2.fb,w2.ft⟩ (app (.inl rfl)) (by rw[upd_ne (Ne.symm n1)];exact tx2) q
      · rw[if_neg nL,if_pos c] at q
        exact gng ⟨same_off w2.e gb2,by rw[upd_ne (Ne.symm n4)];exact w2.hl,upd_same,by rw[upd_ne n6];exact w2.ht,w2.dl,w2.db.app (.cons dv .nil),w2.dt,w2.ll,by rw[List.length_append,List.length_singleton];omega,w2.lt,w2.fl,fitDs_app w2.fb fit.2,w2.ft⟩ (app (.inr (.inl rfl))) (by rw[upd_ne (Ne.symm n2)];exact tx2) q
      · rw[if_neg nL,if_neg nB,if_pos c] at q
        exact gng ⟨same_off w2.e gt2,by rw[upd_ne (Ne.symm n5)];exact w2.hl,by rw[upd_ne (Ne.symm n6)];exact w2.hb,upd_same,w2.dl,w2.db,w2.dt.app (.cons dv .nil),w2.ll,w2.lb,by rw[List.length_append,List.length_singleton];omega,w2.fl,w2.fb,fitDs_app w2.ft fit.2⟩ (app (.inr (.inr rfl))) (by rw[upd_ne (Ne.symm n3)];exact tx2) q
      · rw[if_neg nL,if_neg nB,if_neg nT] at q
        exact q H2 dx sHH hdx
    · have ei:i=rows.length:=by omega
      obtain⟨t5,t6,t7,t8,eσ⟩:=wr.σ
      refine .inl ⟨⟨_,.of wr.tx,by rw[List.length_map];omega⟩,?_⟩
      exact read_end T wr ei (by omega) (by omega)
theorem f_Zt (T:Txt Pg w K mg base ad):FnOk Pg w K mg base (CXF Pg w) (14+1) ad.a_Zt ad.d_Zt ps_Zt (spReadD K ad.c_BadRows) :=
  ok_Zt T (f_Zf T) (f_Z7 T) (f_Z8 T) (f_Ze T) (f_Zd T) (f_Zn T) (fun vs H Q E ⟨_,_,e,_⟩=>by rw[e];rfl) (rd_Zt T)
end
section
def ansI:Ans→Option Int
  | .bad n=>some (n:Nat)
  | .good=>some (-1)
  | .huge=>none
def rowAns:PyData→Option Int
  | .str x=>if x.length≤100000 then ansI (goR 0 (fsplit [10] x) [] [] []) else none
  | _=>some 0
section
variable {Pg:Program} {w:World} {K:W.Frag} {mg:Str→Option Value} {base:Heap} {ad:Ad}
def spLRow (K:W.Frag):Sp:=fun vs H Q _=>∃ v d a,vs=[v]∧Dq K H v d∧rowAns d=some a∧∀ H',Same H H'→Q (.int a) H'
theorem rd_Z4 (T:Txt Pg w K mg base ad):∀ vs H Q E,spLRow K vs H Q E→t_Z4 Pg w K ad (spReadD K ad.c_BadRows) { nx:=fun _ H'=>Q .non H',rt:=Q } (start ns_Z4 vs) H:=by
  rintro vs H Q E ⟨v,d,a,rfl,h,ea,q⟩
  have caught:∀ (n:Nat) (H1:Hp) (dx:Addr),a=(n:Nat)→Same H H1→H1 dx=none→(fun (Cv:Value) (dv:Option Addr) (H2:Hp)=>W.exmOne K Cv (.ref ad.c_KnockError)=some true∧∀ x C,Cv=.ref C→H2 x=none→(tSeq (tRet (tIf (tAnd (L2.tB (tCB (rIsiD K) (tCons (tVar 1) (tCons (tC (V.ref ad.c_BadRows)) tNil)))) (L2.tB (tCB (rIsiD K) (tCons (tVar 1) (tCons (tC (V.ty "ValueError")) tNil))))) (tFldD K (tVar 1) "row") (tUn (rU fun i=>.int (-i)) (tC (V.int 2))))) (tNext)) ⟨fun _ _=>False,Q,fun _ _=>False,fun _ _=>False⟩ ([some v,none].set 1 (some (.ref x))) (L2.upd H2 x (ErrD x C dv))) (.ref ad.c_BadRows) (some dx) (L2.upd H1 dx (xdOf "row" (n:Nat))):=by
    intro n H1 dx en s1 hdx
    subst en
    refine⟨T.exm_BadRows,fun x C eC hx=>?_⟩
    cases eC
    have nx:dx≠x:=fun z=>by subst z;rw[upd_same] at hx;cases hx
    refine⟨_,rfl,⟨x,ad.c_BadRows,some dx,.ref ad.c_BadRows,.ref ad.c_BadRows,true,rfl,fun u hu=>hu,upd_same,T.ise_BadRows,T.kit_BadRows_BadRows,_,rfl,iteT ?_⟩⟩
    refine⟨_,rfl,x,ad.c_BadRows,some dx,.ty "ValueError",.type "ValueError",true,rfl,fun u hu=>hu,upd_same,T.ise_BadRows,T.kiv_BadRows,_,rfl,iteT ?_⟩
    refine⟨.ref x,rfl,x,ad.c_BadRows,dx,[("row",.int (n:Nat))],(n:Nat),rfl,upd_same,by rw[upd_ne nx];exact upd_same,rfl,T.fle_BadRows,?_⟩
    exact q _ (s1.trans ((same_new hdx).trans (same_new hx)))
  refine⟨v,rfl,v,d,rfl,h,?_⟩
  have str:(∃ x,d=.str x)∨isB (tyD d) 3=false∧rowAns d=some 0:=by cases h <;> first | exact .inl ⟨_,rfl⟩ | exact .inr ⟨rfl,rfl⟩
  rcases str with ⟨x,rfl⟩ | ⟨e3,e0⟩
  · have ea:(if x.length≤100000 then ansI (goR 0 (fsplit [10] x) [] [] []) else none)=some a:=ea
    by_cases lx:x.length≤100000
    · rw[if_pos lx] at ea
      refine .inr ⟨x,rfl,lx,?_⟩
      cases eg:goR 0 (fsplit [10] x) [] [] [] with
      | bad n =>
        rw[eg] at ea
        cases ea
        exact fun H1 dx s1 hdx=>caught n H1 dx rfl s1 hdx
      | good =>
        rw[eg] at ea
        cases ea
        exact fun v' H' s'=>⟨1,rfl,q _ s'⟩
      | huge=>rw[eg] at ea;cases ea
    · rw[if_neg lx] at ea;cases ea
  · rw[e0] at ea
    cases ea
    exact .inl ⟨e3,fun H1 dx s1 hdx=>caught 0 H1 dx rfl s1 hdx⟩
theorem f_Z4 (T:Txt Pg w K mg base ad):FnOk Pg w K mg base CX0 (16+1) ad.a_Z4 ad.d_Z4 ps_Z4 (spLRow K) :=
  ok_Z4 T (f_Zt T) (fun vs H Q E ⟨_,_,_,e,_⟩=>by rw[e];rfl) (rd_Z4 T)
end
end
theorem go_end (n:Nat) (l b t:List PyData):goR (n+1) [] l b t≠.bad 0:=by
  rw[goR]
  split
  · split <;> exact fun h=>nomatch h
  · exact fun h=>by cases h
def stopB (l b t:List PyData) (x:Str):Bool:=match goR 0 [x] l b t with
  | .bad 0=>true
  | _=>false
theorem stop_bad {l b t:List PyData} {x:Str} (h:stopB l b t x=true) (n:Nat) (rest:List Str):goR n (x :: rest) l b t=.bad n:=by
  have h:goR 0 [x] l b t=.bad 0:=by
    unfold stopB at h
    split at h
    · next e=>exact e
    · cases h
  rw[goR] at h
  rw[goR]
  by_cases c0:x.length < 900∧fitD (toldQ x)=true
  · rw[if_pos c0] at h ⊢
    by_cases c1:V.str (wat (wordsQ x) 0)=V.str "line"∧b=[]∧t=[]
    · rw[if_pos c1] at h ⊢
      by_cases d:(linesD (l++[toldQ x]) && (bottomsD b && threadsD t))=true
      · rw[if_pos d] at h;exact absurd h (go_end _ _ _ _)
      · rw[if_neg d]
    · rw[if_neg c1] at h ⊢
      by_cases c2:V.str (wat (wordsQ x) 0)=V.str "bottom"∧t=[]
      · rw[if_pos c2] at h ⊢
        by_cases d:(linesD l && (bottomsD (b++[toldQ x]) && threadsD t))=true
        · rw[if_pos d] at h;exact absurd h (go_end _ _ _ _)
        · rw[if_neg d]
      · rw[if_neg c2] at h ⊢
        by_cases c3:V.str (wat (wordsQ x) 0)=V.str "thread"
        · rw[if_pos c3] at h ⊢
          by_cases d:(linesD l && (bottomsD b && threadsD (t++[toldQ x])))=true
          · rw[if_pos d] at h;exact absurd h (go_end _ _ _ _)
          · rw[if_neg d]
        · rw[if_neg c3]
  · rw[if_neg c0] at h;cases h
theorem goL {n:Nat} {x:Str} {rest:List Str} {l b t:List PyData} (h0:x.length < 900∧fitD (toldQ x)=true) (h1:V.str (wat (wordsQ x) 0)=V.str "line"∧b=[]∧t=[]) (h:(linesD (l++[toldQ x]) && (bottomsD b && threadsD t))=true):goR n (x :: rest) l b t=goR (n+1) rest (l++[toldQ x]) b t:=by
  rw[goR,if_pos h0,if_pos h1,if_pos h]
theorem goB {n:Nat} {x:Str} {rest:List Str} {l b t:List PyData} (h0:x.length < 900∧fitD (toldQ x)=true) (h1:¬ V.str (wat (wordsQ x) 0)=V.str "line") (h2:V.str (wat (wordsQ x) 0)=V.str "bottom"∧t=[]) (h:(linesD l && (bottomsD (b++[toldQ x]) && threadsD t))=true):goR n (x :: rest) l b t=goR (n+1) rest l (b++[toldQ x]) t:=by
  rw[goR,if_pos h0,if_neg (fun z=>h1 z.1),if_pos h2,if_pos h]
theorem goT {n:Nat} {x:Str} {rest:List Str} {l b t:List PyData} (h0:x.length < 900∧fitD (toldQ x)=true) (h1:¬ V.str (wat (wordsQ x) 0)=V.str "line") (h2:¬ V.str (wat (wordsQ x) 0)=V.str "bottom") (h3:V.str (wat (wordsQ x) 0)=V.str "thread") (h:(linesD l && (bottomsD b && threadsD (t++[toldQ x])))=true):goR n (x :: rest) l b t=goR (n+1) rest l b (t++[toldQ x]):=by
  rw[goR,if_pos h0,if_neg (fun z=>h1 z.1),if_neg (fun z=>h2 z.1),if_pos h3,if_pos h]
def rL1:Str:="line a 5 up 3 10 20: run 1, answer a"
def rL2:Str:="line b 6 latched 9 60 60: mask, run 9, open, later b, wake t"
def rO1:Str:="bottom b: run 2, answer b"
def rO2:Str:="thread t 3: run 1, later b"
def badA:List Str:=[""," ","line","line e","line e 1 up 1 1 1","line e 1 up 1 1 1:","line e 1 up 1 1 1: ","line e 1 up 1 1 1 run 1","Line e 1 up 1 1 1: run 1","line e 1 up 1 1 1:run 1","line  e 1 up 1 1 1: run 1"," line e 1 up 1 1 1: run 1","line e 1 up 1 1: run 1","line e 1 up 1 1 1 1: run 1","line e 1 down 1 1 1: run 1","line e 1 True 1 1 1: run 1","line e 0 up 1 1 1: run 1","line e 100 up 1 1 1: run 1","line e 01 up 1 1 1: run 1","line e -1 up 1 1 1: run 1","line e 1 up 0 1 1: run 1","line e 1 up 10 1 1: run 1","line e 1 up 1 0 1: run 1","line e 1 up 1 61 1: run 1","line e 1 up 1 1 0: run 1","line e 1 up 1 1 61: run 1","line E 1 up 1 1 1: run 1","line abcdefghi 1 up 1 1 1: run 1"]
def badB:List Str:=["line e 1 up 1 1 1: run 0","line e 1 up 1 1 1: run 10","line e 1 up 1 1 1: run 01","line e 1 up 1 1 1: run","line e 1 up 1 1 1: run 1 1","line e 1 up 1 1 1: run  1","line e 1 up 1 1 1: run 1,","line e 1 up 1 1 1: run 1 ","line e 1 up 1 1 1: run 1,run 1","line e 1 up 1 1 1: run 1,  run 1","line e 1 up 1 1 1: mask","line e 1 up 1 1 1: open","line e 1 up 1 1 1: open, run 1","line e 1 up 1 1 1: mask 1, run 1","line e 1 up 1 1 1: mask, open, open, run 1","line e 1 up 1 1 1: run 1, open","line e 1 up 1 1 1: answer, run 1","line e 1 up 1 1 1: answer E, run 1","line e 1 up 1 1 1: jump a, run 1","line a 1 up 1 1 1: run 1","line e 5 up 1 1 1: run 1","line e 1 up 1 1 1: run 1: run 1","line e 1 up 1 1 1: run one","line e 1 up 1 1 1: run 1, run 1, run 1, run 1, run 1, run 1, run 1, run 1, run 1, run 1, run 1, run 1, run 1","run 1","bottom b","plan e 1 up 1 1 1: run 1"]
def badL:List Str:=badA++badB
def badO:List Str:=["bottom","bottom b: run 1","bottom e 1: run 1","bottom e:","bottom e: mask","bottom E: run 1","bottom e e: run 1","bottom e: run 1, later","thread","thread e: run 1","thread e 0: run 1","thread e 100: run 1","thread t 9: run 1","thread e 3: run 1","thread e 01: run 1","thread e 1 1: run 1","thread e 1: open, run 1","thread e 1: run 1, "]
def st1:List PyData:=[toldQ rL1]
def st2:List PyData:=[toldQ rL1,toldQ rL2]
theorem go1 (rest:List Str):goR 0 (rL1 :: rest) [] [] []=goR 1 rest st1 [] []:=goL (by decide +kernel) (by decide +kernel) (by decide +kernel)
theorem go2 (rest:List Str):goR 1 (rL2 :: rest) st1 [] []=goR 2 rest st2 [] []:=goL (by decide +kernel) (by decide +kernel) (by decide +kernel)
theorem go3 (rest:List Str):goR 2 (rO1 :: rest) st2 [] []=goR 3 rest st2 [toldQ rO1] []:=goB (by decide +kernel) (by decide +kernel) (by decide +kernel) (by decide +kernel)
theorem go4 (rest:List Str):goR 3 (rO2 :: rest) st2 [toldQ rO1] []=goR 4 rest st2 [toldQ rO1] [toldQ rO2]:=goT (by decide +kernel) (by decide +kernel) (by decide +kernel) (by decide +kernel) (by decide +kernel)
theorem badL_stop:(badL.all fun x=>stopB st1 [] [] x && stopB st2 [] [] x)=true:=by decide +kernel
theorem badO_stop:(badO.all fun x=>stopB st2 [toldQ rO1] [toldQ rO2] x)=true:=by decide +kernel
theorem bad_at1 {x:Str} (h:x∈badL) (rest:List Str):goR 0 (rL1 :: x :: rest) [] [] []=.bad 1:=by
  have:=List.all_eq_true.mp badL_stop x h
  rw[Bool.and_eq_true] at this
  rw[go1,stop_bad this.1]
theorem bad_at2 {x:Str} (h:x∈badL) (rest:List Str):goR 0 (rL1 :: rL2 :: x :: rest) [] [] []=.bad 2:=by
  have:=List.all_eq_true.mp badL_stop x h
  rw[Bool.and_eq_true] at this
  rw[go1,go2,stop_bad this.2]
theorem bad_at4 {x:Str} (h:x∈badO) (rest:List Str):goR 0 (rL1 :: rL2 :: rO1 :: rO2 :: x :: rest) [] [] []=.bad 4:=by
  have:=List.all_eq_true.mp badO_stop x h
  rw[go1,go2,go3,go4,stop_bad this]
theorem joinL_len (S:List Nat):∀ ps:List (List Nat),(joinL S ps).length≤(ps.map List.length).sum+ps.length * S.length
  | []=>Nat.zero_le _
  | [p]=>by simp[joinL]
  | p :: q :: r=>by
    have:=joinL_len S (q :: r)
    simp only[joinL,List.length_append,List.map_cons,List.sum_cons,List.length_cons] at this ⊢
    rw[Nat.add_mul,Nat.one_mul]
    simp only[Nat.add_mul,Nat.one_mul] at this ⊢
    omega
theorem tlj (y:Str) (ps:List Str):tl (Txt.join y ps)=joinL (tl y) (ps.map tl):=by rw[join_eq,tl_join]
theorem sum_le {α:Type} {f:α→Nat} {n:Nat}:∀ {l:List α},(∀ x∈l,f x≤n)→(l.map f).sum≤l.length * n
  | [],_=>by simp
  | a :: l,h=>by
    rw[List.map_cons,List.sum_cons,List.length_cons,Nat.add_mul,Nat.one_mul]
    have:=sum_le (l:=l) fun x hx=>h x (.tail _ hx)
    have:=h a (.head _)
    omega
theorem join_len {y:Str} {ps:List Str} {n k m:Nat} (hy:(tl y).length≤k) (h:∀ p∈ps,(tl p).length≤n) (hm:ps.length≤m):(tl (Txt.join y ps)).length≤m * (n+k):=by
  rw[tlj]
  have h1:=joinL_len (tl y) (ps.map tl)
  have h2:=sum_le (f:=List.length) (n:=n) (l:=ps.map tl) fun x hx=>by
    obtain⟨p,hp,rfl⟩:=List.mem_map.mp hx
    exact h p hp
  rw[List.length_map] at h1 h2
  have h3:ps.length * (tl y).length≤ps.length * k:=Nat.mul_le_mul_left _ hy
  have h4:ps.length * (n+k)≤m * (n+k):=Nat.mul_le_mul_right _ hm
  rw[Nat.mul_add] at h4
  omega
def rowB (x:Str):Bool:=decide (x.length≤300) && (tl x).all fun c=>decide (c≠10)
theorem row_join {rows:List Str} (h:rows.all rowB=true) (h1:rows≠[]) (h2:rows.length≤20):rowAns (.str (Txt.join "\n" rows))=ansI (goR 0 rows [] [] []):=by
  have hr:∀ p∈rows,(tl p).length≤300∧10∉tl p:=fun p hp=>by
    have:=List.all_eq_true.mp h p hp
    unfold rowB at this
    rw[Bool.and_eq_true,decide_eq_true_eq,len_tl,List.all_eq_true] at this
    exact⟨this.1,fun hm=>by have:=this.2 10 hm;simp at this⟩
  have len:=join_len (y:="\n") (k:=1) (n:=300) (m:=20) (show (tl "\n").length≤1 from by decide +kernel) (fun p hp=>(hr p hp).1) h2
  show (if (Txt.join "\n" rows).length≤100000 then ansI (goR 0 (fsplit [10] (Txt.join "\n" rows)) [] [] []) else none)=_
  rw[if_pos (by rw[len_tl];omega)]
  rw[← split_f (y:="\n") (S:=[10]) (by decide +kernel) (by simp) (by decide +kernel)]
  rw[split_join (y:="\n") (s:=10) (S:=[]) (by decide +kernel) (by decide +kernel) h1 fun p hp=>(hr p hp).2]
theorem badL_row:badL.all rowB=true:=by decide +kernel
theorem badO_row:badO.all rowB=true:=by decide +kernel
end
end G
namespace G
noncomputable section
open PySem PySem.Spec L2 Ev
section
variable {Pg:Program} {w:World} {K:W.Frag} {mg:Str→Option Value} {base:Heap} {ad:Ad}
def spCell (K:W.Frag):Sp:=fun vs H Q _=>∃ p,∃ is:List Int,∃ k:Int,vs=[.ref p,.int k]∧0≤k∧SqL K H p (is.map V.int)∧∀ i,Q (.int i) H
theorem rd_Zb:∀ vs H Q E,spCell K vs H Q E→t_Zb Pg w K ad { nx:=fun _ H'=>Q .non H',rt:=Q } (start ns_Zb vs) H:=by
  rintro vs H Q E ⟨p,is,k,rfl,hk,h,q⟩
  refine⟨.int k,rfl,.ref p,rfl,p,_,rfl,.inl h,_,_,rfl,rfl,_,rfl,?_⟩
  by_cases hlt:k < (is.map V.int).length
  · refine ifT hlt ?_
    obtain⟨n,rfl⟩:=Int.eq_ofNat_of_zero_le hk
    have hn:n < is.length:=by rw[List.length_map] at hlt;omega
    exact⟨.ref p,rfl,.int n,rfl,p,_,n,.int is[n],rfl,rfl,h,atI_nat (by rw[List.getElem?_map,List.getElem?_eq_getElem hn];rfl),q _⟩
  · exact ifF hlt (q _)
theorem f_Zb (T:Txt Pg w K mg base ad):FnOk Pg w K mg base CX0 (2+1) ad.a_Zb ad.d_Zb ps_Zb (spCell K) :=
  ok_Zb T (fun vs H Q E ⟨_,_,_,e,_⟩=>by rw[e];rfl) rd_Zb
abbrev prm:List Int:=[1000003,1000033,1000037,1000039,1000081,1000099,1000117,1000121,1000133,1000151,1000159,1000171,1000183,1000187,1000193,1000199]
theorem prm_at:∀ k:Nat,k < 16→∃ x,prm[k]?=some x∧0 < x:=by decide
def spDraw:Sp:=fun vs H Q _=>∃ c k m:Int,vs=[.int c,.int k,.int m]∧0≤k∧k < 16∧0 < m∧∀ i H',Same H H'→Q (.int i) H'
theorem rd_Zl:∀ vs H Q E,spDraw vs H Q E→t_Zl Pg w K ad { nx:=fun _ H'=>Q .non H',rt:=Q } (start ns_Zl vs) H:=by
  rintro vs H Q E ⟨c,k,m,rfl,h0,h1,hm,q⟩
  refine⟨(show 16≤sizeLine by decide),fun p hp=>?_⟩
  obtain⟨n,rfl⟩:=Int.eq_ofNat_of_zero_le h0
  obtain⟨x,hx,hx0⟩:=prm_at n (by omega)
  refine⟨.int c,rfl,c,48271,rfl,rfl,.inr ⟨by decide,by decide⟩,.int n,rfl,n,69621,rfl,rfl,.inr ⟨by decide,by decide⟩,_,_,rfl,rfl,.ref p,rfl,.int n,rfl,n,16,rfl,rfl,(show (0:Int) < 16 by decide),p,prm.map V.int,(n:Int) % 16,.int x,rfl,rfl,SqT.of L2.upd_same,?_,_,x,rfl,rfl,hx0,
    .int m,rfl,_,m,rfl,rfl,hm,q _ _ (same_new hp)⟩
  rw[Int.emod_eq_of_lt (by omega) (by omega)]
  exact atI_nat (by rw[List.getElem?_map,hx];rfl)
theorem f_Zl (T:Txt Pg w K mg base ad):FnOk Pg w K mg base CX0 (2+1) ad.a_Zl ad.d_Zl ps_Zl spDraw :=
  ok_Zl T (fun vs H Q E ⟨_,_,_,e,_⟩=>by rw[e];rfl) rd_Zl
def spNum:Sp:=fun vs H Q _=>∃ c k m:Int,vs=[.int c,.int k,.int m]∧0≤k∧k < 24∧0 < m∧∀ i H',0≤i→i < m→Same H H'→Q (.int i) H'
theorem rd_Zc:∀ vs H Q E,spNum vs H Q E→t_Zc Pg w K ad spDraw { nx:=fun _ H'=>Q .non H',rt:=Q } (start ns_Zc vs) H:=by
  rintro vs H Q E ⟨c,k,m,rfl,h0,h1,hm,q⟩
  refine⟨.int c,rfl,10,18,rfl,rfl,⟨by decide,by decide,by decide⟩,c,_,rfl,rfl,?_⟩
  have ek:k % 24=k:=Int.emod_eq_of_lt h0 h1
  refine⟨.int k,rfl,k,24,rfl,rfl,(show (0:Int) < 24 by decide),k % 24,rfl,by omega,by omega,?_⟩
  refine for_range (fun i σ H'=>H'=H∧∃ r t,σ=[some (.int c),some (.int k),some (.int m),some (.int r),t,none]) ⟨rfl,_,none,rfl⟩ ?_ ?_
  · rintro i σ H' hi ⟨rfl,r,t,rfl⟩
    exact⟨.int r,rfl,r,1009,rfl,rfl,⟨by decide,by decide⟩,rfl,_,_,rfl⟩
  · rintro σ H' ⟨rfl,r,t,rfl⟩
    refine⟨.int r,rfl,r,0,rfl,rfl,_,rfl,?_⟩
    by_cases hr:(0:Int) < r
    · exact ifT hr ⟨.int r,rfl,r,1009,rfl,rfl,(show (0:Int) < 1009 by decide),.int m,rfl,_,m,rfl,rfl,hm,q _ _ (Int.emod_nonneg _ (by omega)) (Int.emod_lt_of_pos _ hm) (.refl _)⟩
    · refine ifF hr ⟨.int c,rfl,c,1000003,rfl,rfl,(show (0:Int) < 1000003 by decide),?_⟩
      have s1:0≤c % 1000003:=Int.emod_nonneg _ (by decide)
      have s2:c % 1000003 < 1000003:=Int.emod_lt_of_pos _ (by decide)
      have k1:0≤k % 9:=Int.emod_nonneg _ (by decide)
      have k2:k % 9 < 9:=Int.emod_lt_of_pos _ (by decide)
      refine⟨.int (c % 1000003),rfl,.int k,rfl,977,k,rfl,rfl,.inl ⟨by decide,by decide⟩,_,_,rfl,rfl,.int (c % 1000003),rfl,.int k,rfl,31,k,rfl,rfl,.inl ⟨by decide,by decide⟩,_,_,rfl,rfl,_,_,rfl,rfl,_,_,rfl,rfl,.inl ⟨by omega,by omega⟩,.int k,rfl,k,9,rfl,rfl,(show (0:Int) < 9 by decide),_,_,rfl,rfl,?_⟩
      refine⟨_,_,999983,rfl,by omega,by omega,by decide,fun i H'' hs=>?_⟩
      exact⟨.int m,rfl,_,m,rfl,rfl,hm,q _ _ (Int.emod_nonneg _ (by omega)) (Int.emod_lt_of_pos _ hm) hs⟩
theorem f_Zc (T:Txt Pg w K mg base ad):FnOk Pg w K mg base CX0 (4+1) ad.a_Zc ad.d_Zc ps_Zc spNum :=
  ok_Zc T (f_Zl T) (fun vs H Q E ⟨_,_,_,e,_⟩=>by rw[e];rfl) rd_Zc
end
end
end G
namespace G
noncomputable section
open PySem PySem.Spec L2 Ev TL
section
variable {Pg:Program} {w:World} {K:W.Frag} {mg:Str→Option Value} {base:Heap} {ad:Ad}
def tStrs:List Str→TA
  | []=>tNil
  | s :: r=>tCons (tC (.str s)) (tStrs r)
theorem strs_rd:∀ {ts:List Str} {σ:L2.St} {H:Hp} {R:List V→Hp→Prop},R (ts.map V.str) H→tStrs ts σ H R
  | [],_,_,_,h=>h
  | s :: r,σ,H,R,h=>strs_rd (ts:=r) (R:=fun xs H2=>R (.str s :: xs) H2) h
def LS (σ:L2.St) (H0:Hp) (t:TE) (xs:List Str):Prop:=∀ H1 (Q:VK),Same H0 H1→(∀ a H2,Same H1 H2→H2 a=some (.lst (xs.map V.str))→Q (.ref a) H2)→t σ H1 Q
theorem ls_var {σ:L2.St} {H0:Hp} {i:Nat} {a:Addr} {xs:List Str} (hi:σ[i]?=some (some (.ref a))) (h:H0 a=some (.lst (xs.map V.str))):LS σ H0 (tVar i) xs:=fun H1 Q s q=>⟨_,hi,q a H1 (.refl _) (s _ _ h)⟩
theorem ls_lst {σ:L2.St} {H0:Hp} (ts:List Str) (hz:ts.length≤1000):LS σ H0 (tLst (tStrs ts)) ts:=fun H1 Q s q =>
  strs_rd (R:=fun xs H2=>xs.length≤sizeLine∧∀ p,H2 p=none→Q (.ref p) (L2.upd H2 p (.lst xs))) ⟨by have:=szL;rw[List.length_map];omega,fun p hp=>q p _ (same_new hp) upd_same⟩
theorem ls_one {σ:L2.St} {H0:Hp} {i:Nat} {x:Str} (hi:σ[i]?=some (some (.str x))):LS σ H0 (tLst (tCons (tVar i) tNil)) [x]:=fun H1 Q s q=>⟨_,hi,(show 1≤sizeLine by decide),fun p hp=>q p _ (same_new hp) upd_same⟩
theorem ls_two {σ:L2.St} {H0:Hp} {i j:Nat} {x y:Str} (hi:σ[i]?=some (some (.str x))) (hj:σ[j]?=some (some (.str y))):LS σ H0 (tLst (tCons (tVar i) (tCons (tVar j) tNil))) [x,y]:=fun H1 Q s q=>⟨_,hi,_,hj,(show 2≤sizeLine by decide),fun p hp=>q p _ (same_new hp) upd_same⟩
theorem ls_oneC {σ:L2.St} {H0:Hp} {i:Nat} {x y:Str} (hi:σ[i]?=some (some (.str x))):LS σ H0 (tLst (tCons (tVar i) (tCons (tC (.str y)) tNil))) [x,y]:=fun H1 Q s q=>⟨_,hi,(show 2≤sizeLine by decide),fun p hp=>q p _ (same_new hp) upd_same⟩
theorem ls_cat {σ:L2.St} {H0:Hp} {tx ty:TE} {xs ys:List Str} (hx:LS σ H0 tx xs) (hy:LS σ H0 ty ys) (l:xs.length+ys.length≤1000):LS σ H0 (tOp rCat tx ty) (xs++ys):=fun H1 Q s q =>
  hx H1 _ s fun a H2 s2 ha=>hy H2 _ (s.trans s2) fun b H3 s3 hb=>⟨a,b,_,_,rfl,rfl,s3 _ _ ha,hb,by have:=szL;rw[List.length_map,List.length_map];omega,fun p hp=>q p _ (s2.trans (s3.trans (same_new hp))) (by rw[List.map_append];exact upd_same)⟩
theorem six (n m:Nat) (d:Nat):HT.sIx n d (some (m:Int))=min m n:=HT.sIx_nat ..
theorem ls_to {σ:L2.St} {H0:Hp} {te:TE} {tn:TE} {n:Nat} {xs:List Str} (h:LS σ H0 te xs) (hn:∀ H1 (Q:VK),Q (.int (n:Nat)) H1→tn σ H1 Q):LS σ H0 (tSl (rSlL K) te tNoPart (tPart tn)) (xs.take n):=fun H1 Q s q =>
  h H1 _ s fun a H2 s2 ha=>hn H2 _ ⟨_,rfl,a,_,rfl,.of ha,fun p hp=>q p _ (s2.trans (same_new hp)) (by
    rw[upd_same]
    unfold cutV
    rw[six]
    show some (HO.lst ((List.drop 0 _).take (min n _-0)))=_
    rw[List.drop_zero,Nat.sub_zero,List.map_take,Nat.min_comm,← List.take_take]
    rw[List.take_of_length_le (by rw[List.length_take];exact Nat.min_le_right _ _)])⟩
theorem ls_from {σ:L2.St} {H0:Hp} {te:TE} {tn:TE} {n:Nat} {xs:List Str} (h:LS σ H0 te xs) (hn:∀ H1 (Q:VK),Q (.int (n:Nat)) H1→tn σ H1 Q) (hl:n≤xs.length):LS σ H0 (tSl (rSlL K) te (tPart tn) tNoPart) (xs.drop n):=fun H1 Q s q =>
  h H1 _ s fun a H2 s2 ha=>hn H2 _ ⟨_,rfl,a,_,rfl,.of ha,fun p hp=>q p _ (s2.trans (same_new hp)) (by
    rw[upd_same]
    unfold cutV
    rw[six]
    show some (HO.lst ((List.drop (min n _) _).take ((xs.map V.str).length-min n _)))=_
    rw[Nat.min_eq_left (by rw[List.length_map];exact hl),List.map_drop,List.take_of_length_le (by rw[List.length_drop];exact Nat.le_refl _)])⟩
theorem ls_rev {σ:L2.St} {H0:Hp} {te:TE} {xs:List Str} (h:LS σ H0 te xs):LS σ H0 (tRevSl K te (tPart (tUn (rU fun i=>.int (-i)) (tC (V.int 1))))) xs.reverse:=fun H1 Q s q =>
  h H1 _ s fun a H2 s2 ha=>⟨1,rfl,_,rfl,rfl,a,_,rfl,.of ha,fun p hp=>q p _ (s2.trans (same_new hp)) (by rw[List.map_reverse];exact upd_same)⟩
theorem asg_cat {acc:List Str} (ts:List Str) {a:Addr} {H:Hp} {D:Ends} (h:H a=some (.lst (acc.map V.str))) (l:acc.length+ts.length≤1000) (k:∀ a' H',Same H H'→H' a'=some (.lst ((acc++ts).map V.str))→D.nx [some (.ref a')] H'):tAsg (tOp rCat (tVar 0) (tLst (tStrs ts))) (gName 0) D [some (.ref a)] H :=
  ls_cat (ls_var rfl h) (ls_lst ts (by omega)) l H _ (.refl _) k
theorem asg_set (ts:List Str) {H:Hp} {D:Ends} (l:ts.length≤1000) (k:∀ a' H',Same H H'→H' a'=some (.lst (ts.map V.str))→D.nx [some (.ref a')] H'):tAsg (tLst (tStrs ts)) (gName 0) D [none] H :=
  ls_lst ts l H _ (.refl _) k
def spListL (ls:List Str):Sp:=fun vs H Q _=>vs=[]∧∀ a H',Same H H'→H' a=some (.lst (ls.map V.str))→Q (.ref a) H'
theorem rd_Z2:∀ vs H Q E,spListL badO vs H Q E→t_Z2 Pg w K ad { nx:=fun _ H'=>Q .non H',rt:=Q } (start ns_Z2 vs) H:=by
  rintro vs H Q E ⟨rfl,q⟩
  dsimp only [t_Z2,tSeq,tRet]
  refine asg_set ["bottom","bottom b: run 1","bottom e 1: run 1","bottom e:"] (by decide) fun a0 H0 s0 h0=>?_
  refine asg_cat ["bottom e: mask","bottom E: run 1","bottom e e: run 1"] h0 (by decide) fun a1 H1 s1 h1=>?_
  refine asg_cat ["bottom e: run 1, later","thread","thread e: run 1","thread e 0: run 1"] h1 (by decide) fun a2 H2 s2 h2=>?_
  refine asg_cat ["thread e 100: run 1","thread t 9: run 1"] h2 (by decide) fun a3 H3 s3 h3=>?_
  refine asg_cat ["thread e 3: run 1","thread e 01: run 1","thread e 1 1: run 1"] h3 (by decide) fun a4 H4 s4 h4=>?_
  exact ls_cat (ls_var rfl h4) (ls_lst ["thread e 1: open, run 1","thread e 1: run 1, "] (by decide)) (by decide) _ _ (.refl _) fun a H' s' h'=>q a H' (s0.trans ((s1.trans (s2.trans (s3.trans (s4.trans s')))))) h'
theorem f_Z2 (T:Txt Pg w K mg base ad):FnOk Pg w K mg base CX0 (2+1) ad.a_Z2 ad.d_Z2 ps_Z2 (spListL badO) :=
  ok_Z2 T (fun vs H Q E ⟨e,_⟩=>by rw[e];rfl) rd_Z2
end
section
variable {Pg:Program} {w:World} {K:W.Frag} {mg:Str→Option Value} {base:Heap} {ad:Ad}
theorem asg_catF {acc:List Str} (ts:List Str) {a:Addr} {H:Hp} {D:Ends} (h:H a=some (.lst (acc.map V.str))) (l:acc.length+ts.length≤1000) (k:∀ a' H',Same H H'→H a'=none→H' a'=some (.lst ((acc++ts).map V.str))→D.nx [some (.ref a')] H'):tAsg (tOp rCat (tVar 0) (tLst (tStrs ts))) (gName 0) D [some (.ref a)] H:=by
  have z:=szL
  refine⟨_,rfl,strs_rd (ts:=ts) ⟨by rw[List.length_map];omega,fun p hp=>⟨a,p,_,_,rfl,rfl,(same_new hp) _ _ h,upd_same,by rw[List.length_map,List.length_map];omega,fun p2 hp2=>?_⟩⟩⟩
  exact k p2 _ ((same_new hp).trans (same_new hp2)) ((same_new hp).free hp2) (by rw[List.map_append];exact upd_same)
theorem app_one {acc:List Str} (x:Str) {a:Addr} {H0 H:Hp} {D:Ends} (s:Same H0 H) (f:H0 a=none) (h:H a=some (.lst (acc.map V.str))) (l:acc.length≤1000) (k:∀ H',Same H0 H'→H' a=some (.lst ((acc++[x]).map V.str))→D.nx [some (.ref a)] H'):tDrop (tBM K "list" rAppend (tVar 0) (tCons (tC (.str x)) tNil)) D [some (.ref a)] H:=by
  have z:=szL
  refine⟨_,rfl,.inl ⟨rfl,_,.of h⟩,a,_,_,rfl,rfl,h,by rw[List.length_map];omega,k _ (fun b o hb=>?_) (by rw[List.map_append];exact upd_same)⟩
  rw[upd_ne (fun z=>by subst z;rw[f] at hb;cases hb)]
  exact s _ _ hb
def r13:Str:=("line e 1 up 1 1 1: ":Str)++Txt.join ", " (List.replicate 13 ("run 1":Str))
theorem e13:r13="line e 1 up 1 1 1: run 1, run 1, run 1, run 1, run 1, run 1, run 1, run 1, run 1, run 1, run 1, run 1, run 1":=by
  refine ext_tl ?_
  unfold r13
  rw[tl_append,tlj]
  decide +kernel
theorem ls_last {σ:L2.St} {H0:Hp}:LS σ H0 (tLst (tCons (tOp rAdS (tC (V.str "line e 1 up 1 1 1: ")) (tBM K "str" (rJoin K) (tC (V.str ", ")) (tCons (tOp rRep (tLst (tCons (tC (V.str "run 1")) (tNil))) (tC (V.int 13))) (tNil)))) (tCons (tC (V.str "run 1")) (tCons (tC (V.str "bottom b")) (tCons (tC (V.str "plan e 1 up 1 1 1: run 1")) (tNil)))))) [r13,"run 1","bottom b","plan e 1 up 1 1 1: run 1"]:=fun H1 Q s q=>by
  have z:=szL
  refine⟨rfl,(show 1≤sizeLine by decide),fun l hl=>⟨l,13,[.str "run 1"],rfl,rfl,upd_same,by decide,by decide,(show 1 * 13≤sizeLine by decide),fun p hp=>⟨", ",p,List.replicate 13 ("run 1":Str),rfl,rfl,.inl (.of upd_same),by decide +kernel,_,_,rfl,rfl,?_,(show 4≤sizeLine by decide),fun p2 hp2=>q p2 _ ((same_new hl).trans ((same_new hp).trans (same_new hp2))) upd_same⟩⟩⟩
  have:=join_len (y:=", ") (ps:=List.replicate 13 ("run 1":Str)) (k:=2) (n:=5) (m:=13) (by decide +kernel) (fun p hp=>by rw[List.eq_of_mem_replicate hp];decide +kernel) (by decide)
  rw[← len_tl] at this
  have e:("line e 1 up 1 1 1: ":Str).length=19:=by decide +kernel
  rw[e]
  omega
theorem rd_Z0:∀ vs H Q E,spListL badL vs H Q E→t_Z0 Pg w K ad { nx:=fun _ H'=>Q .non H',rt:=Q } (start ns_Z0 vs) H:=by
  rintro vs H Q E ⟨rfl,q⟩
  dsimp only [t_Z0,tSeq,tRet]
  refine asg_set [""," ","line","line e","line e 1 up 1 1 1","line e 1 up 1 1 1:"] (by decide) fun a0 H0 s0 h0=>?_
  refine asg_cat ["line e 1 up 1 1 1: ","line e 1 up 1 1 1 run 1"] h0 (by decide) fun a1 H1 s1 h1=>?_
  refine asg_cat ["Line e 1 up 1 1 1: run 1","line e 1 up 1 1 1:run 1"] h1 (by decide) fun a2 H2 s2 h2=>?_
  refine asg_cat ["line  e 1 up 1 1 1: run 1"," line e 1 up 1 1 1: run 1"] h2 (by decide) fun a3 H3 s3 h3=>?_
  refine asg_cat ["line e 1 up 1 1: run 1","line e 1 up 1 1 1 1: run 1"] h3 (by decide) fun a4 H4 s4 h4=>?_
  refine asg_cat ["line e 1 down 1 1 1: run 1","line e 1 True 1 1 1: run 1"] h4 (by decide) fun a5 H5 s5 h5=>?_
  refine asg_cat ["line e 0 up 1 1 1: run 1","line e 100 up 1 1 1: run 1"] h5 (by decide) fun a6 H6 s6 h6=>?_
  refine asg_cat ["line e 01 up 1 1 1: run 1","line e -1 up 1 1 1: run 1"] h6 (by decide) fun a7 H7 s7 h7=>?_
  refine asg_cat ["line e 1 up 0 1 1: run 1","line e 1 up 10 1 1: run 1"] h7 (by decide) fun a8 H8 s8 h8=>?_
  refine asg_cat ["line e 1 up 1 0 1: run 1","line e 1 up 1 61 1: run 1"] h8 (by decide) fun a9 H9 s9 h9=>?_
  refine asg_cat ["line e 1 up 1 1 0: run 1","line e 1 up 1 1 61: run 1"] h9 (by decide) fun a10 H10 s10 h10=>?_
  refine asg_cat ["line E 1 up 1 1 1: run 1","line abcdefghi 1 up 1 1 1: run 1"] h10 (by decide) fun a11 H11 s11 h11=>?_
  refine asg_cat ["line e 1 up 1 1 1: run 0","line e 1 up 1 1 1: run 10"] h11 (by decide) fun a12 H12 s12 h12=>?_
  refine asg_cat ["line e 1 up 1 1 1: run 01","line e 1 up 1 1 1: run"] h12 (by decide) fun a13 H13 s13 h13=>?_
  refine asg_cat ["line e 1 up 1 1 1: run 1 1","line e 1 up 1 1 1: run  1"] h13 (by decide) fun a14 H14 s14 h14=>?_
  refine asg_cat ["line e 1 up 1 1 1: run 1,","line e 1 up 1 1 1: run 1 "] h14 (by decide) fun a15 H15 s15 h15=>?_
  refine asg_cat ["line e 1 up 1 1 1: run 1,run 1","line e 1 up 1 1 1: run 1,  run 1"] h15 (by decide) fun a16 H16 s16 h16=>?_
  refine asg_cat ["line e 1 up 1 1 1: mask","line e 1 up 1 1 1: open"] h16 (by decide) fun a17 H17 s17 h17=>?_
  refine asg_cat ["line e 1 up 1 1 1: open, run 1","line e 1 up 1 1 1: mask 1, run 1"] h17 (by decide) fun a18 H18 s18 h18=>?_
  refine asg_catF ["line e 1 up 1 1 1: mask, open, open, run 1"] h18 (by decide) fun a19 H19 s19 f19 h19=>?_
  refine app_one "line e 1 up 1 1 1: run 1, open" s19 f19 h19 (by decide) fun H20 t20 h20=>?_
  refine asg_cat ["line e 1 up 1 1 1: answer, run 1","line e 1 up 1 1 1: answer E, run 1"] h20 (by decide) fun a21 H21 s21 h21=>?_
  refine asg_cat ["line e 1 up 1 1 1: jump a, run 1"] h21 (by decide) fun a22 H22 s22 h22=>?_
  refine asg_cat ["line a 1 up 1 1 1: run 1","line e 5 up 1 1 1: run 1"] h22 (by decide) fun a23 H23 s23 h23=>?_
  refine asg_cat ["line e 1 up 1 1 1: run 1: run 1","line e 1 up 1 1 1: run one"] h23 (by decide) fun a24 H24 s24 h24=>?_
  exact ls_cat (ls_var rfl h24) (ls_last (K:=K)) (by decide) _ _ (.refl _) fun a H' s' h'=>q a H' (((((((((((((((((((((((((s0).trans s1).trans s2).trans s3).trans s4).trans s5).trans s6).trans s7).trans s8).trans s9).trans s10).trans s11).trans s12).trans s13).trans s14).trans s15).trans s16).trans s17).trans s18).trans t20).trans s21).trans s22).trans s23).trans s24).trans s') (by rw[h',e13];rfl)
theorem f_Z0 (T:Txt Pg w K mg base ad):FnOk Pg w K mg base CX0 (2+1) ad.a_Z0 ad.d_Z0 ps_Z0 (spListL badL) :=
  ok_Z0 T (fun vs H Q E ⟨e,_⟩=>by rw[e];rfl) rd_Z0
end
section
variable {Pg:Program} {w:World} {K:W.Frag} {mg:Str→Option Value} {base:Heap} {ad:Ad}
abbrev tAsk (K:W.Frag) (te:TE):TE:=tCall (spLRow K) [] E0 (tCons (tBM K "str" (rJoin K) (tC (V.str "\n")) (tCons te (tNil))) (tNil))
structure Rows (xs:List Str) (a:Int):Prop where
  ok:xs.all rowB=true
  ne:xs≠[]
  le:xs.length≤20
  e:ansI (goR 0 xs [] [] [])=some a
theorem ask {σ:L2.St} {H:Hp} {te:TE} {xs:List Str} {a:Int} {Q:VK} (h:LS σ H te xs) (r:Rows xs a) (q:∀ H',Same H H'→Q (.int a) H'):tAsk K te σ H Q:=by
  refine⟨rfl,h H _ (.refl _) fun p H2 s2 hp=>⟨"\n",p,xs,rfl,rfl,.inl (.of hp),?_,_,.str (Txt.join "\n" xs),a,rfl,.str _,?_,fun H' s'=>q _ (s2.trans s')⟩⟩
  · have:=sum_le (f:=fun x:Str=>x.length) (n:=300) (l:=xs) fun x hx=>by
      have:=List.all_eq_true.mp r.ok x hx
      unfold rowB at this
      rw[Bool.and_eq_true,decide_eq_true_eq] at this
      exact this.1
    have e:("\n":Str).length=1:=by decide +kernel
    rw[e]
    have:=r.le
    have : xs.length * 300≤20 * 300:=Nat.mul_le_mul_right _ r.le
    show (xs.map fun x:Str=>x.length).sum+_≤_
    omega
  · rw[row_join r.ok r.ne r.le,r.e]
theorem ne_int {σ:L2.St} {H:Hp} {te tn:TE} {a:Int} {R:Bool→Hp→Prop} (h:∀ Q:VK,(∀ H',Same H H'→Q (.int a) H')→te σ H Q) (hn:∀ H1 (Q:VK),Q (.int a) H1→tn σ H1 Q) (q:∀ H',Same H H'→R false H'):tTest (tOp rNe te tn) σ H R :=
  h _ fun H' s'=>hn _ _ ⟨rfl,_,rfl,by rw[decide_eq_true rfl];exact q _ s'⟩
theorem e_m1:PyData.eqv (.int (-1)) (.int (-1))=true:=by decide +kernel
theorem ne_m1 {σ:L2.St} {H:Hp} {te:TE} {R:Bool→Hp→Prop} (h:∀ Q:VK,(∀ H',Same H H'→Q (.int (-1)) H')→te σ H Q) (q:∀ H',Same H H'→R false H'):tTest (tOp (rNeD K) te (tUn (rU fun i=>.int (-i)) (tC (V.int 1)))) σ H R :=
  h _ fun H' s'=>⟨1,rfl,.int (-1),.int (-1),.int _,.int _,rfl,rfl,_,rfl,by rw[e_m1];exact q _ s'⟩
theorem asgL {σ:L2.St} {H:Hp} {te:TE} {xs:List Str} {i:Nat} {D:Ends} (h:LS σ H te xs) (k:∀ a H',Same H H'→H' a=some (.lst (xs.map V.str))→D.nx (σ.set i (some (.ref a))) H'):tAsg te (gName i) D σ H:=h H _ (.refl _) k
theorem row1 {x:Str} (hx:x∈badL):Rows [rL1,x,rL2,rO1,rO2] 1:=by
  have hb:=List.all_eq_true.mp badL_row x hx
  refine⟨?_,by simp,by simp,by rw[bad_at1 hx];rfl⟩
  simp only[List.all_cons,List.all_nil,hb,Bool.and_true,Bool.true_and]
  decide +kernel
theorem row2 {x:Str} (hx:x∈badL):Rows [rL1,rL2,x,rO1,rO2] 2:=by
  have hb:=List.all_eq_true.mp badL_row x hx
  refine⟨?_,by simp,by simp,by rw[bad_at2 hx];rfl⟩
  simp only[List.all_cons,List.all_nil,hb,Bool.and_true,Bool.true_and]
  decide +kernel
theorem row3 {x y:Str} (hx:x∈badL) (hy:y∈badL):Rows [rL1,rL2,x,y,rO1,rO2] 2:=by
  have hb:=List.all_eq_true.mp badL_row x hx
  have hc:=List.all_eq_true.mp badL_row y hy
  refine⟨?_,by simp,by simp,by rw[bad_at2 hx];rfl⟩
  simp only[List.all_cons,List.all_nil,hb,hc,Bool.and_true,Bool.true_and]
  decide +kernel
theorem row4 {x:Str} (hx:x∈badO):Rows [rL1,rL2,rO1,rO2,x] 4:=by
  have hb:=List.all_eq_true.mp badO_row x hx
  refine⟨?_,by simp,by simp,by rw[bad_at4 hx];rfl⟩
  simp only[List.all_cons,List.all_nil,hb,Bool.and_true,Bool.true_and]
  decide +kernel
theorem row5 {x:Str} (hx:x∈badO):Rows [rL1,rL2,rO1,rO2,x,"x"] 4:=by
  have hb:=List.all_eq_true.mp badO_row x hx
  refine⟨?_,by simp,by simp,by rw[bad_at4 hx];rfl⟩
  simp only[List.all_cons,List.all_nil,hb,Bool.and_true,Bool.true_and]
  decide +kernel
theorem rows_dec {xs:List Str} {a:Int} (h:(xs.all rowB && (!xs.isEmpty && (decide (xs.length≤20) && decide (ansI (goR 0 xs [] [] [])=some a))))=true):Rows xs a:=by
  simp only[Bool.and_eq_true,decide_eq_true_eq] at h
  refine⟨h.1,?_,h.2.2.1,h.2.2.2⟩
  rintro rfl
  exact absurd h.2.1 (by decide)
end
section
variable {Pg:Program} {w:World} {K:W.Frag} {mg:Str→Option Value} {base:Heap} {ad:Ad}
def lwB1 (K:W.Frag):TS:=tSeq (tAsg (tOp (rI0 fun i j=>.int (i+j)) (tC (V.int 1)) (tCall spNum [] E0 (tCons (tVar 10) (tCons (tOp (rI0 fun i j=>.int (i+j)) (tOp (rI (fun _ j=>0 < j) fun i j=>.int (i % j)) (tVar 12) (tC (V.int 12))) (tC (V.int 1))) (tCons (tC (V.int 2)) (tNil)))))) (gName 9)) (tSeq (tAsg (tOp (rIxL K) (tVar 11) (tCall spNum [] E0 (tCons (tVar 10) (tCons (tOp (rI0 fun i j=>.int (i+j)) (tOp (rI (fun _ j=>0 < j) fun i j=>.int (i % j)) (tVar 12) (tC (V.int 12))) (tC (V.int 1))) (tCons (tCB (rLenSq K) (tCons (tVar 11) (tNil))) (tNil)))))) (gName 13)) (tSeq (tAsg (tOp rCat (tOp rCat (tOp rCat (tSl (rSlL K) (tVar 1) tNoPart (tPart (tVar 9))) (tLst (tCons (tVar 4) (tNil)))) (tSl (rSlL K) (tVar 1) (tPart (tVar 9)) tNoPart)) (tVar 2)) (gName 8)) (tSeq (tIfS (tTest (tOp rNe (tCall (spLRow K) [] E0 (tCons (tBM K "str" (rJoin K) (tC (V.str "\n")) (tCons (tVar 8) (tNil))) (tNil))) (tVar 9))) (tSeq (tRet (tC (V.bl false))) (tNext)) (tNext)) (tSeq (tIfS (tTest (tOp rNe (tCall (spLRow K) [] E0 (tCons (tBM K "str" (rJoin K) (tC (V.str "\n")) (tCons (tOp rCat (tOp rCat (tVar 1) (tLst (tCons (tVar 4) (tCons (tVar 13) (tNil))))) (tVar 2)) (tNil))) (tNil))) (tC (V.int 2)))) (tSeq (tRet (tC (V.bl false))) (tNext)) (tNext)) (tNext)))))
def lwB2 (K:W.Frag):TS:=tSeq (tIfS (tOr (tTest (tOp rNe (tCall (spLRow K) [] E0 (tCons (tBM K "str" (rJoin K) (tC (V.str "\n")) (tCons (tOp rCat (tOp rCat (tVar 1) (tVar 2)) (tLst (tCons (tVar 4) (tNil)))) (tNil))) (tNil))) (tC (V.int 4)))) (tTest (tOp rNe (tCall (spLRow K) [] E0 (tCons (tBM K "str" (rJoin K) (tC (V.str "\n")) (tCons (tOp rCat (tOp rCat (tVar 1) (tVar 2)) (tLst (tCons (tVar 4) (tCons (tC (V.str "x")) (tNil))))) (tNil))) (tNil))) (tC (V.int 4))))) (tSeq (tRet (tC (V.bl false))) (tNext)) (tNext)) (tNext)
theorem in_body {s A B L:Addr} {c:Int} {k:Nat} {x:Str} {t3 t5 t6 t7 t8 t9 t13 t14 t15:Option V} {H:Hp} {D:Ends} (hA:H A=some (.lst (([rL1,rL2]:List Str).map V.str))) (hB:H B=some (.lst (([rO1,rO2]:List Str).map V.str))) (hL:H L=some (.lst (badL.map V.str))) (hx:x∈badL)
    (kD:∀ H' t8 t9 t13,Same H H'→D.nx [some (.ref s),some (.ref A),some (.ref B),t3,some (.str x),t5,t6,t7,t8,t9,some (.int c),some (.ref L),some (.int (k:Nat)),t13,t14,t15] H') :
    lwB1 K D [some (.ref s),some (.ref A),some (.ref B),t3,some (.str x),t5,t6,t7,t8,t9,some (.int c),some (.ref L),some (.int (k:Nat)),t13,t14,t15] H:=by
  have k0:0≤(k:Int) % 12:=Int.emod_nonneg _ (by decide)
  have k1:(k:Int) % 12 < 12:=Int.emod_lt_of_pos _ (by decide)
  have lb:(badL.map V.str).length=55:=by decide +kernel
  refine⟨.int c,rfl,.int k,rfl,k,12,rfl,rfl,(show (0:Int) < 12 by decide),_,_,rfl,rfl,c,_,2,rfl,by omega,by omega,by decide,fun i H1 i0 i1 s1=>⟨1,i,rfl,rfl,?_⟩⟩
  refine⟨.ref L,rfl,.int c,rfl,.int k,rfl,k,12,rfl,rfl,(show (0:Int) < 12 by decide),_,_,rfl,rfl,.ref L,rfl,L,_,rfl,.inl (.of (s1 _ _ hL)),c,_,_,rfl,by omega,by omega,by omega,fun j H2 j0 j1 s2=>?_⟩
  obtain⟨jn,rfl⟩:=Int.eq_ofNat_of_zero_le j0
  have hj:jn < badL.length:=by rw[List.length_map] at j1;omega
  have hy:badL[jn]∈badL:=List.getElem_mem hj
  refine⟨L,_,jn,.str badL[jn],rfl,rfl,.of (s2 _ _ (s1 _ _ hL)),atI_nat (by rw[List.getElem?_map,List.getElem?_eq_getElem hj];rfl),?_⟩
  generalize badL[jn]=y at hy
  have s12:=s1.trans s2
  have key:∀ n:Nat,n≤2→(1+i=(n:Nat))→Rows (([rL1,rL2]:List Str).take n++[x]++([rL1,rL2]:List Str).drop n++[rO1,rO2]) n→(tSeq (tAsg (tOp rCat (tOp rCat (tOp rCat (tSl (rSlL K) (tVar 1) tNoPart (tPart (tVar 9))) (tLst (tCons (tVar 4) (tNil)))) (tSl (rSlL K) (tVar 1) (tPart (tVar 9)) tNoPart)) (tVar 2)) (gName 8)) (tSeq (tIfS (tTest (tOp rNe (tAsk K (tVar 8)) (tVar 9))) (tSeq (tRet (tC (V.bl false))) (tNext)) (tNext)) (tSeq (tIfS (tTest (tOp rNe (tAsk K (tOp rCat (tOp rCat (tVar 1) (tLst (tCons (tVar 4) (tCons (tVar 13) (tNil))))) (tVar 2))) (tC (V.int 2)))) (tSeq (tRet (tC (V.bl false))) (tNext)) (tNext)) (tNext)))) D [some (.ref s),some (.ref A),some (.ref B),t3,some (.str x),t5,t6,t7,t8,some (.int (1+i)),some (.int c),some (.ref L),some (.int (k:Nat)),some (.str y),t14,t15] H2:=by
    intro n hn en r
    rw[en]
    have l1:(([rL1,rL2]:List Str).take n).length≤2:=by rw[List.length_take];exact Nat.min_le_right _ _
    have l2:(([rL1,rL2]:List Str).drop n).length≤2:=by rw[List.length_drop];exact Nat.sub_le _ _
    refine asgL (ls_cat (ls_cat (ls_cat (ls_to (n:=n) (ls_var (i:=1) rfl (s12 _ _ hA)) fun _ _ q=>⟨_,rfl,q⟩) (ls_one (i:=4) rfl) (by rw[List.length_singleton];omega)) (ls_from (n:=n) (ls_var (i:=1) rfl (s12 _ _ hA)) (fun _ _ q=>⟨_,rfl,q⟩) hn) (by rw[List.length_append,List.length_singleton];omega)) (ls_var (i:=2) rfl (s12 _ _ hB)) (by rw[List.length_append,List.length_append,List.length_singleton];show _+2≤_;omega)) fun R H3 s3 hR=>?_
    have s13:=s12.trans s3
    refine ne_int (a:=(n:Nat)) (fun Q q=>ask (ls_var (i:=8) rfl hR) r q) (fun _ _ q=>⟨_,rfl,q⟩) fun H4 s4=>iteF ?_
    have s14:=s13.trans s4
    refine ne_int (a:=2) (fun Q q=>ask (ls_cat (ls_cat (ls_var (i:=1) rfl (s14 _ _ hA)) (ls_two (i:=4) (j:=13) rfl rfl) (by simp)) (ls_var (i:=2) rfl (s14 _ _ hB)) (by simp)) (row3 hx hy) q) (fun _ _ q=>q) fun H5 s5=>iteF ?_
    exact kD _ _ _ _ (s14.trans s5)
  rcases (by omega:i=0∨i=1) with rfl | rfl
  · exact key 1 (by decide) rfl (row1 hx)
  · exact key 2 (by decide) rfl (row2 hx)
theorem in_body2 {A B:Addr} {x:Str} {t0:Option V} {t3 t5 t6 t7 t8 t9 t10 t11 t12 t13 t14 t15:Option V} {H:Hp} {D:Ends} (hA:H A=some (.lst (([rL1,rL2]:List Str).map V.str))) (hB:H B=some (.lst (([rO1,rO2]:List Str).map V.str))) (hx:x∈badO)
    (kD:∀ H',Same H H'→D.nx [t0,some (.ref A),some (.ref B),t3,some (.str x),t5,t6,t7,t8,t9,t10,t11,t12,t13,t14,t15] H') :
    lwB2 K D [t0,some (.ref A),some (.ref B),t3,some (.str x),t5,t6,t7,t8,t9,t10,t11,t12,t13,t14,t15] H:=by
  refine ne_int (a:=4) (fun Q q=>ask (ls_cat (ls_cat (ls_var (i:=1) rfl hA) (ls_var (i:=2) rfl hB) (by decide)) (ls_one (i:=4) rfl) (by simp)) (row4 hx) q) (fun _ _ q=>q) fun H1 s1=>?_
  refine iteF ?_
  refine ne_int (a:=4) (fun Q q=>ask (ls_cat (ls_cat (ls_var (i:=1) rfl (s1 _ _ hA)) (ls_var (i:=2) rfl (s1 _ _ hB)) (by decide)) (ls_oneC (i:=4) rfl) (by simp)) (row5 hx) q) (fun _ _ q=>q) fun H2 s2=>iteF ?_
  exact kD _ (s1.trans s2)
end
section
variable {Pg:Program} {w:World} {K:W.Frag} {mg:Str→Option Value} {base:Heap} {ad:Ad}
def ScA (K:W.Frag) (a:Addr) (ns:List Int) (H:Hp):Prop:=KLst K a (ns.map V.int)∨∃ ob,H a=some (.frz ob (.lst (ns.map V.int)))
theorem ScA.up {a:Addr} {ns:List Int} {H H':Hp} (h:ScA K a ns H) (s:Same H H'):ScA K a ns H':=h.imp id fun ⟨o,e⟩=>⟨o,s _ _ e⟩
theorem ScA.sq {a:Addr} {ns:List Int} {H:Hp} (sc:ScA K a ns H):SqL K H a (ns.map V.int):=by
  rcases sc with z | ⟨o,z⟩
  · exact .inr z
  · exact .inl (.inr ⟨o,z⟩)
def lwT6 (K:W.Frag):TS:=tSeq (tIfS (tOr (tTest (tOp (rNeD K) (tLc (iTup K (tTup (tCons (tC V.non) (tCons (tC (V.int 5)) (tCons (tVar 1) (tCons (tC (V.bl true)) (tCons (tTup (tCons (tC (V.str "a")) (tNil))) (tNil)))))))) (gName 15) (tYes) (tCall (spLRow K) [] E0 (tCons (tVar 15) (tNil))) [15]) (tOp rRep (tLst (tCons (tC (V.int 0)) (tNil))) (tC (V.int 5))))) (tTest (tOp rNe (tCall (spLRow K) [] E0 (tCons (tBM K "str" (rJoin K) (tC (V.str "\n")) (tCons (tVar 2) (tNil))) (tNil))) (tC (V.int 0))))) (tSeq (tRet (tC (V.bl false))) (tNext)) (tNext)) (tSeq (tAsg (tOp rCat (tOp rCat (tSl (rSlL K) (tVar 1) tNoPart (tPart (tC (V.int 1)))) (tSl (rSlL K) (tVar 2) tNoPart (tPart (tC (V.int 1))))) (tSl (rSlL K) (tVar 1) (tPart (tC (V.int 1))) tNoPart)) (gName 5)) (tSeq (tFor (iTup K (tTup (tCons (tTup (tCons (tOp rCat (tVar 1) (tRevSl K (tVar 2) (tPart (tUn (rU fun i=>.int (-i)) (tC (V.int 1)))))) (tCons (tC (V.int 3)) (tNil)))) (tCons (tTup (tCons (tOp rCat (tSl (rSlL K) (tVar 2) tNoPart (tPart (tC (V.int 1)))) (tVar 1)) (tCons (tC (V.int 0)) (tNil)))) (tCons (tTup (tCons (tVar 5) (tCons (tC (V.int 2)) (tNil)))) (tCons (tTup (tCons (tOp rCat (tVar 1) (tLst (tCons (tC (V.str "")) (tNil)))) (tCons (tC (V.int 2)) (tNil)))) (tNil))))))) (gTup K 2 (gCons (gName 8) (gCons (gName 9) (gNil)))) (tSeq (tIfS (tTest (tOp rNe (tCall (spLRow K) [] E0 (tCons (tBM K "str" (rJoin K) (tC (V.str "\n")) (tCons (tVar 8) (tNil))) (tNil))) (tVar 9))) (tSeq (tRet (tC (V.bl false))) (tNext)) (tNext)) (tNext))) (tSeq (tAsg (tLc (iEnumS (tCons (tC (V.str "acdef")) (tNil))) (gTup K 2 (gCons (gName 12) (gCons (gName 14) (gNil)))) (tYes) (tOp rAdS (tOp rAdS (tOp rAdS (tOp rAdS (tC (V.str "line ")) (tVar 14)) (tC (V.str " "))) (tCB rStrX (tCons (tOp (rI0 fun i j=>.int (i+j)) (tC (V.int 1)) (tVar 12)) (tNil)))) (tC (V.str " up 1 1 1: run 1"))) [12,14]) (gName 6)) (tSeq (tAsg (tLc (iStr (tC (V.str "abcde"))) (gName 14) (tYes) (tOp rAdS (tOp rAdS (tC (V.str "bottom ")) (tVar 14)) (tC (V.str ": run 1"))) [14]) (gName 7)) (tSeq (tIfS (tOr (tTest (tOp (rNeD K) (tCall (spLRow K) [] E0 (tCons (tBM K "str" (rJoin K) (tC (V.str "\n")) (tCons (tOp rCat (tVar 6) (tSl (rSlL K) (tVar 7) tNoPart (tPart (tC (V.int 4))))) (tNil))) (tNil))) (tUn (rU fun i=>.int (-i)) (tC (V.int 1))))) (tTest (tOp rNe (tCall (spLRow K) [] E0 (tCons (tBM K "str" (rJoin K) (tC (V.str "\n")) (tCons (tOp rCat (tVar 6) (tLst (tCons (tC (V.str "line g 9 up 1 1 1: run 1")) (tNil)))) (tNil))) (tNil))) (tC (V.int 5))))) (tSeq (tRet (tC (V.bl false))) (tNext)) (tNext)) (tSeq (tIfS (tOr (tTest (tOp rNe (tCall (spLRow K) [] E0 (tCons (tBM K "str" (rJoin K) (tC (V.str "\n")) (tCons (tOp rCat (tVar 6) (tVar 7)) (tNil))) (tNil))) (tC (V.int 9)))) (tTest (tOp rNe (tCall (spLRow K) [] E0 (tCons (tBM K "str" (rJoin K) (tC (V.str "\n")) (tCons (tVar 1) (tNil))) (tNil))) (tC (V.int 2))))) (tSeq (tRet (tC (V.bl false))) (tNext)) (tNext)) (tSeq (tIfS (tTest (tOp rNe (tCall (spLRow K) [] E0 (tCons (tBM K "str" (rJoin K) (tC (V.str "\n")) (tCons (tOp rCat (tVar 1) (tSl (rSlL K) (tVar 2) tNoPart (tPart (tC (V.int 1))))) (tNil))) (tNil))) (tC (V.int 3)))) (tSeq (tRet (tC (V.bl false))) (tNext)) (tNext)) (tSeq (tRet (tOp (rEqD K) (tLst (tCons (tCall (spLRow K) [] E0 (tCons (tOp rAdS (tOp (rIxL K) (tVar 1) (tC (V.int 0))) (tC (V.str "\n"))) (tNil))) (tCons (tCall (spLRow K) [] E0 (tCons (tC (V.str "")) (tNil))) (tCons (tCall (spLRow K) [] E0 (tCons (tC (V.str "line a 1 up 1 1 1: run 1, answer b")) (tNil))) (tNil))))) (tLst (tCons (tC (V.int 1)) (tCons (tC (V.int 0)) (tCons (tC (V.int 1)) (tNil))))))) (tNext)))))))))
theorem law_a {a:Addr} {ns:List Int} {H:Hp} {D:Ends} (sc:ScA K a ns H) (hl:ns.length≤63)
    (k:∀ A B t3 t4 t5 t6 t7 t8 t9 t10 t11 t12 t13 t14 t15 H',H' A=some (.lst (([rL1,rL2]:List Str).map V.str))→H' B=some (.lst (([rO1,rO2]:List Str).map V.str))→lwT6 K D [some (.ref a),some (.ref A),some (.ref B),t3,t4,t5,t6,t7,t8,t9,t10,t11,t12,t13,t14,t15] H') :
    t_law Pg w K ad (spCell K) spNum (spLRow K) (spListL badL) (spListL badO) D [some (.ref a),none,none,none,none,none,none,none,none,none,none,none,none,none,none,none] H:=by
  dsimp only [t_law]
  refine asgL (ls_lst [rL1] (by decide)) fun A0 H1 s1 hA0=>?_
  refine asgL (ls_cat (ls_var (i:=1) rfl hA0) (ls_lst [rL2] (by decide)) (by decide)) fun A H2 s2 hA=>?_
  refine asgL (ls_lst [rO1,rO2] (by decide)) fun B H3 s3 hB=>?_
  have hA3:=s3 _ _ hA
  have sc3:=((sc.up s1).up s2).up s3
  refine ne_m1 (fun Q q=>ask (ls_cat (ls_var (i:=1) rfl hA3) (ls_var (i:=2) rfl hB) (by decide)) (rows_dec (by decide +kernel)) q) fun H4 s4=>?_
  refine iteF ?_
  refine ne_m1 (fun Q q=>⟨.ref A,rfl,A,_,0,.str rL1,rfl,rfl,.of (s4 _ _ hA3),rfl,.str rL1,.str rL1,-1,rfl,.str _,by decide +kernel,q⟩) fun H5 s5=>iteF ?_
  have s35:=s4.trans s5
  have hA5:=s35 _ _ hA3
  have hB5:=s35 _ _ hB
  have sc5:=sc3.up s35
  refine⟨.ref a,rfl,a,_,rfl,.inl sc5.sq,8,_,rfl,1,_,rfl,_,rfl,by split <;> split <;> omega,by rw[List.length_map];split <;> split <;> omega,?_⟩
  refine for_range (fun i σ H'=>ScA K a ns H'∧H' A=some (.lst (([rL1,rL2]:List Str).map V.str))∧H' B=some (.lst (([rO1,rO2]:List Str).map V.str))∧∃ t3 t4 t5 t6 t7 t8 t9 t10 t11 t12 t13 t14 t15,σ=[some (.ref a),some (.ref A),some (.ref B),t3,t4,t5,t6,t7,t8,t9,t10,t11,t12,t13,t14,t15]) ⟨sc5,hA5,hB5,_,_,_,_,_,_,_,_,_,_,_,_,_,rfl⟩ ?_ ?_
  · rintro i σ H6 hi ⟨sc6,hA6,hB6,t3,t4,t5,t6,t7,t8,t9,t10,t11,t12,t13,t14,t15,rfl⟩
    refine⟨.ref a,rfl,.int (0+(i:Nat)),rfl,a,ns,0+(i:Nat),rfl,by omega,sc6.sq,fun c=>⟨rfl,fun L H7 s7 hL=>⟨_,_,rfl,?_⟩⟩⟩
    refine⟨.ref L,rfl,L,_,rfl,.of hL,?_⟩
    refine⟨fun j m σ H'=>j+m=badL.length∧Same H7 H'∧∃ t4 t5 t6 t7 t8 t9 t12 t13 t14 t15,σ=[some (.ref a),some (.ref A),some (.ref B),some (.int (0+(i:Nat))),t4,t5,t6,t7,t8,t9,some (.int c),some (.ref L),t12,t13,t14,t15],⟨badL.length,by omega,.refl _,_,_,_,_,_,_,_,_,_,_,rfl⟩,?_⟩
    rintro j m σ H8 ⟨em,s8,t4,t5,t6,t7,t8,t9,t12,t13,t14,t15,rfl⟩
    by_cases hj:j < badL.length
    · have hrow:(badL.map V.str)[j]?=some (.str badL[j]):=by rw[List.getElem?_map,List.getElem?_eq_getElem hj];rfl
      have hx:badL[j]∈badL:=List.getElem_mem hj
      generalize badL[j]=x at hrow hx
      refine .inr ⟨⟨_,.str x,.of (s8 _ _ hL),hrow⟩,fun σ' H'=>Same H7 H'∧∃ t4 t5 t6 t7 t8 t9 t12 t13 t14 t15,σ'=[some (.ref a),some (.ref A),some (.ref B),some (.int (0+(i:Nat))),t4,t5,t6,t7,t8,t9,some (.int c),some (.ref L),t12,t13,t14,t15],fun σ' H'' h=>⟨m-1,by omega,by omega,h⟩,?_⟩
      rintro x' H' ⟨Tp',y,rfl,hT,rfl,hy⟩
      have hy:=hy _ (.of (s8 _ _ hL))
      rw[hrow] at hy
      cases hy
      have sT:=same_new (o:=.tup [.int (j:Nat),.str x]) hT
      have s9:=s8.trans sT
      refine⟨Tp',_,rfl,.of upd_same,rfl,_,_,rfl,_,_,rfl,rfl,?_⟩
      exact in_body (s9 _ _ (s7 _ _ hA6)) (s9 _ _ (s7 _ _ hB6)) (s9 _ _ hL) hx fun H' t8 t9 t13 s'=>⟨s9.trans s',_,_,_,_,_,_,_,_,_,_,rfl⟩
    · refine .inl ⟨⟨_,.of (s8 _ _ hL),by rw[List.length_map];omega⟩,?_⟩
      have s68:=s7.trans s8
      exact⟨sc6.up s68,s68 _ _ hA6,s68 _ _ hB6,_,_,_,_,_,_,_,_,_,_,_,_,_,rfl⟩
  · rintro σ H6 ⟨sc6,hA6,hB6,t3,t4,t5,t6,t7,t8,t9,t10,t11,t12,t13,t14,t15,rfl⟩
    refine⟨rfl,fun L H7 s7 hL=>⟨L,rfl,⟨_,.of hL⟩,?_⟩⟩
    refine for_list (xs:=badO.map V.str) (fun i σ H'=>Same H7 H'∧∃ t4,σ=[some (.ref a),some (.ref A),some (.ref B),t3,t4,t5,t6,t7,t8,t9,t10,t11,t12,t13,t14,t15]) ⟨.refl _,_,rfl⟩ (fun i σ H' _ ⟨s',_⟩=>.of (s' _ _ hL)) ?_ ?_
    · rintro i x σ H8 hx ⟨s8,t4',rfl⟩
      rw[List.getElem?_map] at hx
      cases e:badO[i]? with
      | none=>rw[e] at hx;cases hx
      | some y =>
        rw[e] at hx
        cases hx
        exact in_body2 (s8 _ _ (s7 _ _ hA6)) (s8 _ _ (s7 _ _ hB6)) (List.mem_of_getElem? e) fun H' s'=>⟨s8.trans s',_,rfl⟩
    · rintro σ H8 ⟨s8,t4',rfl⟩
      exact k _ _ _ _ _ _ _ _ _ _ _ _ _ _ _ _ (s8 _ _ (s7 _ _ hA6)) (s8 _ _ (s7 _ _ hB6))
end
section
variable {Pg:Program} {w:World} {K:W.Frag} {mg:Str→Option Value} {base:Heap} {ad:Ad}
def lwT9 (K:W.Frag):TS:=tSeq (tAsg (tLc (iEnumS (tCons (tC (V.str "acdef")) (tNil))) (gTup K 2 (gCons (gName 12) (gCons (gName 14) (gNil)))) (tYes) (tOp rAdS (tOp rAdS (tOp rAdS (tOp rAdS (tC (V.str "line ")) (tVar 14)) (tC (V.str " "))) (tCB rStrX (tCons (tOp (rI0 fun i j=>.int (i+j)) (tC (V.int 1)) (tVar 12)) (tNil)))) (tC (V.str " up 1 1 1: run 1"))) [12,14]) (gName 6)) (tSeq (tAsg (tLc (iStr (tC (V.str "abcde"))) (gName 14) (tYes) (tOp rAdS (tOp rAdS (tC (V.str "bottom ")) (tVar 14)) (tC (V.str ": run 1"))) [14]) (gName 7)) (tSeq (tIfS (tOr (tTest (tOp (rNeD K) (tCall (spLRow K) [] E0 (tCons (tBM K "str" (rJoin K) (tC (V.str "\n")) (tCons (tOp rCat (tVar 6) (tSl (rSlL K) (tVar 7) tNoPart (tPart (tC (V.int 4))))) (tNil))) (tNil))) (tUn (rU fun i=>.int (-i)) (tC (V.int 1))))) (tTest (tOp rNe (tCall (spLRow K) [] E0 (tCons (tBM K "str" (rJoin K) (tC (V.str "\n")) (tCons (tOp rCat (tVar 6) (tLst (tCons (tC (V.str "line g 9 up 1 1 1: run 1")) (tNil)))) (tNil))) (tNil))) (tC (V.int 5))))) (tSeq (tRet (tC (V.bl false))) (tNext)) (tNext)) (tSeq (tIfS (tOr (tTest (tOp rNe (tCall (spLRow K) [] E0 (tCons (tBM K "str" (rJoin K) (tC (V.str "\n")) (tCons (tOp rCat (tVar 6) (tVar 7)) (tNil))) (tNil))) (tC (V.int 9)))) (tTest (tOp rNe (tCall (spLRow K) [] E0 (tCons (tBM K "str" (rJoin K) (tC (V.str "\n")) (tCons (tVar 1) (tNil))) (tNil))) (tC (V.int 2))))) (tSeq (tRet (tC (V.bl false))) (tNext)) (tNext)) (tSeq (tIfS (tTest (tOp rNe (tCall (spLRow K) [] E0 (tCons (tBM K "str" (rJoin K) (tC (V.str "\n")) (tCons (tOp rCat (tVar 1) (tSl (rSlL K) (tVar 2) tNoPart (tPart (tC (V.int 1))))) (tNil))) (tNil))) (tC (V.int 3)))) (tSeq (tRet (tC (V.bl false))) (tNext)) (tNext)) (tSeq (tRet (tOp (rEqD K) (tLst (tCons (tCall (spLRow K) [] E0 (tCons (tOp rAdS (tOp (rIxL K) (tVar 1) (tC (V.int 0))) (tC (V.str "\n"))) (tNil))) (tCons (tCall (spLRow K) [] E0 (tCons (tC (V.str "")) (tNil))) (tCons (tCall (spLRow K) [] E0 (tCons (tC (V.str "line a 1 up 1 1 1: run 1, answer b")) (tNil))) (tNil))))) (tLst (tCons (tC (V.int 1)) (tCons (tC (V.int 0)) (tCons (tC (V.int 1)) (tNil))))))) (tNext))))))
theorem z5:PyData.eqv (.list [.int 0,.int 0,.int 0,.int 0,.int 0]) (.list [.int 0,.int 0,.int 0,.int 0,.int 0])=true:=by decide +kernel
theorem z5s:SeqAt.shaped (.list [.int 0,.int 0,.int 0,.int 0,.int 0])=true:=by decide +kernel
theorem law_b {A B:Addr} {t0 t3 t4 t5 t6 t7 t8 t9 t10 t11 t12 t13 t14 t15:Option V} {H:Hp} {D:Ends} (hA:H A=some (.lst (([rL1,rL2]:List Str).map V.str))) (hB:H B=some (.lst (([rO1,rO2]:List Str).map V.str)))
    (k:∀ t3 t4 t5 t6 t7 t8 t9 t10 t11 t12 t13 t14 t15 H',H' A=some (.lst (([rL1,rL2]:List Str).map V.str))→H' B=some (.lst (([rO1,rO2]:List Str).map V.str))→lwT9 K D [t0,some (.ref A),some (.ref B),t3,t4,t5,t6,t7,t8,t9,t10,t11,t12,t13,t14,t15] H') :
    lwT6 K D [t0,some (.ref A),some (.ref B),t3,t4,t5,t6,t7,t8,t9,t10,t11,t12,t13,t14,t15] H:=by
  have z:=szL
  dsimp only [lwT6,tSeq,tIfS,tOr,tTest,tOp]
  refine rd_mapC (List.replicate 5 (V.int 0)) (fun J xs H1=>∃ u T,J=Itt K T∧xs=[.non,.int 5,.ref A,.bl true,.ref u]∧Same H H1∧H1 T=some (.tup xs)∧H1 u=some (.tup [.str "a"]))
    (fun R r=>⟨.ref A,rfl,(show 1≤sizeLine by decide),fun u hu=>⟨(show 5≤sizeLine by decide),fun T hT=>⟨T,rfl,⟨_,.of upd_same⟩,r _ _ _ ⟨u,T,rfl,rfl,(same_new hu).trans (same_new hT),upd_same,(same_new hT) _ _ upd_same⟩⟩⟩⟩) ?_ (fun Z H1 s1 hZ0 hZ=>?_)
  · rintro J xs H1 ⟨u,T,rfl,rfl,s1,hT,hu⟩
    refine⟨s1,wk_tup (.of hT),rfl,(show 5 < sizeLine by decide),fun k x y hx hy H2 Q' s2 q'=>?_⟩
    have e0:y=.int 0:=by
      rw[List.getElem?_replicate] at hy
      split at hy <;> cases hy
      rfl
    subst e0
    have hd:∃ d,Dq K H2 x d∧rowAns d=some 0:=by
      match k,hx with
      | 0,hx=>cases hx;exact⟨_,.non,rfl⟩
      | 1,hx=>cases hx;exact⟨_,.int 5,rfl⟩
      | 2,hx=>cases hx;exact⟨_,.lst (s2 _ _ (s1 _ _ hA)) (strs_dq _),rfl⟩
      | 3,hx=>cases hx;exact⟨_,.bl true,rfl⟩
      | 4,hx=>cases hx;exact⟨_,.tup (.inl (s2 _ _ hu)) (strs_dq ["a"]),rfl⟩
      | n+5,hx=>simp at hx
    obtain⟨d,hd,ea⟩:=hd
    exact⟨x,rfl,x,d,0,rfl,hd,ea,q'⟩
  refine⟨(show 1≤sizeLine by decide),fun l hl'=>⟨l,5,[.int 0],rfl,rfl,upd_same,by decide,by decide,(show 1 * 5≤sizeLine by decide),fun p hp=>?_⟩⟩
  have s2:=s1.trans ((same_new (o:=.lst [.int 0]) hl').trans (same_new (o:=.lst (List.replicate 5 [V.int 0]).flatten) hp))
  have five:∀ H2,DqA K H2 (List.replicate 5 (V.int 0)) [.int 0,.int 0,.int 0,.int 0,.int 0]:=fun H2=>.cons (.int 0) (.cons (.int 0) (.cons (.int 0) (.cons (.int 0) (.cons (.int 0) .nil))))
  refine⟨_,_,(Dq.lst ((same_new hp) _ _ ((same_new hl') _ _ hZ)) (five _)).dp,(Dq.lst upd_same (five _)).dp,z5s,z5s,_,rfl,?_⟩
  rw[z5]
  refine iteF ?_
  have hA2:=s2 _ _ hA
  have hB2:=s2 _ _ hB
  refine ne_int (a:=0) (fun Q q=>ask (ls_var (i:=2) rfl hB2) (rows_dec (by decide +kernel)) q) (fun _ _ q=>q) fun H3 s3=>iteF ?_
  have hA3:=s3 _ _ hA2
  have hB3:=s3 _ _ hB2
  refine asgL (ls_cat (ls_cat (ls_to (n:=1) (ls_var (i:=1) rfl hA3) fun _ _ q=>q) (ls_to (n:=1) (ls_var (i:=2) rfl hB3) fun _ _ q=>q) (by decide)) (ls_from (n:=1) (ls_var (i:=1) rfl hA3) (fun _ _ q=>q) (by decide)) (by decide)) fun R5 H4 s4 hR5=>?_
  have hA4:=s4 _ _ hA3
  have hB4:=s4 _ _ hB3
  refine ls_cat (ls_var (i:=1) rfl hA4) (ls_rev (K:=K) (ls_var (i:=2) rfl hB4)) (by decide) H4 _ (.refl _) fun R1 Ha sa hR1=>⟨(show 2≤sizeLine by decide),fun p1 hp1=>?_⟩
  have sa':=sa.trans (same_new (o:=.tup [.ref R1,.int 3]) hp1)
  refine ls_cat (ls_to (K:=K) (n:=1) (ls_var (i:=2) rfl (sa' _ _ hB4)) fun _ _ q=>q) (ls_var (i:=1) rfl (sa' _ _ hA4)) (by decide) _ _ (.refl _) fun R2 Hb sb hR2=>⟨(show 2≤sizeLine by decide),fun p2 hp2=>?_⟩
  have sb':=sb.trans (same_new (o:=.tup [.ref R2,.int 0]) hp2)
  refine⟨_,rfl,(show 2≤sizeLine by decide),fun p3 hp3=>?_⟩
  have sc':=sb'.trans (same_new (o:=.tup [.ref R5,.int 2]) hp3)
  refine ls_cat (ls_var (i:=1) rfl (sc' _ _ (sa' _ _ hA4))) (ls_lst [""] (by decide)) (by decide) _ _ (.refl _) fun R4 Hd sd hR4=>⟨(show 2≤sizeLine by decide),fun p4 hp4=>⟨(show 4≤sizeLine by decide),fun P hP=>⟨P,rfl,⟨_,.of upd_same⟩,?_⟩⟩⟩
  have n4:=same_new (o:=.tup [.ref R4,.int 2]) hp4
  have nP:=same_new (o:=.tup [.ref p1,.ref p2,.ref p3,.ref p4]) hP
  have s3P:=sd.trans (n4.trans nP)
  have s2P:=(same_new (o:=.tup [.ref R5,.int 2]) hp3).trans s3P
  have s1P:=(sb.trans (same_new (o:=.tup [.ref R2,.int 0]) hp2)).trans s2P
  have sAll:=sa'.trans s1P
  have hh:∀ (i:Nat) (x:V),([V.ref p1,.ref p2,.ref p3,.ref p4]:List V)[i]?=some x→∃ p R xs n,x=.ref p∧L2.upd (L2.upd Hd p4 (.tup [.ref R4,.int 2])) P (.tup [.ref p1,.ref p2,.ref p3,.ref p4]) p=some (.tup [.ref R,.int n])∧L2.upd (L2.upd Hd p4 (.tup [.ref R4,.int 2])) P (.tup [.ref p1,.ref p2,.ref p3,.ref p4]) R=some (.lst (xs.map V.str))∧Rows xs n:=by
    intro i x hx
    match i,hx with
    | 0,hx=>cases hx;exact⟨p1,R1,_,3,rfl,s1P _ _ upd_same,s1P _ _ ((same_new hp1) _ _ hR1),rows_dec (by decide +kernel)⟩
    | 1,hx=>cases hx;exact⟨p2,R2,_,0,rfl,s2P _ _ upd_same,s2P _ _ ((same_new hp2) _ _ hR2),rows_dec (by decide +kernel)⟩
    | 2,hx=>cases hx;exact⟨p3,R5,_,2,rfl,s3P _ _ upd_same,sAll _ _ hR5,rows_dec (by decide +kernel)⟩
    | 3,hx=>cases hx;exact⟨p4,R4,_,2,rfl,nP _ _ upd_same,nP _ _ (n4 _ _ hR4),rows_dec (by decide +kernel)⟩
    | n+4,hx=>simp at hx
  refine for_tup (xs:=[.ref p1,.ref p2,.ref p3,.ref p4]) (fun i σ H'=>Same (L2.upd (L2.upd Hd p4 (.tup [.ref R4,.int 2])) P (.tup [.ref p1,.ref p2,.ref p3,.ref p4])) H'∧∃ t8 t9,σ=[t0,some (.ref A),some (.ref B),t3,t4,some (.ref R5),t6,t7,t8,t9,t10,t11,t12,t13,t14,t15]) ⟨.refl _,_,_,rfl⟩ (fun i σ H' _ ⟨s',_⟩=>.of (s' _ _ upd_same)) ?_ ?_
  · rintro i x σ H8 hx ⟨s8,t8',t9',rfl⟩
    obtain⟨p,R,xs,n,rfl,hp',hR,rw⟩:=hh i x hx
    refine⟨p,_,rfl,.of (s8 _ _ hp'),rfl,_,_,rfl,_,_,rfl,rfl,?_⟩
    refine ne_int (a:=n) (fun Q q=>ask (ls_var (i:=8) rfl (s8 _ _ hR)) rw q) (fun _ _ q=>⟨_,rfl,q⟩) fun H9 s9=>iteF ?_
    exact⟨s8.trans s9,_,_,rfl⟩
  · rintro σ H8 ⟨s8,t8',t9',rfl⟩
    exact k _ _ _ _ _ _ _ _ _ _ _ _ _ _ (s8 _ _ (sAll _ _ hA4)) (s8 _ _ (sAll _ _ hB4))
end
section
def five:List Str:=["line a 1 up 1 1 1: run 1","line c 2 up 1 1 1: run 1","line d 3 up 1 1 1: run 1","line e 4 up 1 1 1: run 1","line f 5 up 1 1 1: run 1"]
def lows:List Str:=["bottom a: run 1","bottom b: run 1","bottom c: run 1","bottom d: run 1","bottom e: run 1"]
abbrev s1F (c:Nat):Str:=("line ":Str)++(⟨#[c]⟩:Str)
abbrev s3F (c k:Nat):Str:=(s1F c++(" ":Str))++Str.ofString (toString ((1:Int)+(k:Nat)))
def FiveEl (k c:Nat):Prop:=(s1F c).length≤100∧(s1F c++(" ":Str)).length≤100∧(Str.ofString (toString ((1:Int)+(k:Nat)))).length≤100∧(s3F c k).length≤100∧five[k]?=some (s3F c k++(" up 1 1 1: run 1":Str))∧((1:Int)+(k:Nat)).natAbs.log2 < 1920
instance (k c:Nat):Decidable (FiveEl k c):=by unfold FiveEl;infer_instance
theorem five_all:∀ k:Fin 5,∀ c∈(("acdef":Str).cps[k.val]?).toList,FiveEl k.val c:=by decide +kernel
theorem five_el {k c:Nat} (hk:k < 5) (hc:("acdef":Str).cps[k]?=some c):FiveEl k c:=five_all ⟨k,hk⟩ c (by show c∈(("acdef":Str).cps[k]?).toList;rw[hc];simp)
def LowEl (k c:Nat):Prop:=(("bottom ":Str)++(⟨#[c]⟩:Str)).length≤100∧lows[k]?=some ((("bottom ":Str)++(⟨#[c]⟩:Str))++(": run 1":Str))
instance (k c:Nat):Decidable (LowEl k c):=by unfold LowEl;infer_instance
theorem low_all:∀ k:Fin 5,∀ c∈(("abcde":Str).cps.toList[k.val]?).toList,LowEl k.val c:=by decide +kernel
theorem low_el {k c:Nat} (hk:k < 5) (hc:("abcde":Str).cps.toList[k]?=some c):LowEl k c:=low_all ⟨k,hk⟩ c (by show c∈(("abcde":Str).cps.toList[k]?).toList;rw[hc];simp)
theorem one_len (c:Nat):(⟨#[c]⟩:Str).length=1:=rfl
theorem nl1:rowAns (.str (rL1++("\n":Str)))=some 1:=by decide +kernel
theorem nl2:rowAns (.str "")=some 0:=by decide +kernel
theorem nl3:rowAns (.str "line a 1 up 1 1 1: run 1, answer b")=some 1:=by decide +kernel
theorem l101:PyData.eqv (.list [.int 1,.int 0,.int 1]) (.list [.int 1,.int 0,.int 1])=true:=by decide +kernel
theorem l101s:SeqAt.shaped (.list [.int 1,.int 0,.int 1])=true:=by decide +kernel
section
variable {Pg:Program} {w:World} {K:W.Frag} {mg:Str→Option Value} {base:Heap} {ad:Ad}
theorem law_c {A B:Addr} {t0 t3 t4 t5 t6 t7 t8 t9 t10 t11 t12 t13 t14 t15:Option V} {H:Hp} {Q:VK} (hA:H A=some (.lst (([rL1,rL2]:List Str).map V.str))) (hB:H B=some (.lst (([rO1,rO2]:List Str).map V.str))) (q:∀ H',Q (.bl true) H') :
    lwT9 K { nx:=fun _ H'=>Q .non H',rt:=Q } [t0,some (.ref A),some (.ref B),t3,t4,t5,t6,t7,t8,t9,t10,t11,t12,t13,t14,t15] H:=by
  have z:=szL
  have n1:("line ":Str).length=5:=by decide +kernel
  have n2:(" ":Str).length=1:=by decide +kernel
  have n3:(" up 1 1 1: run 1":Str).length=16:=by decide +kernel
  have n4:("bottom ":Str).length=7:=by decide +kernel
  have n5:(": run 1":Str).length=7:=by decide +kernel
  have n6:rL1.length+("\n":Str).length≤100:=by decide +kernel
  dsimp only [lwT9,tSeq,tAsg]
  refine⟨"acdef",rfl,fun Z hZ=>?_⟩
  have sz5:("acdef":Str).cps.size=5:=by decide +kernel
  refine⟨fun k m H2=>k+m=5∧Same H H2∧H2 Z=some (.lst ((five.take k).map V.str)),⟨5,by omega,same_new hZ,upd_same⟩,?_⟩
  rintro k m H2 ⟨em,s2,h2⟩
  by_cases hk:k < 5
  · refine .inr ⟨(by show k < ("acdef":Str).cps.size;rw[sz5];exact hk),fun H3=>Same H H3∧H3 Z=some (.lst ((five.take (k+1)).map V.str)),fun H3 ⟨a,b⟩=>⟨m-1,by omega,by omega,a,b⟩,fun x' H' hyl=>?_⟩
    obtain⟨T,c,rfl,hT,rfl,hc⟩:=hyl
    obtain⟨e1,e2,e3,e4,e5,e6⟩:=five_el hk hc
    dsimp only [s1F,s3F] at e1 e2 e4 e5
    have sT:=same_new (o:=.tup [.int (k:Nat),.str ⟨#[c]⟩]) hT
    refine⟨T,_,rfl,.of upd_same,rfl,_,_,rfl,_,_,rfl,rfl,?_⟩
    refine⟨rfl,?_⟩
    simp only[tYes,if_true]
    refine⟨_,rfl,_,_,rfl,rfl,by rw[one_len];omega,_,_,rfl,rfl,by omega,.int (k:Nat),rfl,1,(k:Nat),rfl,rfl,.inr ⟨1+(k:Nat),rfl,e6,_,_,rfl,rfl,by omega,_,_,rfl,rfl,by omega,?_⟩⟩
    refine⟨_,sT _ _ h2,by rw[List.length_map,List.length_take];omega,fun b o hb=>?_,?_⟩
    · rw[upd_ne (fun z=>by subst z;rw[hZ] at hb;cases hb)]
      exact sT _ _ (s2 _ _ hb)
    · rw[upd_same,List.take_add_one,e5,List.map_append]
      rfl
  · have ek:k=5:=by omega
    subst ek
    refine .inl ⟨sz5.symm,?_⟩
    have h2:H2 Z=some (.lst (five.map V.str)):=h2
    have hA2:=s2 _ _ hA
    have hB2:=s2 _ _ hB
    have lsg:(signs ("abcde":Str)).length=5:=by decide +kernel
    dsimp only [gName,tSeq,tAsg]
    refine rd_map (lows.map V.str) (wk_str "abcde") (fun R r=>⟨"abcde",rfl,r⟩) (by rw[List.length_map,lsg];rfl) (by omega) (fun j x y hx hy H3 Q' s3 q'=>?_) (fun W H3 s3 hW0 hW=>?_)
    · have hj:j < 5:=by rw[← lsg];exact (List.getElem?_eq_some_iff.mp hx).1
      unfold signs at hx
      rw[List.getElem?_map] at hx
      cases hc:("abcde":Str).cps.toList[j]? with
      | none=>rw[hc] at hx;cases hx
      | some c =>
        rw[hc] at hx
        cases hx
        obtain⟨e1,e2⟩:=low_el hj hc
        rw[List.getElem?_map,e2] at hy
        cases hy
        exact⟨_,rfl,_,_,rfl,rfl,by rw[one_len];omega,_,_,rfl,rfl,by omega,q' _ (.refl _)⟩
    · have h3:=s3 _ _ h2
      have hA3:=s3 _ _ hA2
      have hB3:=s3 _ _ hB2
      refine ne_m1 (fun Q q=>ask (ls_cat (ls_var (i:=6) rfl h3) (ls_to (K:=K) (n:=4) (ls_var (i:=7) rfl hW) fun _ _ q=>q) (by decide)) (rows_dec (by decide +kernel)) q) fun H4 s4=>?_
      refine iteF ?_
      refine ne_int (a:=5) (fun Q q=>ask (ls_cat (ls_var (i:=6) rfl (s4 _ _ h3)) (ls_lst ["line g 9 up 1 1 1: run 1"] (by decide)) (by decide)) (rows_dec (by decide +kernel)) q) (fun _ _ q=>q) fun H5 s5=>iteF ?_
      have s45:=s4.trans s5
      refine ne_int (a:=9) (fun Q q=>ask (ls_cat (ls_var (i:=6) rfl (s45 _ _ h3)) (ls_var (i:=7) rfl (s45 _ _ hW)) (by decide)) (rows_dec (by decide +kernel)) q) (fun _ _ q=>q) fun H6 s6=>?_
      refine iteF ?_
      have s46:=s45.trans s6
      refine ne_int (a:=2) (fun Q q=>ask (ls_var (i:=1) rfl (s46 _ _ hA3)) (rows_dec (by decide +kernel)) q) (fun _ _ q=>q) fun H7 s7=>iteF ?_
      have s47:=s46.trans s7
      refine ne_int (a:=3) (fun Q q=>ask (ls_cat (ls_var (i:=1) rfl (s47 _ _ hA3)) (ls_to (K:=K) (n:=1) (ls_var (i:=2) rfl (s47 _ _ hB3)) fun _ _ q=>q) (by decide)) (rows_dec (by decide +kernel)) q) (fun _ _ q=>q) fun H8 s8=>iteF ?_
      have s48:=s47.trans s8
      refine⟨.ref A,rfl,A,_,0,.str rL1,rfl,rfl,.of (s48 _ _ hA3),rfl,_,_,rfl,rfl,(show rL1.length+("\n":Str).length≤sizeLine by omega),?_⟩
      refine⟨_,.str (rL1++("\n":Str)),1,rfl,.str _,nl1,fun H9 s9=>⟨_,.str "",0,rfl,.str _,nl2,fun H10 s10=>⟨_,.str "line a 1 up 1 1 1: run 1, answer b",1,rfl,.str _,nl3,fun H11 s11=>⟨(show 3≤sizeLine by decide),fun x1 hx1=>⟨(show 3≤sizeLine by decide),fun x2 hx2=>?_⟩⟩⟩⟩⟩
      refine⟨.list [.int 1,.int 0,.int 1],.list [.int 1,.int 0,.int 1],(Dq.lst ((same_new hx2) _ _ upd_same) (.cons (.int 1) (.cons (.int 0) (.cons (.int 1) .nil)))).dp,(Dq.lst upd_same (.cons (.int 1) (.cons (.int 0) (.cons (.int 1) .nil)))).dp,l101s,l101s,?_⟩
      rw[l101]
      exact q _
def spLawR (K:W.Frag):Sp:=fun vs H Q _=>∃ (a:Addr) (ns:List Int),vs=[.ref a]∧ScA K a ns H∧ns.length≤63∧∀ H',Q (.bl true) H'
theorem rd_law:∀ vs H Q E,spLawR K vs H Q E→t_law Pg w K ad (spCell K) spNum (spLRow K) (spListL badL) (spListL badO) { nx:=fun _ H'=>Q .non H',rt:=Q } (start ns_law vs) H:=by
  rintro vs H Q E ⟨a,ns,rfl,sc,hl,q⟩
  exact law_a sc hl fun A B t3 t4 t5 t6 t7 t8 t9 t10 t11 t12 t13 t14 t15 H' hA hB=>law_b hA hB fun _ _ _ _ _ _ _ _ _ _ _ _ _ H2 hA2 hB2=>law_c hA2 hB2 q
theorem f_law (T:Txt Pg w K mg base ad):FnAt Pg w K mg base (18+1) ad.a_law ad.d_law ps_law (spLawR K) :=
  ok_law T (f_Zb T) (f_Zc T) (f_Z4 T) (f_Z0 T) (f_Z2 T) (fun vs H Q E ⟨_,_,e,_⟩=>by rw[e];rfl) rd_law
theorem sca_of {H:Hp} {a:Addr} {ns:List Int} (o:OnlyT [] H) (s:SqL K H a (ns.map V.int)):ScA K a ns H:=by
  rcases s with (s | s) | s
  · rcases o a with z | ⟨_,_,z⟩ | ⟨_,z⟩ <;> rw[z] at s <;> cases s
  · exact .inr s
  · exact .inl s
end
end
theorem walkR {l:W.OpenLaw} {q:Program} {loose:List Str} {XP:(Str→Option Value)→Heap→Prop} {YP:World→Heap→Prop} {d:DefRec} {K:Params→W.Frag} {k:Nat} {x:Str} (hn:l.most=some 63) (hdf:d.params.defaults=[]) (hr:Room k callerA)
    (hY:∀ (w:World) (h:Heap),YP w h→(K w.params).In h)
    (F:∀ (w:World) (mg:Str→Option Value) (fa:Addr) (h:Heap),(K w.params).In h→h.Ns mainGlobals mg→mg d.name=some (.ref fa) →
      ∃ (fd:FuncData),(∀ (s:Shared) (u:Value),BindsTo s fd ⟨[u],[]⟩ [(x,u)]) ∧
        ∀ base:Heap,(K w.params).In base→base.Ns mainGlobals mg→BmOk [] mg base→FnAt l.prog w (K w.params) mg base k fa fd [x] (spLawR (K w.params))) :
    W.WalkO q loose XP YP l.row.toRowW d [] (fun f vs=>PySem.call f vs) :=
  Ev.walkA (sp:=fun w _=>spLawR (K w.params)) [] hn hdf hr (fun w h y=>⟨hY w h y,fun _ z=>by cases z⟩) fun w mg fa h a b c=>by
    obtain⟨fd,h1,h3⟩:=F w mg fa h a b c
    exact⟨fd,[],h1,fun _ z=>(by cases z),h3,fun H a ns hl hO _ hS=>⟨a,ns,rfl,sca_of hO hS,hl,fun _=>rfl⟩⟩
end
end G
set_option maxRecDepth 100000 in
set_option maxHeartbeats 0 in
theorem PySem.Challenge.cw_knockwell_k05_rows_refused_holds : PySem.Challenge.rw_knockwell_k05_rows_refused.Holds := by
  w_on;o_law;k_head;(case hw=>w_witness2)
  k_fill
  refine G.walkR (l:=PySem.Challenge.rw_knockwell_k05_rows_refused) (x:="_law_script") (k:=18+1) rfl rfl ⟨rfl,by decide,by decide⟩ (fun w h Y=>by first | exact PySem.W.kIn_of Y | exact PySem.W.km_in_of Y) ?F
  case F =>
    intro w mg fa h KX Gn hmg
    have T:∃ ad:G.Ad,(∀ base:PySem.Heap,(L2.KOf KX).In base→Ev.BmOk [] mg base→G.Txt PySem.Challenge.pw_knockwell_k05_rows_refused w (L2.KOf KX) mg base ad)∧mg "law"=some (.ref ad.a_law)∧(∀ (s:PySem.Shared) (v:PySem.Value),PySem.BindsTo s ad.d_law ⟨[v],[]⟩ [("_law_script",v)]):=by
      dsimp only [L2.KOf]
      refine' G.txt_mk KX Gn ?g_c_Plan ?g_Z6 ?l_Z6 ?o_Z6 ?k_Z6 ?g_Zg ?l_Zg ?o_Zg ?k_Zg ?g_Zr ?l_Zr ?o_Zr ?k_Zr ?g_Z1 ?l_Z1 ?o_Z1 ?k_Z1 ?g_Z9 ?l_Z9 ?o_Z9 ?k_Z9 ?g_Zj ?l_Zj ?o_Zj ?k_Zj ?g_Za ?l_Za ?o_Za ?k_Za ?g_Zp ?l_Zp ?o_Zp ?k_Zp ?g_Zs ?l_Zs ?o_Zs ?k_Zs ?g_Zo ?l_Zo ?o_Zo ?k_Zo ?g_Zq ?l_Zq ?o_Zq ?k_Zq ?g_Zk ?l_Zk ?o_Zk ?k_Zk ?g_Zi ?l_Zi ?o_Zi ?k_Zi ?g_Zh ?l_Zh ?o_Zh ?k_Zh ?g_Z5 ?l_Z5 ?o_Z5 ?k_Z5 ?g_Zf ?l_Zf ?o_Zf ?k_Zf ?g_Z7 ?l_Z7 ?o_Z7 ?k_Z7 ?g_Z8 ?l_Z8 ?o_Z8 ?k_Z8 ?g_Ze ?l_Ze ?o_Ze ?k_Ze ?g_Zd ?i_Zd ?l_Zd ?q_Zd ?o_Zd ?k_Zd ?g_Zb ?l_Zb ?o_Zb ?k_Zb ?g_Zl ?l_Zl ?o_Zl ?k_Zl ?g_Zc ?l_Zc ?o_Zc ?k_Zc ?g_Z3 ?l_Z3 ?o_Z3 ?k_Z3 ?g_Zm ?l_Zm ?o_Zm ?k_Zm ?g_Zn ?l_Zn ?o_Zn ?k_Zn ?g_Zt ?l_Zt ?o_Zt ?k_Zt ?g_Z4 ?l_Z4 ?o_Z4 ?k_Z4 ?g_Z0 ?l_Z0 ?o_Z0 ?k_Z0 ?g_Z2 ?l_Z2 ?o_Z2 ?k_Z2 ?g_law ?l_law ?o_law ?k_law ?g_c_BadRows ?g_c_KnockError ?exm_BadRows ?ih_BadRows ?iq_BadRows ?ib_BadRows ?ic_BadRows ?ia_BadRows ?in_BadRows ?it_BadRows ?im_BadRows ?kiv_BadRows ?kit_BadRows_BadRows ?ei_BadRows ?el_BadRows ?eo2_BadRows ?ec_BadRows ?ef_BadRows ?ek_BadRows ?en_BadRows ?eself_BadRows ?eval_BadRows ?eopq_BadRows ?esa_BadRows ?enof_BadRows ?eu_BadRows ?et_BadRows ?eb_BadRows ?ehd_BadRows ?esup ?pg_Plan ?hd_Plan ?po_Plan ?sa_Plan ?mk_Plan ?kc_Plan ?no_Plan_line_rows ?no_Plan_bottom_rows ?no_Plan_thread_rows ?b_ValueError ?b_all ?b_any ?b_bool ?b_dict ?b_enumerate ?b_int ?b_isinstance ?b_len ?b_list ?b_max ?b_min ?b_range ?b_reversed ?b_str ?b_tuple ?v_DIGITS ?v_LARGE ?v_LETTERS ?v_LONGEST_NAME ?v_LONGEST_REST ?v_MOST_BOTTOMS ?v_MOST_DIGITS ?v_MOST_LET_BY ?v_MOST_LINES ?v_MOST_RANK ?v_MOST_STEPS ?v_MOST_THREADS ?v_MOST_TICKS ?v_WIDEST ?v_LONE_WORDS ?w_LONE_WORDS ?v_NAMING_WORDS ?w_NAMING_WORDS ?w_Emp0_Plan_init_bottoms ?w_Emp0_Plan_init_threads ?z_Zd_0
      (case g_c_Plan|g_Z6|l_Z6|o_Z6|k_Z6|g_Zg|l_Zg|o_Zg|k_Zg|g_Zr|l_Zr|o_Zr|k_Zr|g_Z1|l_Z1|o_Z1|k_Z1|g_Z9|l_Z9|o_Z9|k_Z9|g_Zj|l_Zj|o_Zj|k_Zj|g_Za|l_Za|o_Za|k_Za|g_Zp|l_Zp|o_Zp|k_Zp|g_Zs|l_Zs|o_Zs|k_Zs|g_Zo|l_Zo|o_Zo|k_Zo|g_Zq|l_Zq|o_Zq|k_Zq|g_Zk|l_Zk|o_Zk|k_Zk|g_Zi|l_Zi|o_Zi|k_Zi|g_Zh|l_Zh|o_Zh|k_Zh|g_Z5|l_Z5|o_Z5|k_Z5|g_Zf|l_Zf|o_Zf|k_Zf|g_Z7|l_Z7|o_Z7|k_Z7|g_Z8|l_Z8|o_Z8|k_Z8|g_Ze|l_Ze|o_Ze|k_Ze|g_Zd|i_Zd|l_Zd|q_Zd|o_Zd|k_Zd|g_Zb|l_Zb|o_Zb|k_Zb|g_Zl|l_Zl|o_Zl|k_Zl|g_Zc|l_Zc|o_Zc|k_Zc|g_Z3|l_Z3|o_Z3|k_Z3|g_Zm|l_Zm|o_Zm|k_Zm|g_Zn|l_Zn|o_Zn|k_Zn|g_Zt|l_Zt|o_Zt|k_Zt|g_Z4|l_Z4|o_Z4|k_Z4|g_Z0|l_Z0|o_Z0|k_Z0|g_Z2|l_Z2|o_Z2|k_Z2|g_law|l_law|o_law|k_law|g_c_BadRows|g_c_KnockError|ih_BadRows|iq_BadRows|ib_BadRows|ia_BadRows|in_BadRows|it_BadRows|im_BadRows|ei_BadRows|el_BadRows|eo2_BadRows|ec_BadRows|ek_BadRows|eself_BadRows|eval_BadRows|eopq_BadRows|esa_BadRows|enof_BadRows|esup|pg_Plan|hd_Plan|po_Plan|sa_Plan|mk_Plan|kc_Plan|no_Plan_line_rows|no_Plan_bottom_rows|no_Plan_thread_rows|b_ValueError|b_all|b_any|b_bool|b_dict|b_enumerate|b_int|b_isinstance|b_len|b_list|b_max|b_min|b_range|b_reversed|b_str|b_tuple|v_DIGITS|v_LARGE|v_LETTERS|v_LONGEST_NAME|v_LONGEST_REST|v_MOST_BOTTOMS|v_MOST_DIGITS|v_MOST_LET_BY|v_MOST_LINES|v_MOST_RANK|v_MOST_STEPS|v_MOST_THREADS|v_MOST_TICKS|v_WIDEST|v_LONE_WORDS|w_LONE_WORDS|v_NAMING_WORDS|w_NAMING_WORDS|w_Emp0_Plan_init_bottoms|w_Emp0_Plan_init_threads=>k_is)
      (case z_Zd_0=>exact fun S us ws hu hw=>match us,ws,hu,hw with | [_,_],[_,_],_,_=>by kernel_rfl)
      (case exm_BadRows=>first | kernel_rfl | decide +kernel | rfl | (unfold PySem.W.kitOne;exact if_pos (by simp)) | (unfold PySem.W.exmOne;exact if_pos (by simp)) | k_is)
      (case ic_BadRows=>first | kernel_rfl | decide +kernel | rfl | (unfold PySem.W.kitOne;exact if_pos (by simp)) | (unfold PySem.W.exmOne;exact if_pos (by simp)) | k_is)
      (case kiv_BadRows=>first | kernel_rfl | decide +kernel | rfl | (unfold PySem.W.kitOne;exact if_pos (by simp)) | (unfold PySem.W.exmOne;exact if_pos (by simp)) | k_is)
      (case kit_BadRows_BadRows=>first | kernel_rfl | decide +kernel | rfl | (unfold PySem.W.kitOne;exact if_pos (by simp)) | (unfold PySem.W.exmOne;exact if_pos (by simp)) | k_is)
      (case ef_BadRows=>exact⟨_,_,rfl,by first | rfl | decide +kernel⟩)
      (case en_BadRows=>first | kernel_rfl | decide +kernel | rfl | (unfold PySem.W.kitOne;exact if_pos (by simp)) | (unfold PySem.W.exmOne;exact if_pos (by simp)) | k_is)
      (case eu_BadRows=>first | kernel_rfl | decide +kernel | rfl | (unfold PySem.W.kitOne;exact if_pos (by simp)) | (unfold PySem.W.exmOne;exact if_pos (by simp)) | k_is)
      (case et_BadRows=>first | kernel_rfl | decide +kernel | rfl | (unfold PySem.W.kitOne;exact if_pos (by simp)) | (unfold PySem.W.exmOne;exact if_pos (by simp)) | k_is)
      (case eb_BadRows=>exact fun S e v=>by first | kernel_rfl | rfl)
      (case ehd_BadRows=>first | kernel_rfl | decide +kernel | rfl | (unfold PySem.W.kitOne;exact if_pos (by simp)) | (unfold PySem.W.exmOne;exact if_pos (by simp)) | k_is)
    obtain⟨ad,T,hl,hb⟩:=T
    have e0:=hmg.symm.trans hl
    cases e0
    exact⟨ad.d_law,hb,fun base kb nb bm=>G.f_law (T base kb bm)⟩
