import PyProof.Rows.All
import Wide.All
import OpenK.AllK
import Wide.FinOn
import Lean
import PyProof.EqAt
import PyProof.EqKinds
import PyProof.TupleCall
import PyProof.NeKinds
import PySem.Challenge.RW_earbells_k23_what_is_heard
set_option Elab.async false
set_option linter.all false
set_option maxRecDepth 100000
noncomputable section
namespace PySem.W.Fast
def tw1346976438074674450:Nat:=0
def tw17552633151338108740:Nat:=0
def tw16574184017684023871:Nat:=0
def tw7156635770813986577:Nat:=0
def tw13342255763884394316:Nat:=0
def tw17342637268034529910:Nat:=0
def tw18413073846308705075:Nat:=0
def tw5227726768230085981:Nat:=0
def tw12962476492216294633:Nat:=0
def tw6318375136326967831:Nat:=0
def tw491316965101435436:Nat:=0
def tw14322121772933452275:Nat:=0
def tw1203976756090984592:Nat:=0
def tw11542893070215156867:Nat:=0
def tw7178186380057833259:Nat:=0
def tw16948048046469991517:Nat:=0
def tw9202347945146814779:Nat:=0
def tw9373416440891580401:Nat:=0
def tw1027186882693085331:Nat:=0
def tw8547667956837470833:Nat:=0
def tw1576905908232352306:Nat:=0
def tw5710300767815759714:Nat:=0
def tw7985819037663901834:Nat:=0
def tw8230091915402444686:Nat:=0
def tw6451958523436487944:Nat:=0
def tw8374902190493699755:Nat:=0
def tw7264358743986798930:Nat:=0
def tw4518009957692965582:Nat:=0
def tw10906805551605516448:Nat:=0
def tw8418319977159852817:Nat:=0
def tw2038819339134019227:Nat:=0
def tw5415638942623683901:Nat:=0
def tw7474608265508286206:Nat:=0
def tw13177375207025229940:Nat:=0
def tw11530372573898958632:Nat:=0
def tw5378570378196489839:Nat:=0
def tw10543908785525803505:Nat:=0
def tw1646019442177621010:Nat:=0
def tw15903551584539141558:Nat:=0
def tw15010558760199259973:Nat:=0
def tw4497381109516220632:Nat:=0
def tw771778699174763346:Nat:=0
def tw3849841959662691911:Nat:=0
def tw12475753584092721724:Nat:=0
def tw10878643942180422397:Nat:=0
def tw14104193393565665430:Nat:=0
def tw16179433025201949906:Nat:=0
def tw14401528470410365754:Nat:=0
def tw6031195531709258809:Nat:=0
def tw2240159865657036775:Nat:=0
def tw11657622793474130672:Nat:=0
def tw2811814700727266905:Nat:=0
def tw8798116580641240000:Nat:=0
def tw15679931389342156515:Nat:=0
def tw6424893114822714449:Nat:=0
def tw14145597970734400480:Nat:=0
def tw3060349966792630266:Nat:=0
def tw11492962259518337521:Nat:=0
def tw10309894946988883937:Nat:=0
def tw4851676857685197760:Nat:=0
def tw17978161547360655825:Nat:=0
def tw14391037817012889797:Nat:=0
def tw17859743078082664114:Nat:=0
def tw13725228577923234717:Nat:=0
def tw1050848815068971404:Nat:=0
def tw8873722124384341958:Nat:=0
def tw6350378363384929930:Nat:=0
def tw14734237732335015348:Nat:=0
def tw2800577953285670796:Nat:=0
def tw13110575328447228481:Nat:=0
def tw6078536582634547079:Nat:=0
def tw5024149705327647771:Nat:=0
def tw3037539214852424517:Nat:=0
def tw4498717223297524461:Nat:=0
def tw4602732075050927124:Nat:=0
def tw3407898342370115391:Nat:=0
def tw12129745634157672563:Nat:=0
def tw17225817460339974197:Nat:=0
def tw8709010518707419139:Nat:=0
def tw1710764464916295207:Nat:=0
def tw91118141194637100:Nat:=0
def tw12372888656522056456:Nat:=0
def tw18257781806370489817:Nat:=0
def tw6281868262219097502:Nat:=0
def tw1846546076258858530:Nat:=0
def tw16136155451438191528:Nat:=0
def tw9687335747723597917:Nat:=0
def tw3867631131334256272:Nat:=0
def tw5184021454664886712:Nat:=0
def tw5770332341396677387:Nat:=0
def tw3106141292000666422:Nat:=0
def tw10226920929788866812:Nat:=0
def tw11278139974697321129:Nat:=0
def tw2036168583486588618:Nat:=0
def tw13256345624503794643:Nat:=0
def tw6833038287238153347:Nat:=0
def tw15254831450097140440:Nat:=0
def tw2753435487256839863:Nat:=0
def tw11078410241780990624:Nat:=0
def tw4918853553919255016:Nat:=0
def tw9848808486603408113:Nat:=0
def tw12493520821404387796:Nat:=0
def tw17679049202424426833:Nat:=0
def tw13213142474893537451:Nat:=0
def tw16911204485813547382:Nat:=0
def tw9252619977746479718:Nat:=0
def tw12597458444243227215:Nat:=0
def tw16733099164025528797:Nat:=0
def tw6922327792309636589:Nat:=0
def tw9873173138494456203:Nat:=0
def tw15783294484109722531:Nat:=0
def tw14658452733942600963:Nat:=0
def tw5084303559333350934:Nat:=0
def tw6770681973561185093:Nat:=0
def tw8949786445792358307:Nat:=0
def tw6944029351660941271:Nat:=0
def tw6732479139613435598:Nat:=0
def tw14691847909621128848:Nat:=0
def tw13769719177401550653:Nat:=0
def tw5170741665673903903:Nat:=0
def tw9404118378382162961:Nat:=0
def tw7108475075656441346:Nat:=0
def tw4950816305594045044:Nat:=0
def tw5572401027809666656:Nat:=0
def tw10730141218358828715:Nat:=0
def tw269815676812054514:Nat:=0
def tw1380327576622256964:Nat:=0
def tw17283437396214710339:Nat:=0
def tw311353662905281764:Nat:=0
def tw8544160730365446801:Nat:=0
def tw4048687750242401511:Nat:=0
def tw1982580860480738048:Nat:=0
def tw777530580560974935:Nat:=0
def tw271414593389772704:Nat:=0
def tw641371511685216330:Nat:=0
def tw10962791322506350410:Nat:=0
def tw12181046050878077682:Nat:=0
def tw10477938967822415001:Nat:=0
def tw3319454470345514041:Nat:=0
def tw13750023605406441449:Nat:=0
def tw293603954610777383:Nat:=0
def tw18180604063775235044:Nat:=0
def tw12137163155449817354:Nat:=0
def tw2861352142677904699:Nat:=0
def tw4564694992352027534:Nat:=0
def tw336015397946641949:Nat:=0
def tw16083784690645731555:Nat:=0
def tw4401602029470013788:Nat:=0
def tw17937671060181001458:Nat:=0
def tw18252245061878705778:Nat:=0
def tw11004183837427472049:Nat:=0
def tw2464273704580002343:Nat:=0
def tw18161981231085708562:Nat:=0
def tw11511318081655687273:Nat:=0
def tw7949804065591723089:Nat:=0
def tw9342588824708410760:Nat:=0
def tw5108294606027506604:Nat:=0
def tw3412167156843027159:Nat:=0
def tw9002771559599987593:Nat:=0
def tw12923941465314185645:Nat:=0
def tw11385301567860746142:Nat:=0
def tw1949541695932493685:Nat:=0
def tw12244809937777592368:Nat:=0
def tw9468853774255908319:Nat:=0
def tw17382678018605117255:Nat:=0
def tw10852770413618387268:Nat:=0
def tw15136694753565179913:Nat:=0
def tw5699884175170049517:Nat:=0
def tw10392819612810274268:Nat:=0
def tw134383757125036937:Nat:=0
def tw2859290655600796345:Nat:=0
def tw1544723902695909303:Nat:=0
def tw4354347354524492435:Nat:=0
def tw15951298240608214487:Nat:=0
def tw6766148862733567630:Nat:=0
def tw5119027190077162650:Nat:=0
def tw11102145610099623924:Nat:=0
def tw8641906399844733872:Nat:=0
def tw15038665949248595570:Nat:=0
def tw7474418557531983936:Nat:=0
def tw9897752159458646993:Nat:=0
def tw18047472727364515654:Nat:=0
def tw15715226994012743223:Nat:=0
def tw3007262477903459927:Nat:=0
def tw1984476036134992578:Nat:=0
def tw9340559080976694379:Nat:=0
def tw13219427279252838167:Nat:=0
def tw3398870597992981399:Nat:=0
def tw4083085852037423944:Nat:=0
def tw15712810173904621486:Nat:=0
def tw17060522815511616494:Nat:=0
def tw16739962803677494479:Nat:=0
def tw17054637822620497432:Nat:=0
def tw11284971249590504615:Nat:=0
def tw8315842845494861763:Nat:=0
def tw4248777110514776879:Nat:=0
def tw7893675177380740943:Nat:=0
def tw6242325379687270809:Nat:=0
def tw14965333523093359592:Nat:=0
def tw16228171631985365186:Nat:=0
def tw16728835639918443664:Nat:=0
def tw3679089792867169017:Nat:=0
def tw16136024766752798992:Nat:=0
def tw8911861887957536005:Nat:=0
def tw4752246066706260258:Nat:=0
def tw11776647891601015305:Nat:=0
def tw1405906918407392620:Nat:=0
def tw18301439402504230243:Nat:=0
def tw13899169035383541619:Nat:=0
def tw9087758301383855817:Nat:=0
def tw12788828187228430492:Nat:=0
def tw17923221052246509756:Nat:=0
def tw7584949932118894817:Nat:=0
def tw12627765735313994629:Nat:=0
def tw1485248484221514001:Nat:=0
def tw12262819445773933445:Nat:=0
def tw411947673224625684:Nat:=0
def tw15793751609474303932:Nat:=0
def tw8852967498216349204:Nat:=0
def tw10072548444639442828:Nat:=0
def tw6708607802306660244:Nat:=0
def tw2586882079179057192:Nat:=0
def tw5496147887167622312:Nat:=0
def tw9135020937233079940:Nat:=0
def tw11259300471620681329:Nat:=0
def tw16555978506189988422:Nat:=0
def tw5468846045959151274:Nat:=0
def tw12148953589351826333:Nat:=0
def tw3932251961872256753:Nat:=0
def tw12803503474760547534:Nat:=0
def tw2532647386621603086:Nat:=0
def tw15886490127158216512:Nat:=0
def tw10920944924645241951:Nat:=0
def tw4153951422205315519:Nat:=0
def tw6373958662466809686:Nat:=0
def tw16489864797357329169:Nat:=0
def tw17346767384916084447:Nat:=0
def tw8560887598695227543:Nat:=0
def tw7293616696408277433:Nat:=0
end PySem.W.Fast
namespace L2
open PySem PySem.Spec PyProof.Rows
abbrev Key:=Sum Int Str
def keyIs:Key→Value→Bool
  | .inl k,v=>Value.isInt k v
  | .inr x,v=>Value.isStrOf x v
def keyH (w:World):Key→Int
  | .inl k=>hashInt k
  | .inr x=>hashStr w x
theorem keyIs_shape:∀ {k:Key} {v:Value},keyIs k v=true→(∃ i t,k=Sum.inl i∧v=Value.int i t)∨(∃ x t,k=Sum.inr x∧v=Value.str x t)
  | .inl i,v,h=>by
    obtain ⟨t,e⟩:=Value.isInt_shape (k:=i) (v:=v) h
    exact .inl ⟨i,t,rfl,e⟩
  | .inr x,v,h=>by
    obtain ⟨t,e⟩:=Value.isStrOf_shape (x:=x) (v:=v) h
    exact .inr ⟨x,t,rfl,e⟩
theorem key_ll (a b:Int):decide ((Sum.inl a:Key)=Sum.inl b)=(a == b):=by
  by_cases e:a=b
  · subst e; simp
  · have h:¬ (Sum.inl a:Key)=Sum.inl b:=fun q=>e (Sum.inl.inj q)
    rw [decide_eq_false h]
    exact (beq_eq_false_iff_ne.mpr e).symm
theorem key_rr (a b:Str):decide ((Sum.inr a:Key)=Sum.inr b)=decide (a=b):=by
  by_cases e:a=b
  · subst e; simp
  · have h:¬ (Sum.inr a:Key)=Sum.inr b:=fun q=>e (Sum.inr.inj q)
    rw [decide_eq_false h,decide_eq_false e]
theorem key_lr (a:Int) (b:Str):decide ((Sum.inl a:Key)=Sum.inr b)=false:=decide_eq_false (fun q=>nomatch q)
theorem key_rl (a:Str) (b:Int):decide ((Sum.inr a:Key)=Sum.inl b)=false:=decide_eq_false (fun q=>nomatch q)
def mixKind (prog:Program) (w:World):PySem.KeyKind prog w Key where
  is:=keyIs
  hash:=keyH w
  inj:=fun v a b ha hb=>by
    rcases keyIs_shape ha with ⟨i,t,rfl,rfl⟩ | ⟨x,t,rfl,rfl⟩
    · rcases keyIs_shape hb with ⟨j,u,rfl,e⟩ | ⟨y,u,rfl,e⟩
      · injection e with e1 _; rw [e1]
      · exact nomatch e
    · rcases keyIs_shape hb with ⟨j,u,rfl,e⟩ | ⟨y,u,rfl,e⟩
      · exact nomatch e
      · injection e with e1 _; rw [e1]
  byValue:=fun k v h=>by
    rcases keyIs_shape h with ⟨i,t,rfl,rfl⟩ | ⟨x,t,rfl,rfl⟩ <;> rfl
  pyHash:=fun hv h=>by
    rcases keyIs_shape hv with ⟨i,t,rfl,rfl⟩ | ⟨x,t,rfl,rfl⟩
    · exact wpAny_pyHash_int h
    · exact wpAny_pyHash_str h
  eqBool:=fun hu hv h=>by
    rcases keyIs_shape hu with ⟨i,t,rfl,rfl⟩ | ⟨x,t,rfl,rfl⟩
    · rcases keyIs_shape hv with ⟨j,u,rfl,rfl⟩ | ⟨y,u,rfl,rfl⟩
      · rw [key_ll] at h; exact wpAny_eqBool_int h
      · rw [key_lr] at h; exact SeqAt.EqAt.int_str i t y u _ _ _ _ h
    · rcases keyIs_shape hv with ⟨j,u,rfl,rfl⟩ | ⟨y,u,rfl,rfl⟩
      · rw [key_rl] at h; exact SeqAt.EqAt.str_int x t j u _ _ _ _ h
      · rw [key_rr] at h; exact wpAny_eqBool_str h
  «strs»:=fun k x t v h=>by
    rcases keyIs_shape h with ⟨i,u,rfl,e⟩ | ⟨y,u,rfl,e⟩
    · exact nomatch e
    · injection e with e1 _
      subst e1
      cases v <;> rfl
end L2
namespace L2
open PySem PySem.Spec PyProof.Rows
inductive V where
  | non | bl (b:Bool) | int (i:Int) | str (x:Str) | byt (b:Array UInt8) | flt (b:UInt64) | ref (a:Addr) | ty (n:String)
  deriving DecidableEq
def RelV:V→Value→Prop
  | .non,u=>u=Value.none
  | .bl b,u=>u=Value.bool b
  | .int i,u=>∃ t,u=Value.int i t
  | .str x,u=>∃ t,u=Value.str x t
  | .byt b,u=>∃ t,u=Value.bytes b t
  | .flt b,u=>∃ t,u=Value.float b t
  | .ref a,u=>u=Value.ref a
  | .ty n,u=>u=Value.type n
abbrev Vals:List V→List Value→Prop:=Paired RelV
theorem Vals.length {xs:List V} {us:List Value} (r:Vals xs us):xs.length=us.length:=Paired.length r
theorem Vals.get:∀ {xs:List V} {us:List Value} {i:Nat} {x:V},Vals xs us→xs[i]?=some x→∃ u,us[i]?=some u∧RelV x u
  | _,_,_,_,.nil,e=>by simp at e
  | _,_,0,_,.cons r _,e=>by simp at e; subst e; exact ⟨_,rfl,r⟩
  | _,_,i+1,x,.cons _ t,e=>by
    obtain ⟨u,h1,h2⟩:=Vals.get (i:=i) (x:=x) t (by simpa using e)
    exact ⟨u,by simpa using h1,h2⟩
theorem Vals.set {x:V} {u:Value} (r:RelV x u):∀ {xs:List V} {us:List Value} (i:Nat),Vals xs us→Vals (xs.set i x) (us.set i u)
  | _,_,_,.nil=>.nil
  | _,_,0,.cons _ t=>.cons r t
  | _,_,i+1,.cons q t=>.cons q (Vals.set r i t)
theorem Vals.append:∀ {xs ys:List V} {us ws:List Value},Vals xs us→Vals ys ws→Vals (xs++ys) (us++ws)
  | _,_,_,_,.nil,s=>s
  | _,_,_,_,.cons r t,s=>.cons r (Vals.append t s)
theorem Vals.take:∀ {xs:List V} {us:List Value} (n:Nat),Vals xs us→Vals (xs.take n) (us.take n)
  | _,_,0,_=>.nil
  | _,_,_+1,.nil=>.nil
  | _,_,n+1,.cons r t=>.cons r (Vals.take n t)
theorem Vals.drop:∀ {xs:List V} {us:List Value} (n:Nat),Vals xs us→Vals (xs.drop n) (us.drop n)
  | _,_,0,r=>r
  | _,_,_+1,.nil=>.nil
  | _,_,n+1,.cons _ t=>Vals.drop n t
def RelO:Option V→Option Value→Prop
  | some v,some u=>RelV v u
  | none,none=>True
  | _,_=>False
def KV {κ:Type}:List (κ×V)→List (κ×Value)→Prop:=Paired fun (p:κ×V) (q:κ×Value)=>p.1=q.1∧RelV p.2 q.2
def kV:Key→V
  | .inl i=>.int i
  | .inr x=>.str x
inductive HO where
  | lst (xs:List V)
  | tup (xs:List V)
  | dK (kvs:List (Key×V)) | dT (kvs:List (List Key×V))
  | set (S:Int→Bool) (n:Nat)
  | ins (C dx:Addr) (fs:List (Str×V))
  | own (x:Addr)
  | xd (fs:List (Str×V))
  | met (f x:Addr)
  | rng (lo hi:Int)
  | frz (o:Obj) (u:HO)
  | tbl (ps:Array Value)
  | ext (φ:Heap→Prop)
abbrev Hp:=Addr→Option HO
def upd (H:Hp) (a:Addr) (o:HO):Hp:=fun b=>if b=a then some o else H b
theorem upd_same {H:Hp} {a:Addr} {o:HO}:upd H a o a=some o:=by unfold upd; rw [if_pos rfl]
theorem upd_ne {H:Hp} {a b:Addr} {o:HO} (h:b≠a):upd H a o b=H b:=by unfold upd; rw [if_neg h]
theorem ne_of {H:Hp} {a b:Addr} {o u:HO} (h:H a=some o) (h':H b=some u) (d:o≠u):a≠b:=by
  intro e; subst e; rw [h] at h'; exact d (Option.some.inj h')
theorem ne_of_none {H:Hp} {a b:Addr} {o:HO} (h:H a=some o) (h':H b=none):a≠b:=by
  intro e; subst e; rw [h] at h'; cases h'
section
variable (P:Program) (w:World)
def ObjOk (H:Hp) (h:Heap) (a:Addr):HO→Prop
  | .lst xs=>xs.length≤sizeLine∧∃ (its:List Value) (n:Nat),Vals xs its∧h.get? a=some { cls:=.type "list",data:=.seq its.toArray n }
  | .tup xs=>xs.length≤sizeLine∧∃ its:List Value,Vals xs its∧IsTup h a its.toArray
  | .dK kvs=>kvs.length≤sizeLine∧(a == sysModules)=false∧∃ vs,KV kvs vs∧h.DictOf (mixKind P w) a vs
  | .dT kvs=>kvs.length≤sizeLine∧(a == sysModules)=false∧∃ xs:List (List Key×Addr×Value),
      Paired (fun (p:List Key×V) (q:List Key×Addr×Value)=>p.1=q.1∧H q.2.1=some (.tup (p.1.map kV))∧RelV p.2 q.2.2) kvs xs∧
      ∃ o es ep,h.get? a=some o∧o.ExactDict∧o.data=.dict es ep∧es.toList=xs.map (entryOfKey (tupleKind (mixKind P w)))∧(xs.map (·.1)).Nodup
  | .set S n=>h.SetOf (intKind P w) a S n
  | .ins C dx fs=>H dx=some (.own a)∧fs.length≤1000∧dx≠a∧h.get? a=some (PySem.W.instObj C dx)∧
      ∃ mA,h.Ns1 dx mA∧(∀ f,RelO (fs.lookup f) (mA f))∧PySem.Within mA (fs.map (·.1))
  | .own _=>∃ o,h.get? a=some o
  | .xd fs=>∃ mA,h.Ns1 a mA∧∀ f,RelO (fs.lookup f) (mA f)
  | .rng lo hi=>∃ t u v,h.get? a=some { cls:=.type "range",data:=.fields #[.int lo t,.int hi u,.int 1 v] }
  | .frz o u=>h.get? a=some o∧ObjOk H h a u
  | .tbl ps=>h.get? a=some { cls:=.none,data:=.fields ps }
  | .met f x=>h.get? a=some (PySem.W.methodObj (.ref f) (.ref x))
  | .ext φ=>φ h∧(∃ o,h.get? a=some o)∧∀ h1 h2:Heap,φ h1→(∀ o,h1.get? a=some o→h2.get? a=some o)→φ h2
def HOk (H:Hp) (h:Heap):Prop:=∀ a o,H a=some o→ObjOk P w H h a o
end
section
variable {P:Program} {w:World} {H H':Hp} {h h':Heap} {a:Addr} {o:HO}
theorem ObjOk.lt (x:ObjOk P w H h a o):a<h.objs.size:=by
  cases o with
  | lst xs=>obtain ⟨_,_,_,_,e⟩:=x; exact Heap.lt_size e
  | tup xs=>obtain ⟨_,_,_,p⟩:=x; exact p.lt
  | dK kvs=>obtain ⟨_,_,_,_,o,_,_,e,_⟩:=x; exact Heap.lt_size e
  | dT kvs=>obtain ⟨_,_,_,_,o,_,_,e,_⟩:=x; exact Heap.lt_size e
  | set S n=>obtain ⟨o,_,_,_,e,_⟩:=x; exact Heap.lt_size e
  | ins C dx fs=>obtain ⟨_,_,_,e,_⟩:=x; exact Heap.lt_size e
  | own y=>obtain ⟨_,e⟩:=x; exact Heap.lt_size e
  | xd fs=>obtain ⟨_,⟨_,_,_,e,_⟩,_⟩:=x; exact Heap.lt_size e
  | rng lo hi=>obtain ⟨_,_,_,e⟩:=x; exact Heap.lt_size e
  | frz ob u=>obtain ⟨e,_⟩:=x; exact Heap.lt_size e
  | tbl ps=>exact Heap.lt_size (show h.get? a=some _ from x)
  | met f y=>exact Heap.lt_size (show h.get? a=some _ from x)
  | ext φ=>obtain ⟨_,⟨_,e⟩,_⟩:=x; exact Heap.lt_size e
theorem Paired.mapP {α β:Type} {F G:α→β→Prop}:∀ {l₁:List α} {l₂:List β},Paired F l₁ l₂→(∀ a b,F a b→G a b)→Paired G l₁ l₂
  | _,_,.nil,_=>.nil
  | _,_,.cons r t,f=>.cons (f _ _ r) (Paired.mapP t f)
theorem ObjOk.stay (x:ObjOk P w H h a o) (k:∀ b u,(b=a∨H b=some (.own a))→h.get? b=some u→h'.get? b=some u)
    (ho:∀ b,H b=some (.own a)→H' b=some (.own a)) (ht:∀ b xs,H b=some (.tup xs)→H' b=some (.tup xs)):ObjOk P w H' h' a o:=by
  induction o with
  | lst xs=>obtain ⟨z,its,n,r,e⟩:=x; exact ⟨z,its,n,r,k _ _ (.inl rfl) e⟩
  | tup xs=>obtain ⟨z,its,r,ob,e,c⟩:=x; exact ⟨z,its,r,ob,k _ _ (.inl rfl) e,c⟩
  | dK kvs=>obtain ⟨z,y,vs,r,ob,es,ep,e,c⟩:=x; exact ⟨z,y,vs,r,ob,es,ep,k _ _ (.inl rfl) e,c⟩
  | dT kvs =>
    obtain ⟨z,y,xs,r,ob,es,ep,e,c⟩:=x
    exact ⟨z,y,xs,Paired.mapP r fun p q z=>⟨z.1,ht _ _ z.2.1,z.2.2⟩,ob,es,ep,k _ _ (.inl rfl) e,c⟩
  | set S n=>obtain ⟨ob,es,ep,t,e,c⟩:=x; exact ⟨ob,es,ep,t,k _ _ (.inl rfl) e,c⟩
  | ins C dx fs =>
    obtain ⟨d,z,ne,e,mA,⟨od,es,ep,e2,c⟩,r⟩:=x
    exact ⟨ho _ d,z,ne,k _ _ (.inl rfl) e,mA,⟨od,es,ep,k _ _ (.inr d) e2,c⟩,r⟩
  | own y=>obtain ⟨ob,e⟩:=x; exact ⟨ob,k _ _ (.inl rfl) e⟩
  | xd fs=>obtain ⟨mA,⟨od,es,ep,e,c⟩,r⟩:=x; exact ⟨mA,⟨od,es,ep,k _ _ (.inl rfl) e,c⟩,r⟩
  | rng lo hi=>obtain ⟨t,u,v,e⟩:=x; exact ⟨t,u,v,k _ _ (.inl rfl) e⟩
  | frz ob u ih=>obtain ⟨e,q⟩:=x; exact ⟨k _ _ (.inl rfl) e,ih q⟩
  | tbl ps =>
    have e:h.get? a=some { cls:=.none,data:=.fields ps }:=x
    show h'.get? a=some { cls:=.none,data:=.fields ps }
    exact k a _ (.inl rfl) e
  | met f y =>
    have e:h.get? a=some (PySem.W.methodObj (.ref f) (.ref y)):=x
    show h'.get? a=some (PySem.W.methodObj (.ref f) (.ref y))
    exact k a _ (.inl rfl) e
  | ext φ=>obtain ⟨p,⟨o,e⟩,st⟩:=x; exact ⟨st _ _ p fun o q=>k _ _ (.inl rfl) q,⟨o,k _ _ (.inl rfl) e⟩,st⟩
theorem HOk.lt (x:HOk P w H h) (e:H a=some o):a<h.objs.size:=(x a o e).lt
theorem HOk.fresh (x:HOk P w H h) (e:h.objs.size≤a):H a=none:=by
  cases q:H a with
  | none=>rfl
  | some u=>exact absurd (Nat.lt_of_lt_of_le (x.lt q) e) (Nat.lt_irrefl _)
theorem HOk.kept (x:HOk P w H h) (k:∀ b u,h.get? b=some u→h'.get? b=some u):HOk P w H h':=fun a o e =>
  (x a o e).stay (fun b u _ q=>k b u q) (fun _ q=>q) fun _ _ q=>q
theorem HOk.laid (x:HOk P w H h) (k:∀ b u,h.get? b=some u→h'.get? b=some u) (hp:h.objs.size≤a) (new:ObjOk P w (upd H a o) h' a o):HOk P w (upd H a o) h':=fun b u e=>by
  have hn:=x.fresh hp
  by_cases hb:b=a
  · subst hb; rw [upd_same] at e; cases e; exact new
  · rw [upd_ne hb] at e
    exact (x b u e).stay (fun c v _ q=>k c v q) (fun c q=>by rw [upd_ne (ne_of_none q hn)]; exact q) fun c xs q=>by rw [upd_ne (ne_of_none q hn)]; exact q
end
def Rd (H:Hp) (a:Addr) (u:HO):Prop:=H a=some u∨∃ o,H a=some (.frz o u)
theorem Rd.ok {P:Program} {w:World} {H:Hp} {h:Heap} {a:Addr} {u:HO} (r:Rd H a u) (x:HOk P w H h):ObjOk P w H h a u:=by
  rcases r with r | ⟨o,r⟩
  · exact x a u r
  · obtain ⟨_,q⟩:=x a _ r
    exact q
def Mut:Option HO→Prop
  | some (.lst _)=>True
  | some (.dK _)=>True
  | some (.dT _)=>True
  | some (.set _ _)=>True
  | some (.ins _ _ _)=>True
  | some (.ext _)=>True
  | _=>False
section
variable {P:Program} {w:World} {H:Hp} {h h':Heap} {x e:Addr} {o':HO}
theorem HOk.write (ok:HOk P w H h) (mu:Mut (H x)) (he:e=x∨H e=some (.own x)) (k:∀ b u,b≠e→h.get? b=some u→h'.get? b=some u) (heo:∃ u,h'.get? e=some u)
    (new:ObjOk P w (upd H x o') h' x o'):HOk P w (upd H x o') h':=fun b u q=>by
  have nown:∀ c y,H c=some (.own y)→c≠x:=fun c y r z=>by subst z; rw [r] at mu; exact mu
  have ntup:∀ c xs,H c=some (.tup xs)→c≠x:=fun c xs r z=>by subst z; rw [r] at mu; exact mu
  by_cases hb:b=x
  · subst hb; rw [upd_same] at q; cases q; exact new
  · rw [upd_ne hb] at q
    by_cases hbe:b=e
    · have q':H b=some (.own x):=by
        rcases he with z | z
        · exact absurd (hbe.trans z) hb
        · rw [hbe]; exact z
      rw [q] at q'; cases q'
      obtain ⟨v,hv⟩:=heo
      exact ⟨v,by rw [hbe]; exact hv⟩
    · refine (ok b u q).stay (fun c v hc r=>k c v ?_ r) (fun c r=>by rw [upd_ne (nown c b r)]; exact r) fun c xs r=>by rw [upd_ne (ntup c xs r)]; exact r
      rcases hc with rfl | hc
      · exact hbe
      · rintro rfl
        rcases he with z | z
        · exact nown c b hc z
        · rw [hc] at z; cases z; exact hb rfl
end
structure Un (fs ex:List Addr) (H H':Hp) (h h':Heap):Prop where
  keep:∀ b o,h.get? b=some o→H b=none→b∉fs→b∉ex→h'.get? b=some o
  slot:∀ b o,h.get? b=some o→H b=none→b∈fs→b∉ex→∃ sl,h'.get? b=some { o with slots:=sl }
  free:∀ b o,h.get? b=some o→H b=none→b∉ex→H' b=none
  there:∀ b o,h.get? b=some o→b∉ex→∃ o',h'.get? b=some o'
  tups:∀ b xs,H b=some (.tup xs)→H' b=some (.tup xs)
  frzs:∀ b o u,H b=some (.frz o u)→H' b=some (.frz o u)
  tbls:∀ b ps,H b=some (.tbl ps)→∃ more,H' b=some (.tbl (ps++more))
section
variable {fs fs' ex ex':List Addr} {H H1 H2:Hp} {h h1 h2 h':Heap} {a x e:Addr} {o:HO}
theorem Un.any (u:Un fs ex H H1 h h1) {b:Addr} {ob:Obj} (q:h.get? b=some ob) (n:H b=none) (hx:b∉ex):∃ sl,h1.get? b=some { ob with slots:=sl }:=by
  by_cases hb:b∈fs
  · exact u.slot b ob q n hb hx
  · exact ⟨ob.slots,u.keep b ob q n hb hx⟩
theorem Un.kept (k:∀ b u,h.get? b=some u→h'.get? b=some u):Un fs ex H H h h' :=
  ⟨fun b ob q _ _ _=>k b ob q,fun b ob q _ _ _=>⟨ob.slots,k b ob q⟩,fun _ _ _ n _=>n,fun b ob q _=>⟨ob,k b ob q⟩,fun _ _ q=>q,fun _ _ _ q=>q,fun _ ps q=>⟨#[],by rw [q]; simp⟩⟩
theorem Un.refl:Un fs ex H H h h:=Un.kept fun _ _ q=>q
theorem Un.laid (k:∀ b u,h.get? b=some u→h'.get? b=some u) (hp:h.objs.size≤a) (hn:H a=none):Un fs ex H (upd H a o) h h' where
  keep:=fun b u q _ _ _=>k b u q
  slot:=fun b u q _ _ _=>⟨u.slots,k b u q⟩
  free:=fun b u q n _=>by rw [upd_ne (Nat.ne_of_lt (Nat.lt_of_lt_of_le (Heap.lt_size q) hp))]; exact n
  there:=fun b u q _=>⟨u,k b u q⟩
  tups:=fun b xs q=>by rw [upd_ne (ne_of_none q hn)]; exact q
  frzs:=fun b u xs q=>by rw [upd_ne (ne_of_none q hn)]; exact q
  tbls:=fun b ps q=>⟨#[],by rw [upd_ne (ne_of_none q hn),q]; simp⟩
theorem Un.write (mu:Mut (H x)) (he:e=x∨H e=some (.own x)) (k:∀ b u,b≠e→h.get? b=some u→h'.get? b=some u) (heo:∃ u,h'.get? e=some u):Un fs ex H (upd H x o) h h':=by
  have hx:∀ b,H b=none→b≠x:=fun b n z=>by subst z; rw [n] at mu; exact mu
  have hb:∀ b,H b=none→b≠e:=fun b n z=>by
    subst z
    rcases he with r | r
    · exact hx b n r
    · rw [n] at r; cases r
  have hm:∀ b u,H b=some u→¬ Mut (some u)→b≠x:=fun b u q nm z=>by subst z; rw [q] at mu; exact nm mu
  refine ⟨fun b u q n _ _=>k b u (hb b n) q,fun b u q n _ _=>⟨u.slots,k b u (hb b n) q⟩,fun b u q n _=>by rw [upd_ne (hx b n)]; exact n,fun b u q _=>?_,
    fun b xs q=>by rw [upd_ne (hm b _ q fun z=>z)]; exact q,fun b u xs q=>by rw [upd_ne (hm b _ q fun z=>z)]; exact q,fun b ps q=>⟨#[],by rw [upd_ne (hm b _ q fun z=>z),q]; simp⟩⟩
  by_cases hbe:b=e
  · subst hbe; exact heo
  · exact ⟨u,k b u hbe q⟩
end
def trk (h:Heap) (H:Hp):List Addr:=(List.range h.objs.size).filter fun a=>(H a).isSome
def hidT (h:Heap) (H:Hp):Heap:=PySem.W.hideAll h (trk h H)
theorem hidT_size (h:Heap) (H:Hp):(hidT h H).objs.size=h.objs.size:=PySem.W.hideAll_size _ _
theorem hidT_get {h:Heap} {H:Hp} {b:Addr} {o:Obj} (e:h.get? b=some o) (n:H b=none):(hidT h H).get? b=some o :=
  PySem.W.hideAll_get _ e fun hm=>by
    have q:(H b).isSome=true:=(List.mem_filter.mp hm).2
    rw [n] at q; simp at q
theorem of_hidT {h:Heap} {H:Hp} {b:Addr} {o:Obj} (e:(hidT h H).get? b=some o):h.get? b=some o∧H b=none:=by
  have e':h.get? b=some o:=PySem.W.of_hideAll (trk h H) e
  refine ⟨e',?_⟩
  cases q:H b with
  | none=>rfl
  | some x =>
    have hm:b∈trk h H:=List.mem_filter.mpr ⟨List.mem_range.mpr (Heap.lt_size e'),by simp [q]⟩
    have z:(hidT h H).get? b=none:=PySem.W.hideAll_none (trk h H) hm
    rw [z] at e; cases e
def allNews (g h:Heap) (L:Addr):List (Addr×Obj):=(List.range h.objs.size).filterMap fun a=>if a=L∨(g.get? a).isSome=true then none else (h.get? a).map fun o=>(a,o)
def rest (g h:Heap) (L d:Addr):List (Addr×Obj):=(allNews g h L).filter fun p=>decide (p.1≠d)
end L2
namespace L2
open PySem PySem.Spec PyProof.Rows
structure Mod (K:PySem.W.Frag) (mg:Str→Option Value) (base:Heap):Prop where
  kin:K.In base
  glob:base.Ns mainGlobals mg
  blt:∃ mb,base.Ns builtinsNs mb∧∀ x:Str,x≠"__name__"→mb x=bootBuiltins x
  nolimit:base.NoLimit
structure Cx where
  prog:Program
  w:World
  K:PySem.W.Frag
  mg:Str→Option Value
  base:Heap
  A:Around
  N:List Str
  s₀:Shared
  H₀:Hp
  env:Env
  outer:List Env
  stack:List Env
  ex:List Addr
  fn:Str→Bool
  calm:Bool
  pn:List (Addr×Obj)
  xe:Value→Shared→Prop
def frs (l:List Env):List Addr:=l.filterMap (·.frame)
abbrev Cx.fs (X:Cx):List Addr:=frs X.outer
def Vis (sc:Scope) (x:Str):Prop:=sc.names.lookup x=some .local∨sc.names.lookup x=some .cell∨sc.names.lookup x=some .free
def Loc (sc:Scope) (x:Str):Prop:=sc.names.lookup x=some .local∨sc.names.lookup x=some .cell
def Look (env:Env) (h:Heap) (m:Str→Option Value) (x:Str) (u:Value):Prop :=
  (env.kindOf x=some .local∧m x=some u)∨((env.kindOf x=some .cell∨env.kindOf x=some .free)∧∃ c,env.cells.lookup x=some c∧h.IsCell c (some u))
structure Cx.Ok (X:Cx):Prop where
  mod:Mod X.K X.mg X.base
  kind:X.env.scope.kind=.function
  glob:X.env.globals=mainGlobals
  blt:X.env.builtins=builtinsNs
  above:X.s₀.heap.objs.size≤X.env.locals
  inj:∀ x y c,X.env.cells.lookup x=some c→X.env.cells.lookup y=some c→x=y
  has:∀ x,(X.env.kindOf x=some .cell∨X.env.kindOf x=some .free)→∃ c,X.env.cells.lookup x=some c
  cab:∀ x c,X.fn x=true→X.env.cells.lookup x=some c→X.s₀.heap.objs.size≤c
  hd:X.calm=true→X.A.handled=none
  frames:X.A.frames=some X.stack
  stk:X.stack=X.outer∨(X.stack=X.env::X.outer∧X.env.frame=some X.env.locals)
  exf:∀ b∈X.ex,b≠X.env.locals∧∀ x c,X.env.cells.lookup x=some c→c≠b
  bs:∀ b o,X.base.get? b=some o→X.s₀.heap.get? b=some o∧X.H₀ b=none
  bsz:X.base.objs.size≤X.s₀.heap.objs.size
  noex:∀ b o,X.base.get? b=some o→b∉X.ex
  exfs:∀ b∈X.ex,b∉X.fs
  funs:X.s₀.heap.FunFrames X.base X.outer
  frf:∀ b∈X.fs,X.H₀ b=none
structure Inv (X:Cx) (pins:List (Addr×Obj)) (σ:List (Option V)) (H:Hp) (s:Shared):Prop where
  ok:X.Ok
  os:s.os=X.s₀.os
  bare:AllBare s.gens
  base:Un X.fs X.ex X.H₀ H X.s₀.heap s.heap
  loc:∃ m,s.heap.Ns X.env.locals m∧∀ (i:Nat) (x:Str) (v:V),X.N[i]?=some x→σ[i]?=some (some v)→Vis X.env.scope x→∃ u,RelV v u∧Look X.env s.heap m x u
  cell:∀ x c,X.env.cells.lookup x=some c→∃ v,s.heap.IsCell c v
  free:H X.env.locals=none
  freeC:∀ x c,X.env.cells.lookup x=some c→H c=none
  pin:∀ p∈X.pn++pins,s.heap.get? p.1=some p.2∧H p.1=none∧p.1≠X.env.locals∧p.1∉X.fs∧∀ v,p.2.data≠.cell v
  hok:HOk X.prog X.w H s.heap
  len:σ.length=X.N.length
section
variable {X:Cx} {pins:List (Addr×Obj)} {σ:List (Option V)} {H H':Hp} {s:Shared} {h':Heap}
theorem Cx.Ok.nofr (ok:X.Ok) {b:Addr} {o:Obj} (e:X.base.get? b=some o):b∉X.fs:=fun hb=>by
  have:=(ok.funs.mem hb).1
  rw [e] at this; cases this
theorem Inv.bs (I:Inv X pins σ H s):∀ b o,X.base.get? b=some o→s.heap.get? b=some o∧H b=none:=fun b o e =>
  ⟨I.base.keep b o (I.ok.bs b o e).1 (I.ok.bs b o e).2 (I.ok.nofr e) (I.ok.noex b o e),I.base.free b o (I.ok.bs b o e).1 (I.ok.bs b o e).2 (I.ok.noex b o e)⟩
theorem Inv.bk (I:Inv X pins σ H s):∀ b o,X.base.get? b=some o→s.heap.get? b=some o:=fun b o e=>(I.bs b o e).1
theorem Inv.mod (I:Inv X pins σ H s):Mod X.K X.mg X.base:=I.ok.mod
theorem Inv.kIn (I:Inv X pins σ H s):X.K.In s.heap:=I.ok.mod.kin.keeps I.bk
theorem Inv.fr (I:Inv X pins σ H s):∃ m,Fr X.base X.env.locals s.heap m :=
  let ⟨m,hn,_⟩:=I.loc
  ⟨m,hn,I.bk,Nat.le_trans I.ok.bsz I.ok.above⟩
theorem Inv.lt (I:Inv X pins σ H s):X.env.locals<s.heap.objs.size:=let ⟨_,hn,_⟩:=I.loc; hn.lt
theorem Inv.sz (I:Inv X pins σ H s):X.s₀.heap.objs.size≤s.heap.objs.size:=Nat.le_trans I.ok.above (Nat.le_of_lt I.lt)
theorem Inv.nofs (I:Inv X pins σ H s) {a:Addr} (h:s.heap.objs.size≤a):a∉X.fs:=fun hb=>by
  obtain ⟨_,o,ho,_⟩:=I.ok.funs.mem hb
  exact absurd (Nat.lt_of_lt_of_le (Heap.lt_size ho) (Nat.le_trans I.sz h)) (Nat.lt_irrefl _)
theorem Inv.cne (I:Inv X pins σ H s):∀ x c,X.env.cells.lookup x=some c→c≠X.env.locals:=fun x c e z=>by
  obtain ⟨v,o,ho,hd⟩:=I.cell x c e
  obtain ⟨m,⟨o',es,ep,ho',hd',_⟩,_⟩:=I.loc
  rw [z,ho'] at ho; cases ho; rw [hd'] at hd; cases hd
theorem Inv.funs (I:Inv X pins σ H s):s.heap.FunFrames X.base X.outer:=by
  have all:∀ (l:List Env),(∀ b∈frs l,b∈X.fs)→X.s₀.heap.FunFrames X.base l→s.heap.FunFrames X.base l:=by
    intro l
    induction l with
    | nil=>intro _ _; trivial
    | cons env r ih =>
      intro hs hl
      obtain ⟨hk,⟨L,o,hf,hn,ho,hd⟩,hr⟩:=hl
      have hL:L∈X.fs:=hs L (by unfold frs; rw [List.filterMap_cons,hf]; exact List.mem_cons_self)
      obtain ⟨sl,e⟩:=I.base.slot L o ho (I.ok.frf L hL) hL fun z=>I.ok.exfs L z hL
      exact ⟨hk,⟨L,_,hf,hn,e,hd⟩,ih (fun b hb=>hs b (by unfold frs; rw [List.filterMap_cons,hf]; exact List.mem_cons_of_mem _ hb)) hr⟩
  exact all X.outer (fun _ hb=>hb) I.ok.funs
theorem Inv.stack (I:Inv X pins σ H s):s.heap.FunFrames X.base X.stack:=by
  rcases I.ok.stk with e | ⟨e,hf⟩
  · rw [e]; exact I.funs
  · rw [e]
    obtain ⟨m,hn,_⟩:=I.loc
    refine .cons (by rw [I.ok.kind]; decide) hf hn ?_ I.funs
    exact Heap.get?_none_of_le (Nat.le_trans I.ok.bsz I.ok.above)
theorem Inv.stkSub (I:Inv X pins σ H s):∀ b∈frs X.stack,b∈X.env.locals::X.fs:=fun b hb=>by
  rcases I.ok.stk with e | ⟨e,hf⟩
  · rw [e] at hb; exact List.mem_cons_of_mem _ hb
  · rw [e] at hb
    unfold frs at hb
    rw [List.filterMap_cons,hf] at hb
    exact hb
theorem Inv.stkFree (I:Inv X pins σ H s):∀ b∈frs X.stack,H b=none:=fun b hb=>by
  rcases List.mem_cons.mp (I.stkSub b hb) with e | hb
  · rw [e]; exact I.free
  · obtain ⟨_,o,ho,_⟩:=I.ok.funs.mem hb
    exact I.base.free b o ho (I.ok.frf b hb) fun z=>I.ok.exfs b z hb
theorem Inv.step {g':Array GenState} {t':Nat} {d':Drawn} {ch:List Addr} (I:Inv X pins σ H s)
    (hch:∀ b∈ch,(b∈X.ex∨X.s₀.heap.objs.size≤b)∧b≠X.env.locals∧(∀ x c,X.env.cells.lookup x=some c→c≠b)∧∀ p∈X.pn++pins,p.1≠b)
    (keep:∀ b o,b≠X.env.locals→b∉X.fs→b∉ch→s.heap.get? b=some o→H b=none→h'.get? b=some o)
    (slot:∀ b o,b≠X.env.locals→b∈X.fs→b∉ch→s.heap.get? b=some o→H b=none→∃ sl,h'.get? b=some { o with slots:=sl }) (free:∀ b o,b∉ch→s.heap.get? b=some o→H b=none→H' b=none)
    (there:∀ b o,b∉ch→s.heap.get? b=some o→∃ o',h'.get? b=some o')
    (tups:∀ b xs,H b=some (.tup xs)→H' b=some (.tup xs)) (frzs:∀ b o u,H b=some (.frz o u)→H' b=some (.frz o u)) (tbls:∀ b ps,H b=some (.tbl ps)→∃ more,H' b=some (.tbl (ps++more)))
    (ns:∀ m,s.heap.Ns X.env.locals m→h'.Ns X.env.locals m) (hok:HOk X.prog X.w H' h') (hg:AllBare g') :
    Inv X pins σ H' { s with heap:=h',gens:=g',drawn:=d',toks:=t' }:=by
  have neL:∀ b o,X.s₀.heap.get? b=some o→b≠X.env.locals:=fun b o e=>Nat.ne_of_lt (Nat.lt_of_lt_of_le (Heap.lt_size e) I.ok.above)
  have neC:∀ b o,X.s₀.heap.get? b=some o→b∉X.ex→b∉ch:=fun b o e hx hb=>by
    rcases (hch b hb).1 with z | z
    · exact hx z
    · exact absurd (Nat.lt_of_lt_of_le (Heap.lt_size e) z) (Nat.lt_irrefl _)
  have cellK:∀ x c,X.env.cells.lookup x=some c→∀ v,s.heap.IsCell c v→h'.IsCell c v:=fun x c e v ⟨o,ho,hd⟩=>by
    have nch:c∉ch:=fun z=>(hch c z).2.2.1 x c e rfl
    by_cases hc:c∈X.fs
    · obtain ⟨sl,q⟩:=slot c o (I.cne x c e) hc nch ho (I.freeC x c e)
      exact ⟨_,q,hd⟩
    · exact ⟨o,keep c o (I.cne x c e) hc nch ho (I.freeC x c e),hd⟩
  refine ⟨I.ok,I.os,hg,⟨fun b o e n hb hx=>?_,fun b o e n hb hx=>?_,fun b o e n hx=>?_,fun b o e hx=>?_,fun b xs e=>tups b xs (I.base.tups b xs e),fun b o xs e=>frzs b o xs (I.base.frzs b o xs e),fun b ps e=>?_⟩,?_,fun x c e=>?_,?_,fun x c e=>?_,fun p hp=>?_,hok,I.len⟩
  · exact keep b o (neL b o e) hb (neC b o e hx) (I.base.keep b o e n hb hx) (I.base.free b o e n hx)
  · obtain ⟨sl,e1⟩:=I.base.slot b o e n hb hx
    obtain ⟨sl',e2⟩:=slot b _ (neL b o e) hb (neC b o e hx) e1 (I.base.free b o e n hx)
    exact ⟨sl',e2⟩
  · obtain ⟨o',e1⟩:=I.base.there b o e hx
    exact free b o' (neC b o e hx) e1 (I.base.free b o e n hx)
  · obtain ⟨o',e1⟩:=I.base.there b o e hx
    exact there b o' (neC b o e hx) e1
  · obtain ⟨m1,e1⟩:=I.base.tbls b ps e
    obtain ⟨m2,e2⟩:=tbls b _ e1
    exact ⟨m1++m2,by rw [e2,Array.append_assoc]⟩
  · obtain ⟨m,hn,hl⟩:=I.loc
    refine ⟨m,ns m hn,fun i x v e1 e2 e3=>?_⟩
    obtain ⟨u,r,l⟩:=hl i x v e1 e2 e3
    refine ⟨u,r,?_⟩
    rcases l with l | ⟨k,c,e,z⟩
    · exact .inl l
    · exact .inr ⟨k,c,e,cellK x c e _ z⟩
  · obtain ⟨v,z⟩:=I.cell x c e
    exact ⟨v,cellK x c e v z⟩
  · obtain ⟨m,⟨o,_,_,ho,_⟩,_⟩:=I.loc
    exact free _ o (fun z=>(hch _ z).2.1 rfl) ho I.free
  · obtain ⟨v,o,ho,hd⟩:=I.cell x c e
    exact free c o (fun z=>(hch c z).2.2.1 x c e rfl) ho (I.freeC x c e)
  · obtain ⟨e,n,ne,nf,d⟩:=I.pin p hp
    have nch:p.1∉ch:=fun z=>(hch p.1 z).2.2.2 p hp rfl
    exact ⟨keep p.1 p.2 ne nf nch e n,free p.1 p.2 nch e n,ne,nf,d⟩
theorem Inv.un {t':Nat} (I:Inv X pins σ H s) (u:Un X.fs [] H H' s.heap h') (hok:HOk X.prog X.w H' h'):Inv X pins σ H' { s with heap:=h',toks:=t' }:=by
  obtain ⟨m,⟨o,es,ep,ho,r⟩,_⟩:=id I.loc
  obtain ⟨sl,hL⟩:=u.any ho I.free (by simp)
  exact I.step (g':=s.gens) (d':=s.drawn) (ch:=[]) (fun _ z=>nomatch z) (fun b o _ hb _ e n=>u.keep b o e n hb (by simp)) (fun b o _ hb _ e n=>u.slot b o e n hb (by simp)) (fun b o _ e n=>u.free b o e n (by simp)) (fun b o _ e=>u.there b o e (by simp)) u.tups u.frzs u.tbls (fun m' hm=>by
    obtain ⟨o',es',ep',ho',r'⟩:=hm
    rw [ho] at ho'; cases ho'
    exact ⟨_,es',ep',hL,r'⟩) hok I.bare
theorem Inv.call {g':Array GenState} {t':Nat} {d':Drawn} {ch:List Addr} (I:Inv X pins σ H s) (u:Un (frs X.stack) ch H H' s.heap h') (hok:HOk X.prog X.w H' h') (hg:AllBare g')
    (hch:∀ b∈ch,(b∈X.ex∨X.s₀.heap.objs.size≤b)∧b≠X.env.locals∧(∀ x c,X.env.cells.lookup x=some c→c≠b)∧∀ p∈X.pn++pins,p.1≠b) :
    Inv X pins σ H' { s with heap:=h',gens:=g',drawn:=d',toks:=t' }:=by
  obtain ⟨m,⟨o,es,ep,ho,r⟩,_⟩:=id I.loc
  obtain ⟨sl,hL⟩:=u.any ho I.free fun z=>(hch _ z).2.1 rfl
  exact I.step (ch:=ch) hch (fun b o hL hb hc e n=>u.keep b o e n (fun z=>(List.mem_cons.mp (I.stkSub b z)).elim hL hb) hc) (fun b o _ _ hc e n=>u.any e n hc) (fun b o hc e n=>u.free b o e n hc) (fun b o hc e=>u.there b o e hc) u.tups u.frzs u.tbls (fun m' hm=>by
    obtain ⟨o',es',ep',ho',r'⟩:=hm
    rw [ho] at ho'; cases ho'
    exact ⟨_,es',ep',hL,r'⟩) hok hg
theorem Inv.turned {t':Nat} {it:Addr} (I:Inv X pins σ H s) (k:∀ b o,b≠it→s.heap.get? b=some o→h'.get? b=some o) (hn:H it=none) (hL:it≠X.env.locals)
    (h1:it∈X.ex∨X.s₀.heap.objs.size≤it) (h2:∀ x c,X.env.cells.lookup x=some c→c≠it) (h3:∀ p∈X.pn++pins,p.1≠it):Inv X pins σ H { s with heap:=h',toks:=t' }:=by
  have nit:∀ b u,H b=some u→b≠it:=fun b u e z=>by rw [z,hn] at e; cases e
  refine I.step (g':=s.gens) (d':=s.drawn) (ch:=[it]) (fun b hb=>?_) (fun b o _ _ hc e _=>k b o (fun z=>hc (by simp [z])) e) (fun b o _ _ hc e _=>⟨o.slots,k b o (fun z=>hc (by simp [z])) e⟩) (fun _ _ _ _ n=>n)
    (fun b o hc e=>⟨o,k b o (fun z=>hc (by simp [z])) e⟩) (fun _ _ e=>e) (fun _ _ _ e=>e) (fun b ps e=>⟨#[],by rw [e]; simp⟩) (fun m hm=>?_) (fun b u e=>?_) I.bare
  · have e:b=it:=by simpa using hb
    subst e
    exact ⟨h1,hL,h2,h3⟩
  · obtain ⟨o,es,ep,ho,r⟩:=hm
    exact ⟨o,es,ep,k _ o (Ne.symm hL) ho,r⟩
  · refine (I.hok b u e).stay (fun c v hc q=>k c v ?_ q) (fun _ q=>q) fun _ _ q=>q
    rcases hc with z | z
    · rw [z]; exact nit b u e
    · exact nit c _ z
theorem Inv.tok (I:Inv X pins σ H s) (t:Nat):Inv X pins σ H { s with toks:=t }:=I.un (h':=s.heap) (t':=t) Un.refl I.hok
theorem Inv.kept {t':Nat} (I:Inv X pins σ H s) (k:∀ b u,s.heap.get? b=some u→h'.get? b=some u):Inv X pins σ H { s with heap:=h',toks:=t' }:=I.un (Un.kept k) (I.hok.kept k)
theorem Inv.laid {a:Addr} {o:HO} {t':Nat} (I:Inv X pins σ H s) (k:∀ b u,s.heap.get? b=some u→h'.get? b=some u) (hp:s.heap.objs.size≤a) (new:ObjOk X.prog X.w (upd H a o) h' a o) :
    Inv X pins σ (upd H a o) { s with heap:=h',toks:=t' }:=I.un (Un.laid k hp (I.hok.fresh hp)) (I.hok.laid k hp new)
theorem Inv.write {x e:Addr} {o:HO} {t':Nat} (I:Inv X pins σ H s) (mu:Mut (H x)) (he:e=x∨H e=some (.own x)) (k:∀ b u,b≠e→s.heap.get? b=some u→h'.get? b=some u) (heo:∃ u,h'.get? e=some u)
    (new:ObjOk X.prog X.w (upd H x o) h' x o):Inv X pins σ (upd H x o) { s with heap:=h',toks:=t' }:=I.un (Un.write mu he k heo) (I.hok.write mu he k heo new)
theorem Inv.weak {σ':List (Option V)} (I:Inv X pins σ H s) (hl:σ'.length=σ.length) (w:∀ (i:Nat) v,σ'[i]?=some (some v)→σ[i]?=some (some v)):Inv X pins σ' H s :=
  ⟨I.ok,I.os,I.bare,I.base,let ⟨m,hn,hl'⟩:=I.loc; ⟨m,hn,fun i x v e1 e2 e3=>hl' i x v e1 (w i v e2) e3⟩,I.cell,I.free,I.freeC,I.pin,I.hok,hl.trans I.len⟩
theorem Inv.pins_of {pins':List (Addr×Obj)} (I:Inv X pins σ H s) (h:∀ p∈pins',s.heap.get? p.1=some p.2∧H p.1=none∧p.1≠X.env.locals∧p.1∉X.fs∧∀ v,p.2.data≠.cell v):Inv X pins' σ H s :=
  ⟨I.ok,I.os,I.bare,I.base,I.loc,I.cell,I.free,I.freeC,fun p hp=>(List.mem_append.mp hp).elim (fun z=>I.pin p (List.mem_append_left _ z)) (h p),I.hok,I.len⟩
theorem nodup_ix {N:List Str} (hN:N.Nodup) {i j:Nat} {x:Str} (a:N[i]?=some x) (b:N[j]?=some x):i=j:=by
  obtain ⟨h1,e1⟩:=List.getElem?_eq_some_iff.mp a
  obtain ⟨h2,e2⟩:=List.getElem?_eq_some_iff.mp b
  exact (List.getElem_inj hN).mp (e1.trans e2.symm)
theorem store_ok2 {M:Model} {A:Around} {E:Value→Shared→Prop} {i:Nat} {x:Str} {v:V} {u:Value} {Q:Unit→Shared→Prop} (I:Inv X pins σ H s) (hN:X.N.Nodup) (hi:X.N[i]?=some x) (hx:Loc X.env.scope x) (r:RelV v u)
    (h:∀ s',Inv X pins (σ.set i (some v)) H s'→(∃ a,Heap.SameBut a s.heap s'.heap∧(a=X.env.locals∨X.env.cells.lookup x=some a))→Q () s') (hf:X.fn x=true∨X.env.scope.names.lookup x=some .local:=by first | exact .inl rfl | exact .inr rfl | assumption):wpAny M A (storeName X.env x u) Q E s:=by
  obtain ⟨m,hn,hl⟩:=id I.loc
  have hcls:(X.env.scope.kind == .class || (X.env.scope.kind == .module && X.env.locals != X.env.globals))=false:=by rw [I.ok.kind]; rfl
  have hiσ:i<σ.length:=by rw [I.len]; exact (List.getElem?_eq_some_iff.mp hi).1
  have cne:=I.cne
  have tracked:∀ {a:Addr} {h':Heap},(∃ o,s.heap.get? a=some o∧H a=none)→Heap.SameBut a s.heap h'→HOk X.prog X.w H h':=fun {a h'} ha hs b ob e=>by
    obtain ⟨_,_,hfree⟩:=ha
    refine (I.hok b ob e).stay (fun c w' hc q=>(hs.2 c ?_).trans q) (fun _ q=>q) fun _ _ q=>q
    rintro rfl
    rcases hc with rfl | hc
    · rw [hfree] at e; cases e
    · rw [hfree] at hc; cases hc
  rcases hx with hk | hk
  · refine wpAny_storeName_local hk hn (fun h' hn' hs=>?_) hcls
    obtain ⟨oL,_,_,hoL,_⟩:=id hn
    refine h _ ⟨I.ok,I.os,I.bare,⟨fun b o e n hb hx=>?_,fun b o e n hb hx=>?_,I.base.free,fun b o e hx=>?_,I.base.tups,I.base.frzs,I.base.tbls⟩,⟨_,hn',fun j y v' e1 e2 e3=>?_⟩,fun y c e=>?_,I.free,I.freeC,fun p hp=>?_,tracked ⟨oL,hoL,I.free⟩ hs,by simpa using I.len⟩ ⟨_,hs,.inl rfl⟩
    · exact (hs.2 b (Nat.ne_of_lt (Nat.lt_of_lt_of_le (Heap.lt_size e) I.ok.above))).trans (I.base.keep b o e n hb hx)
    · obtain ⟨sl,e1⟩:=I.base.slot b o e n hb hx
      exact ⟨sl,(hs.2 b (Nat.ne_of_lt (Nat.lt_of_lt_of_le (Heap.lt_size e) I.ok.above))).trans e1⟩
    · obtain ⟨o',e1⟩:=I.base.there b o e hx
      exact ⟨o',(hs.2 b (Nat.ne_of_lt (Nat.lt_of_lt_of_le (Heap.lt_size e) I.ok.above))).trans e1⟩
    · by_cases hj:j=i
      · subst hj
        rw [hi] at e1; cases e1
        rw [List.getElem?_set_self hiσ] at e2
        cases e2
        exact ⟨u,r,.inl ⟨hk,by simp⟩⟩
      · rw [List.getElem?_set_ne (Ne.symm hj)] at e2
        obtain ⟨u',r',q⟩:=hl j y v' e1 e2 e3
        refine ⟨u',r',?_⟩
        rcases q with ⟨k,e⟩ | ⟨k,c,e,z⟩
        · refine .inl ⟨k,?_⟩
          have:y≠x:=fun e=>hj (nodup_ix hN e1 (e▸hi))
          simp [this,e]
        · exact .inr ⟨k,c,e,z.sameBut hs (cne y c e)⟩
    · obtain ⟨w',z⟩:=I.cell y c e
      exact ⟨w',z.sameBut hs (cne y c e)⟩
    · obtain ⟨e,n,ne,nf,d⟩:=I.pin p hp
      exact ⟨(hs.2 p.1 ne).trans e,n,ne,nf,d⟩
  · have hfn:X.fn x=true:=by
      rcases hf with z | z
      · exact z
      · rw [z] at hk; cases hk
    obtain ⟨c,hc⟩:=I.ok.has x (.inl hk)
    obtain ⟨w',z⟩:=I.cell x c hc
    refine wpAny_storeName_cell I.ok.kind hk hc z (fun h' hc' hs=>?_)
    obtain ⟨oc,hoc,hocd⟩:=id z
    refine h { s with heap:=h' } ⟨I.ok,I.os,I.bare,⟨fun b o e n hb hx=>?_,fun b o e n hb hx=>?_,I.base.free,fun b o e hx=>?_,I.base.tups,I.base.frzs,I.base.tbls⟩,⟨m,hn.sameBut hs (Ne.symm (cne x c hc)),fun j y v' e1 e2 e3=>?_⟩,fun y c' e=>?_,I.free,I.freeC,fun p hp=>?_,tracked ⟨oc,hoc,I.freeC x c hc⟩ hs,by simpa using I.len⟩ ⟨c,hs,.inr hc⟩
    · exact (hs.2 b (Nat.ne_of_lt (Nat.lt_of_lt_of_le (Heap.lt_size e) (I.ok.cab x c hfn hc)))).trans (I.base.keep b o e n hb hx)
    · obtain ⟨sl,e1⟩:=I.base.slot b o e n hb hx
      exact ⟨sl,(hs.2 b (Nat.ne_of_lt (Nat.lt_of_lt_of_le (Heap.lt_size e) (I.ok.cab x c hfn hc)))).trans e1⟩
    · obtain ⟨o',e1⟩:=I.base.there b o e hx
      exact ⟨o',(hs.2 b (Nat.ne_of_lt (Nat.lt_of_lt_of_le (Heap.lt_size e) (I.ok.cab x c hfn hc)))).trans e1⟩
    · by_cases hj:j=i
      · subst hj
        rw [hi] at e1; cases e1
        rw [List.getElem?_set_self hiσ] at e2
        cases e2
        exact ⟨u,r,.inr ⟨.inl hk,c,hc,hc'⟩⟩
      · rw [List.getElem?_set_ne (Ne.symm hj)] at e2
        obtain ⟨u',r',q⟩:=hl j y v' e1 e2 e3
        refine ⟨u',r',?_⟩
        rcases q with q | ⟨k,c',e,z'⟩
        · exact .inl q
        · refine .inr ⟨k,c',e,z'.sameBut hs ?_⟩
          rintro rfl
          exact hj (nodup_ix hN e1 (I.ok.inj _ _ _ e hc▸hi))
    · by_cases hcc:c'=c
      · subst hcc; exact ⟨_,hc'⟩
      · obtain ⟨w2,z2⟩:=I.cell y c' e
        exact ⟨w2,z2.sameBut hs hcc⟩
    · obtain ⟨e,n,ne,nf,d⟩:=I.pin p hp
      refine ⟨(hs.2 p.1 ?_).trans e,n,ne,nf,d⟩
      intro q
      rw [q,hoc] at e
      have q':oc=p.2:=Option.some.inj e
      exact d w' (by rw [← q']; exact hocd)
theorem store_ok {M:Model} {A:Around} {E:Value→Shared→Prop} {i:Nat} {x:Str} {v:V} {u:Value} {Q:Unit→Shared→Prop} (I:Inv X pins σ H s) (hN:X.N.Nodup) (hi:X.N[i]?=some x) (hx:Loc X.env.scope x) (r:RelV v u)
    (h:∀ s',Inv X pins (σ.set i (some v)) H s'→Q () s') (hf:X.fn x=true∨X.env.scope.names.lookup x=some .local:=by first | exact .inl rfl | exact .inr rfl | assumption):wpAny M A (storeName X.env x u) Q E s :=
  store_ok2 I hN hi hx r (fun s' I' _=>h s' I') hf
theorem Inv.call' {s':Shared} {ch:List Addr} (I:Inv X pins σ H s) (ho:s'.os=s.os) (u:Un (frs X.stack) ch H H' s.heap s'.heap) (hok:HOk X.prog X.w H' s'.heap) (hg:AllBare s'.gens)
    (hch:∀ b∈ch,(b∈X.ex∨X.s₀.heap.objs.size≤b)∧b≠X.env.locals∧(∀ x c,X.env.cells.lookup x=some c→c≠b)∧∀ p∈X.pn++pins,p.1≠b):Inv X pins σ H' s':=by
  obtain ⟨h',g',d',t',o'⟩:=s'
  have e:o'=s.os:=ho
  subst e
  exact I.call (g':=g') (t':=t') (d':=d') u hok hg hch
end
abbrev XK:=Value→Option Addr→Hp→Prop
abbrev St:=List (Option V)
abbrev VK:=V→Hp→Prop
abbrev TE:=St→Hp→VK→Prop
abbrev TT:=St→Hp→(Bool→Hp→Prop)→Prop
abbrev TA:=St→Hp→(List V→Hp→Prop)→Prop
structure Ends where
  nx:St→Hp→Prop
  rt:VK
  bk:St→Hp→Prop:=fun _ _=>False
  ct:St→Hp→Prop:=fun _ _=>False
abbrev TS:=Ends→St→Hp→Prop
def EP (X:Cx) (pins:List (Addr×Obj)) (σ:St) (Q:VK) (u:Value) (s':Shared):Prop:=∃ v H',Inv X pins σ H' s'∧RelV v u∧Q v H'
def TP (X:Cx) (pins:List (Addr×Obj)) (σ:St) (Q:Bool→Hp→Prop) (b:Bool) (s':Shared):Prop:=∃ H',Inv X pins σ H' s'∧Q b H'
def AP (X:Cx) (pins:List (Addr×Obj)) (σ:St) (Q:List V→Hp→Prop) (us:List Value) (s':Shared):Prop:=∃ vs H',Inv X pins σ H' s'∧Vals vs us∧Q vs H'
def SP (X:Cx) (pins:List (Addr×Obj)) (D:Ends) (f:Flow) (s':Shared):Prop :=
  match f with
  | .next=>∃ σ' H',Inv X pins σ' H' s'∧D.nx σ' H'
  | .brk=>∃ σ' H',Inv X pins σ' H' s'∧D.bk σ' H'
  | .cont=>∃ σ' H',Inv X pins σ' H' s'∧D.ct σ' H'
  | .ret u=>∃ v σ' H',Inv X pins σ' H' s'∧RelV v u∧D.rt v H'
def PE (X:Cx) (e:Expr) (t:TE):Prop :=
  ∀ (pins:List (Addr×Obj)) (s:Shared) (σ:St) (H:Hp) (Q:VK),Inv X pins σ H s→t σ H Q→wpAny (model X.prog X.w) X.A (eval e X.env) (EP X pins σ Q) X.xe s
def PT (X:Cx) (e:Expr) (t:TT):Prop :=
  ∀ (pins:List (Addr×Obj)) (s:Shared) (σ:St) (H:Hp) (Q:Bool→Hp→Prop),Inv X pins σ H s→t σ H Q→wpAny (model X.prog X.w) X.A (isTrue e X.env (eval e X.env)) (TP X pins σ Q) X.xe s
def PW (X:Cx) (e:Expr) (t:TT):Prop :=
  ∀ (whole:Sem Value) (pins:List (Addr×Obj)) (s:Shared) (σ:St) (H:Hp) (Q:Bool→Hp→Prop),Inv X pins σ H s→t σ H Q→wpAny (model X.prog X.w) X.A (isTrue e X.env whole) (TP X pins σ Q) X.xe s
theorem PW.pt {X:Cx} {e:Expr} {t:TT} (h:PW X e t):PT X e t:=h _
def PA (X:Cx) (es:List Expr) (t:TA):Prop :=
  ∀ (pos:Pos) (pins:List (Addr×Obj)) (s:Shared) (σ:St) (H:Hp) (Q:List V→Hp→Prop),Inv X pins σ H s→t σ H Q→wpAny (model X.prog X.w) X.A (spliced (backTo pos (starEach es X.env))) (AP X pins σ Q) X.xe s
def PS (X:Cx) (st:Stmt) (t:TS):Prop :=
  ∀ (pins:List (Addr×Obj)) (s:Shared) (σ:St) (H:Hp) (D:Ends),Inv X pins σ H s→t D σ H→wpAny (model X.prog X.w) X.A (exec st X.env) (SP X pins D) X.xe s
def PSs (X:Cx) (st:List Stmt) (t:TS):Prop :=
  ∀ (pins:List (Addr×Obj)) (s:Shared) (σ:St) (H:Hp) (D:Ends),Inv X pins σ H s→t D σ H→wpAny (model X.prog X.w) X.A (execs st X.env) (SP X pins D) X.xe s
theorem thn {α:Type} {t:Sem α} {Q Q':α→Shared→Prop} {M:Model} {A:Around} {E:Value→Shared→Prop} {s:Shared} (h:wpAny M A t Q E s) (hQ:∀ a s,Q a s→Q' a s):wpAny M A t Q' E s:=wpAny_mono h hQ fun _ _ x=>x
end L2
namespace L2
open PySem PySem.Spec PyProof.Rows
section
variable {X:Cx}
theorem bin {a b:Expr} {ta tb:TE} (ha:PE X a ta) (hb:PE X b tb) {pins:List (Addr×Obj)} {s:Shared} {σ:St} {H:Hp} {R:V→V→Hp→Prop} (I:Inv X pins σ H s) (h:ta σ H fun x H1=>tb σ H1 fun y H2=>R x y H2)
    {α:Type} {Q:α→Shared→Prop} {f:Value→Value→Sem α}
    (hf:∀ v u s2 x y H2,Inv X pins σ H2 s2→RelV x v→RelV y u→R x y H2→wpAny (model X.prog X.w) X.A (f v u) Q X.xe s2) :
    wpAny (model X.prog X.w) X.A (eval a X.env) (fun v s₁=>wpAny (model X.prog X.w) X.A (eval b X.env) (fun u s₂=>wpAny (model X.prog X.w) X.A (f v u) Q X.xe s₂) X.xe s₁) X.xe s:=by
  refine thn (ha pins s σ H _ I h) fun v s1 ⟨x,H1,I1,r1,q1⟩=>?_
  refine thn (hb pins s1 σ H1 _ I1 q1) fun u s2 ⟨y,H2,I2,r2,q2⟩=>?_
  exact hf v u s2 x y H2 I2 r1 r2 q2
def tVar (i:Nat):TE:=fun σ H Q=>∃ v,σ[i]?=some (some v)∧Q v H
def tC (v:V):TE:=fun _ H Q=>Q v H
theorem pe_var {i:Nat} {x:Str} {pos:Pos} (hN:X.N[i]?=some x) (hv:Vis X.env.scope x) (hd:(x == ("__debug__":Str))=false:=by decide) (hcd:(x == ("__classdict__":Str))=false:=by decide):PE X (.Name x pos) (tVar i):=by
  intro pins s σ H Q I h
  obtain ⟨v,e,h⟩:=h
  obtain ⟨m,hn,hl⟩:=I.loc
  obtain ⟨u,r,l⟩:=hl i x v hN e hv
  have fin:EP X pins σ Q u s:=⟨v,H,I,r,h⟩
  rcases l with ⟨hk,hm⟩ | ⟨hk,c,hc,hcell⟩
  · exact wpAny_Name (wpAny_loadName_local I.ok.kind hk hn hm fin) hd
  · rcases hk with hk | hk
    · exact wpAny_Name (wpAny_loadName_cell I.ok.kind hk hc hcell fin) hd
    · exact wpAny_Name (wpAny_loadName_free I.ok.kind hk hc hcell fin hcd) hd
theorem pe_int {i j pos}:PE X (.Constant (.int i) j pos) (tC (.int i)):=fun _ _ _ H _ I h=>wpAny_Constant_int ⟨.int i,H,I.tok _,⟨_,rfl⟩,h⟩
theorem pe_bl {b j pos}:PE X (.Constant (.bool b) j pos) (tC (.bl b)):=fun _ _ _ H _ I h=>Constant_bool ⟨.bl b,H,I,rfl,h⟩
theorem pe_non {j pos}:PE X (.Constant .none j pos) (tC .non):=fun _ _ _ H _ I h=>Constant_none ⟨.non,H,I,rfl,h⟩
theorem pe_str {x j pos}:PE X (.Constant (.str x) j pos) (tC (.str x)):=fun _ _ _ H _ I h=>Calls.Constant_str ⟨.str x,H,I.tok _,⟨_,rfl⟩,h⟩
def Gl (X:Cx) (x:Str):Prop:=X.env.kindOf x=some .globalImplicit
theorem ld_glob {E:Value→Shared→Prop} {pins:List (Addr×Obj)} {s:Shared} {σ:St} {H:Hp} {x:Str} {u:Value} {pos:Pos} {Q:Value→Shared→Prop} (I:Inv X pins σ H s) (hg:Gl X x) (hm:X.mg x=some u) (h:Q u s)
    (hd:(x == ("__debug__":Str))=false:=by decide):wpAny (model X.prog X.w) X.A (eval (.Name x pos) X.env) Q E s :=
  Calls.Name_function_global I.ok.kind hg (Calls.loadGlobal_global (by rw [I.ok.glob]; exact I.mod.glob.keeps I.bk) hm h) hd
theorem ld_blt {E:Value→Shared→Prop} {pins:List (Addr×Obj)} {s:Shared} {σ:St} {H:Hp} {x:Str} {u:Value} {pos:Pos} {Q:Value→Shared→Prop} (I:Inv X pins σ H s) (hg:Gl X x) (hm:X.mg x=none) (hv:bootBuiltins x=some u) (h:Q u s)
    (hn:x≠"__name__":=by decide) (hd:(x == ("__debug__":Str))=false:=by decide):wpAny (model X.prog X.w) X.A (eval (.Name x pos) X.env) Q E s:=by
  obtain ⟨mb,h1,h2⟩:=I.mod.blt
  exact Calls.Name_function_global I.ok.kind hg (Calls.loadGlobal_builtin (by rw [I.ok.glob]; exact I.mod.glob.keeps I.bk) hm (by rw [I.ok.blt]; exact h1.keeps I.bk) ((h2 x hn).trans hv) h) hd
theorem pe_bltn {x:Str} {v:V} {u:Value} {pos:Pos} (hg:Gl X x) (hm:X.mg x=none) (hv:bootBuiltins x=some u) (r:RelV v u) (hn:x≠"__name__":=by decide) (hd:(x == ("__debug__":Str))=false:=by decide):PE X (.Name x pos) (tC v) :=
  fun _ _ _ H _ I h=>ld_blt I hg hm hv ⟨v,H,I,r,h⟩ hn hd
def t2I (ta tb:TE) (k:Int→Int→Hp→Prop):St→Hp→Prop:=fun σ H=>ta σ H fun x H1=>tb σ H1 fun y H2=>∃ i j,x=.int i∧y=.int j∧k i j H2
def tAdd (ta tb:TE):TE:=fun σ H Q=>t2I ta tb (fun i j H2=>Q (.int (i+j)) H2) σ H
def tSub (ta tb:TE):TE:=fun σ H Q=>t2I ta tb (fun i j H2=>Q (.int (i - j)) H2) σ H
def tMul (ta tb:TE):TE:=fun σ H Q=>t2I ta tb (fun i j H2=>(-(2 ^ 64)<i∧i<2 ^ 64)∧Q (.int (i * j)) H2) σ H
variable {a b:Expr} {ta tb:TE} {pos:Pos}
def PC (X:Cx) (op:CmpOp) (a b:Expr) (t:TE):Prop :=
  ∀ (pins:List (Addr×Obj)) (s:Shared) (σ:St) (H:Hp) (Q:VK),Inv X pins σ H s→t σ H Q→
    wpAny (model X.prog X.w) X.A (eval a X.env) (fun v s₁=>wpAny (model X.prog X.w) X.A (eval b X.env) (fun u s₂=>wpAny (model X.prog X.w) X.A (compareOp op v u) (EP X pins σ Q) X.xe s₂) X.xe s₁) X.xe s
def tCmp (p:Int→Int→Bool) (ta tb:TE):TE:=fun σ H Q=>t2I ta tb (fun i j H2=>Q (.bl (p i j)) H2) σ H
abbrev tLt:TE→TE→TE:=tCmp fun i j=>decide (i<j)
abbrev tLe:TE→TE→TE:=tCmp fun i j=>decide (i≤j)
abbrev tGt:TE→TE→TE:=tCmp fun i j=>decide (j<i)
abbrev tGe:TE→TE→TE:=tCmp fun i j=>decide (j≤i)
abbrev tEqI:TE→TE→TE:=tCmp fun i j=>decide (i=j)
abbrev tNeI:TE→TE→TE:=tCmp fun i j=>!decide (i=j)
def tIsN (ta:TE):TE:=fun σ H Q=>ta σ H fun x H1=>Q (.bl (decide (x=.non))) H1
def tNotN (ta:TE):TE:=fun σ H Q=>ta σ H fun x H1=>Q (.bl (!decide (x=.non))) H1
def tB (t:TE):TT:=fun σ H Q=>t σ H fun x H1=>∃ c,x=.bl c∧Q c H1
theorem pt_cmp {op:CmpOp} {t:TE} (h:PC X op a b t) (h1:behindInMarks op b=false:=by first | exact nobehind _ (by decide) (by decide) | rfl):PT X (.Compare a [op] [b] pos) (tB t):=by
  intro pins s σ H Q I hw
  refine wpAny_isTrue_Compare1 (thn (h pins s σ H _ I hw) fun v s1 h1=>thn h1 fun u s2 h2=>thn h2 fun c s3 ⟨x,H1,I1,r1,q1⟩=>?_) h1
  obtain ⟨d,rfl,q⟩:=q1
  cases r1
  exact wpAny_truthy_bool ⟨H1,I1,q⟩
theorem pt_val {e:Expr} {t:TE} (h:PE X e t) (he:∀ whole,isTrue e X.env whole=(do let v ← whole; standAt e.pos; holding [v] (truthy v)):=by intro _; rfl):PT X e (tB t):=by
  intro pins s σ H Q I hw
  refine isTrue_plain (thn (h pins s σ H _ I hw) fun v s1 ⟨x,H1,I1,r1,q1⟩=>?_) (he _)
  obtain ⟨d,rfl,q⟩:=q1
  cases r1
  exact wpAny_truthy_bool ⟨H1,I1,q⟩
variable {tA tB':TT} {rest:List Expr}
def tAnd (t u:TT):TT:=fun σ H Q=>t σ H fun c H1=>if c=true then u σ H1 Q else Q false H1
def tOr (t u:TT):TT:=fun σ H Q=>t σ H fun c H1=>if c=true then Q true H1 else u σ H1 Q
def tNot (t:TT):TT:=fun σ H Q=>t σ H fun c H1=>Q (!c) H1
theorem pw_and1 (ha:PT X a tA):PW X (.BoolOp .And [a] pos) tA:=by
  intro wh pins s σ H Q I h
  refine isTrue_and (thn (ha pins s σ H Q I h) fun c s1 e=>?_)
  cases c with
  | true=>exact isTrue_and_nil e
  | false=>exact e
theorem pw_or1 (ha:PT X a tA):PW X (.BoolOp .Or [a] pos) tA:=by
  intro wh pins s σ H Q I h
  refine isTrue_or (thn (ha pins s σ H Q I h) fun c s1 e=>?_)
  cases c with
  | false=>exact isTrue_or_nil e
  | true=>exact e
theorem pw_and (ha:PT X a tA) (hb:PW X (.BoolOp .And (b::rest) pos) tB'):PW X (.BoolOp .And (a::b::rest) pos) (tAnd tA tB'):=by
  intro wh pins s σ H Q I h
  refine isTrue_and (thn (ha pins s σ H _ I h) fun c s1 ⟨H1,I1,q1⟩=>?_)
  cases c with
  | true=>exact hb wh pins s1 σ H1 Q I1 q1
  | false=>exact ⟨H1,I1,q1⟩
theorem pw_or (ha:PT X a tA) (hb:PW X (.BoolOp .Or (b::rest) pos) tB'):PW X (.BoolOp .Or (a::b::rest) pos) (tOr tA tB'):=by
  intro wh pins s σ H Q I h
  refine isTrue_or (thn (ha pins s σ H _ I h) fun c s1 ⟨H1,I1,q1⟩=>?_)
  cases c with
  | true=>exact ⟨H1,I1,q1⟩
  | false=>exact hb wh pins s1 σ H1 Q I1 q1
theorem pt_not (ha:PT X a tA):PT X (.UnaryOp .Not a pos) (tNot tA):=by
  intro pins s σ H Q I h
  exact isTrue_not (ha pins s σ H (fun c H1=>Q (!c) H1) I h)
def tAndV (ta tb:TE):TE:=fun σ H Q=>ta σ H fun x H1=>∃ c,x=.bl c∧if c=true then tb σ H1 Q else Q (.bl false) H1
def tOrV (ta tb:TE):TE:=fun σ H Q=>ta σ H fun x H1=>∃ c,x=.bl c∧if c=true then Q (.bl true) H1 else tb σ H1 Q
def tNotV (ta:TE):TE:=fun σ H Q=>ta σ H fun x H1=>∃ c,x=.bl c∧Q (.bl (!c)) H1
theorem pe_one {op} {t:TE} (h:PE X a t):PE X (.BoolOp op [a] pos) t:=fun pins s σ H Q I hw=>BoolOp_one (h pins s σ H Q I hw)
theorem pe_and (ha:PE X a ta) (hb:PE X (.BoolOp .And (b::rest) pos) tb):PE X (.BoolOp .And (a::b::rest) pos) (tAndV ta tb):=by
  intro pins s σ H Q I h
  refine BoolOp_and (thn (ha pins s σ H _ I h) fun v s1 ⟨x,H1,I1,r1,q1⟩=>?_)
  obtain ⟨c,rfl,q1⟩:=q1
  cases r1
  refine wpAny_truthy_bool ?_
  cases c with
  | true=>exact hb pins s1 σ H1 Q I1 q1
  | false=>exact ⟨.bl false,H1,I1,rfl,q1⟩
theorem pe_not (ha:PE X a ta):PE X (.UnaryOp .Not a pos) (tNotV ta):=by
  intro pins s σ H Q I h
  refine UnaryOp_ (thn (ha pins s σ H _ I h) fun v s1 ⟨x,H1,I1,r1,q1⟩=>?_)
  obtain ⟨c,rfl,q1⟩:=q1
  cases r1
  exact not_of (wpAny_truthy_bool ⟨.bl (!c),H1,I1,rfl,q1⟩)
def tIf (t:TT) (ta tb:TE):TE:=fun σ H Q=>t σ H fun c H1=>if c=true then ta σ H1 Q else tb σ H1 Q
theorem pe_ifExp {c:Expr} (hc:PT X c tA) (ha:PE X a ta) (hb:PE X b tb):PE X (.IfExp c a b pos) (tIf tA ta tb):=by
  intro pins s σ H Q I h
  refine wpAny_IfExp (thn (hc pins s σ H _ I h) fun d s1 ⟨H1,I1,q1⟩=>?_)
  cases d with
  | true=>exact ha pins s1 σ H1 Q I1 q1
  | false=>exact hb pins s1 σ H1 Q I1 q1
end
end L2
namespace L2
open PySem PySem.Spec PyProof.Rows
def SqL (K:PySem.W.Frag) (H:Hp) (a:Addr) (xs:List V):Prop :=
  Rd H a (.lst xs)∨
    ∃ (o:Obj) (its:Array Value) (n:Nat),K.lookup a=some o∧o.cls=.type "list"∧o.dict=none∧o.data=.seq its n∧its.size≤sizeLine∧Vals xs its.toList
def SqT (K:PySem.W.Frag) (H:Hp) (a:Addr) (xs:List V):Prop :=
  Rd H a (.tup xs)∨
    ∃ (o:Obj) (its:Array Value) (n:Nat),K.lookup a=some o∧o.cls=.type "tuple"∧o.data=.seq its n∧its.size≤sizeLine∧Vals xs its.toList
def absV:Value→Option V
  | .none=>some .non
  | .bool b=>some (.bl b)
  | .int i _=>some (.int i)
  | .str x _=>some (.str x)
  | .bytes b _=>some (.byt b)
  | .float b _=>some (.flt b)
  | .ref a=>some (.ref a)
  | .type n=>some (.ty n)
  | _=>none
theorem RelV.abs {x:V} {u:Value} (r:RelV x u):absV u=some x:=by
  cases x with
  | non=>cases r; rfl
  | bl _=>cases r; rfl
  | int _=>obtain ⟨t,rfl⟩:=r; rfl
  | str _=>obtain ⟨t,rfl⟩:=r; rfl
  | byt _=>obtain ⟨t,rfl⟩:=r; rfl
  | flt _=>obtain ⟨t,rfl⟩:=r; rfl
  | ref _=>cases r; rfl
  | ty _=>cases r; rfl
theorem RelV.inj {x y:V} {u:Value} (r:RelV x u) (q:RelV y u):x=y:=Option.some.inj (r.abs.symm.trans q.abs)
theorem Vals.inj:∀ {xs ys:List V} {us:List Value},Vals xs us→Vals ys us→xs=ys
  | _,_,_,.nil,.nil=>rfl
  | _,_,_,.cons r t,.cons r' t'=>by rw [r.inj r',Vals.inj t t']
section
variable {X:Cx} {pins:List (Addr×Obj)} {σ:St} {H:Hp} {s:Shared} {a:Addr} {xs ys:List V}
theorem SqL.of {K:PySem.W.Frag} (h:H a=some (.lst xs)):SqL K H a xs:=.inl (.inl h)
theorem SqT.of {K:PySem.W.Frag} (h:H a=some (.tup xs)):SqT K H a xs:=.inl (.inl h)
theorem Inv.list (I:Inv X pins σ H s) (h:SqL X.K H a xs):∃ its:List Value,Vals xs its∧PlainL s.heap a its.toArray∧xs.length≤sizeLine:=by
  rcases h with h | ⟨o,its,n,hk,hc,hd,hs,hz,r⟩
  · obtain ⟨z,its,n,r,e⟩:=h.ok I.hok
    exact ⟨its,r,⟨_,n,e,rfl,rfl,rfl⟩,z⟩
  · refine ⟨its.toList,r,⟨o,n,I.kIn a o hk,hc,hd,by simpa using hs⟩,?_⟩
    have e:=r.length
    simp only [Array.length_toList] at e
    omega
theorem Inv.tuple (I:Inv X pins σ H s) (h:SqT X.K H a xs):∃ its:List Value,Vals xs its∧IsTup s.heap a its.toArray∧xs.length≤sizeLine:=by
  rcases h with h | ⟨o,its,n,hk,hc,hs,hz,r⟩
  · obtain ⟨z,its,r,p⟩:=h.ok I.hok
    exact ⟨its,r,p,z⟩
  · refine ⟨its.toList,r,⟨o,I.kIn a o hk,hc,n,by simpa using hs⟩,?_⟩
    have e:=r.length
    simp only [Array.length_toList] at e
    omega
theorem Inv.list_inj (I:Inv X pins σ H s) (h:SqL X.K H a xs) (h':SqL X.K H a ys):xs=ys:=by
  obtain ⟨its,r,⟨o,n,e,_,_,d⟩,_⟩:=I.list h
  obtain ⟨its',r',⟨o',n',e',_,_,d'⟩,_⟩:=I.list h'
  rw [e] at e'; cases e'
  rw [d] at d'
  injection d' with d1 _
  have:its=its':=by simpa using congrArg Array.toList d1
  subst this
  exact r.inj r'
theorem Inv.tuple_inj (I:Inv X pins σ H s) (h:SqT X.K H a xs) (h':SqT X.K H a ys):xs=ys:=by
  obtain ⟨its,r,⟨o,e,_,n,d⟩,_⟩:=I.tuple h
  obtain ⟨its',r',⟨o',e',_,n',d'⟩,_⟩:=I.tuple h'
  rw [e] at e'; cases e'
  rw [d] at d'
  injection d' with d1 _
  have:its=its':=by simpa using congrArg Array.toList d1
  subst this
  exact r.inj r'
end
abbrev Cx.wish (X:Cx) (E:Value→Shared→Prop):Cx:={ X with xe:=E }
abbrev Cx.nox (X:Cx):Cx:=X.wish fun _ _=>False
theorem Cx.Ok.wish {X:Cx} (ok:X.Ok) (E:Value→Shared→Prop):(X.wish E).Ok :=
  ⟨ok.mod,ok.kind,ok.glob,ok.blt,ok.above,ok.inj,ok.has,ok.cab,ok.hd,ok.frames,ok.stk,ok.exf,ok.bs,ok.bsz,ok.noex,ok.exfs,ok.funs,ok.frf⟩
theorem Cx.Ok.unwish {X:Cx} {E:Value→Shared→Prop} (ok:(X.wish E).Ok):X.Ok :=
  ⟨ok.mod,ok.kind,ok.glob,ok.blt,ok.above,ok.inj,ok.has,ok.cab,ok.hd,ok.frames,ok.stk,ok.exf,ok.bs,ok.bsz,ok.noex,ok.exfs,ok.funs,ok.frf⟩
section
variable {X:Cx} {pins:List (Addr×Obj)} {σ:St} {H:Hp} {s:Shared} {E:Value→Shared→Prop}
theorem Inv.wish (I:Inv X pins σ H s) (E:Value→Shared→Prop):Inv (X.wish E) pins σ H s:=⟨I.ok.wish E,I.os,I.bare,I.base,I.loc,I.cell,I.free,I.freeC,I.pin,I.hok,I.len⟩
theorem Inv.unwish (I:Inv (X.wish E) pins σ H s):Inv X pins σ H s:=⟨I.ok.unwish,I.os,I.bare,I.base,I.loc,I.cell,I.free,I.freeC,I.pin,I.hok,I.len⟩
theorem SP.unwish {D:Ends} {f:Flow} {s':Shared} (h:SP (X.wish E) pins D f s'):SP X pins D f s':=by
  cases f with
  | next=>obtain ⟨σ',H',I,q⟩:=h; exact ⟨σ',H',I.unwish,q⟩
  | brk=>obtain ⟨σ',H',I,q⟩:=h; exact ⟨σ',H',I.unwish,q⟩
  | cont=>obtain ⟨σ',H',I,q⟩:=h; exact ⟨σ',H',I.unwish,q⟩
  | ret u=>obtain ⟨v,σ',H',I,r,q⟩:=h; exact ⟨v,σ',H',I.unwish,r,q⟩
theorem PSs.nox {st:List Stmt} {t:TS} (h:PSs X.nox st t):PSs X st t:=fun pins s σ H D I hw =>
  wpAny_mono (h pins s σ H D (I.wish _) hw) (fun _ _ q=>q.unwish) fun _ _ z=>False.elim z
end
section
variable {X:Cx} {st:Stmt} {rest:List Stmt} {t u:TS} {e:Expr} {te:TE} {pos:Pos}
def tNext:TS:=fun D σ H=>D.nx σ H
def tSeq (t u:TS):TS:=fun D σ H=>t { D with nx:=u D } σ H
theorem pss_nil:PSs X [] tNext:=fun _ _ σ H _ I h=>wpAny_execs_nil ⟨σ,H,I,h⟩
theorem pss_cons (h1:PS X st t) (h2:PSs X rest u):PSs X (st::rest) (tSeq t u):=by
  intro pins s σ H D I h
  refine wpAny_execs_cons (thn (h1 pins s σ H { D with nx:=u D } I h) fun f s1 q=>?_)
  cases f with
  | next =>
    obtain ⟨σ',H',I',q⟩:=q
    exact h2 pins s1 σ' H' D I' q
  | ret v=>exact q
  | brk=>exact q
  | cont=>exact q
theorem pss_one (h1:PS X st t):PSs X [st] t:=by
  intro pins s σ H D I h
  refine wpAny_execs_cons (thn (h1 pins s σ H D I h) fun f s1 q=>?_)
  cases f with
  | next=>exact wpAny_execs_nil q
  | ret v=>exact q
  | brk=>exact q
  | cont=>exact q
def tBreak:TS:=fun D σ H=>D.bk σ H
def tCont:TS:=fun D σ H=>D.ct σ H
theorem ps_break:PS X (.Break pos) tBreak:=fun _ _ σ H _ I h=>wpAny_Break ⟨σ,H,I,h⟩
theorem Inv.quiet {pins:List (Addr×Obj)} {σ:St} {H:Hp} {s:Shared} (I:Inv X pins σ H s):interactive X.env=false:=by simp [interactive,I.ok.kind]
def tDrop (te:TE):TS:=fun D σ H=>te σ H fun _ H1=>D.nx σ H1
theorem ps_expr (he:PE X e te) (hs:swapsWith e none pos.line X.env=pure false:=by rfl):PS X (.Expr e pos) (tDrop te):=by
  intro pins s σ H D I h
  exact wpAny_Expr_any (thn (he pins s σ H _ I h) fun v s1 ⟨x,H1,I1,r1,q1⟩=>⟨σ,H1,I1,q1⟩) I.quiet hs
def tRet (te:TE):TS:=fun D σ H=>te σ H D.rt
theorem ps_ret (he:PE X e te):PS X (.Return (some e) pos) (tRet te):=by
  intro pins s σ H D I h
  exact wpAny_Return_some (thn (he pins s σ H _ I h) fun v s1 ⟨x,H1,I1,r1,q1⟩=>⟨x,σ,H1,I1,r1,q1⟩)
def tRetN:TS:=fun D _ H=>D.rt .non H
def tIfS (c:TT) (t u:TS):TS:=fun D σ H=>c σ H fun b H1=>if b=true then t D σ H1 else u D σ H1
theorem ps_if {c:Expr} {a b:List Stmt} {tc:TT} (hc:PT X c tc) (ha:PSs X a t) (hb:PSs X b u):PS X (.If c a b pos) (tIfS tc t u):=by
  intro pins s σ H D I h
  refine wpAny_If (thn (hc pins s σ H _ I h) fun d s1 ⟨H1,I1,q1⟩=>?_)
  cases d with
  | true=>exact ha pins s1 σ H1 D I1 q1
  | false=>exact hb pins s1 σ H1 D I1 q1
def tNever:TS:=fun _ _ _=>False
theorem pss_never {sts:List Stmt}:PSs X sts tNever:=fun _ _ _ _ _ _ h=>h.elim
end
abbrev TG:=V→St→Hp→(St→Hp→Prop)→Prop
abbrev TGs:=List V→St→Hp→(St→Hp→Prop)→Prop
def PG (X:Cx) (target:Expr) (t:TG):Prop :=
  ∀ (pins:List (Addr×Obj)) (s:Shared) (σ:St) (H:Hp) (v:V) (u:Value) (Q:St→Hp→Prop),Inv X pins σ H s→RelV v u→t v σ H Q→
    wpAny (model X.prog X.w) X.A (assign target X.env u) (fun _ s'=>∃ σ' H',Inv X pins σ' H' s'∧Q σ' H') X.xe s
def PGs (X:Cx) (ts:List Expr) (t:TGs):Prop :=
  ∀ (pins:List (Addr×Obj)) (s:Shared) (σ:St) (H:Hp) (vs:List V) (us:List Value) (Q:St→Hp→Prop),Inv X pins σ H s→Vals vs us→t vs σ H Q→
    wpAny (model X.prog X.w) X.A (assignInOrder ((assignEach ts X.env).map (·.2)) us) (fun _ s'=>∃ σ' H',Inv X pins σ' H' s'∧Q σ' H') X.xe s
abbrev TSet:=V→V→V→Hp→(Hp→Prop)→Prop
def PSet (X:Cx) (t:TSet):Prop :=
  ∀ (pins:List (Addr×Obj)) (s:Shared) (σ:St) (H:Hp) (o i v:V) (ov iv u:Value) (Q:Hp→Prop),Inv X pins σ H s→RelV o ov→RelV i iv→RelV v u→t o i v H Q→
    wpAny (model X.prog X.w) X.A (setItem ov iv u) (fun _ s'=>∃ H',Inv X pins σ H' s'∧Q H') X.xe s
abbrev TIp:=V→V→Hp→VK→Prop
def PIp (X:Cx) (op:Operator) (t:TIp):Prop :=
  ∀ (pins:List (Addr×Obj)) (s:Shared) (σ:St) (H:Hp) (x y:V) (v u:Value) (Q:VK),Inv X pins σ H s→RelV x v→RelV y u→t x y H Q→
    wpAny (model X.prog X.w) X.A (inplaceOp op v u) (EP X pins σ Q) X.xe s
section
variable {X:Cx} {pos:Pos}
def gName (i:Nat):TG:=fun v σ H Q=>Q (σ.set i (some v)) H
theorem pg_name {i:Nat} {x:Str} (hN:X.N.Nodup) (hi:X.N[i]?=some x) (hx:Loc X.env.scope x) (hf:X.fn x=true∨X.env.scope.names.lookup x=some .local:=by first | exact .inl rfl | exact .inr rfl | assumption):PG X (.Name x pos) (gName i):=by
  intro pins s σ H v u Q I r h
  exact wpAny_assign_Name (store_ok I hN hi hx r (fun s' I'=>⟨_,H,I',h⟩) hf)
def gNil:TGs:=fun vs σ H Q=>vs=[]∧Q σ H
def gCons (t:TG) (u:TGs):TGs:=fun vs σ H Q=>∃ v r,vs=v::r∧t v σ H fun σ' H'=>u r σ' H' Q
theorem pgs_nil:PGs X [] gNil:=by
  intro pins s σ H vs us Q I r h
  obtain ⟨e,h⟩:=h
  subst e
  cases r
  exact assignInOrder_nil ⟨σ,H,I,h⟩
theorem pgs_cons {e:Expr} {es:List Expr} {t:TG} {u:TGs} (h1:PG X e t) (h2:PGs X es u)
    (hs:(assignEach (e::es) X.env).map (·.2)=assign e X.env::(assignEach es X.env).map (·.2):=by rfl):PGs X (e::es) (gCons t u):=by
  intro pins s σ H vs us Q I r h
  obtain ⟨v,vr,e1,h⟩:=h
  subst e1
  cases r with
  | cons r rr =>
    rw [hs]
    refine assignInOrder_cons (thn (h1 pins s σ H _ _ _ I r h) fun _ s1 ⟨σ1,H1,I1,q1⟩=>?_)
    exact h2 pins s1 σ1 H1 _ _ Q I1 rr q1
def gTup (K:PySem.W.Frag) (n:Nat) (t:TGs):TG:=fun v σ H Q=>∃ a xs,v=.ref a∧SqT K H a xs∧xs.length=n∧t xs σ H Q
theorem pg_tup {es:List Expr} {k:Nat} {t:TGs} {n:Nat} (hc:X.calm=true) (h:PGs X es t)
    (hn:(assignEach es X.env).length=n:=by rfl) (hst:(assignEach es X.env).findIdx? (·.1)=none:=by rfl):PG X (.Tuple es k pos) (gTup X.K n t):=by
  intro pins s σ H v u Q I r hw
  obtain ⟨a,xs,e1,hq,hl,hw⟩:=hw
  subst e1
  cases r
  obtain ⟨its,rv,ht,hz⟩:=I.tuple hq
  refine assign_Tuple_tuple (I.ok.hd hc) ht (by simp [hn,← hl,rv.length]) hst fun h' hx=>?_
  have I1:Inv X pins σ H { s with heap:=h' }:=I.kept (t':=s.toks) fun b o e=>hx b o (Nat.ne_of_lt (Heap.lt_size e)) e
  exact h pins _ σ H xs _ Q I1 (by simpa using rv) hw
def gSub (to ti:TE) (t:TSet):TG:=fun v σ H Q=>to σ H fun o H1=>ti σ H1 fun i H2=>t o i v H2 fun H3=>Q σ H3
theorem pg_sub {o i:Expr} {to ti:TE} {t:TSet} (ho:PE X o to) (hi:PE X i ti) (hs:PSet X t)
    (ha:∀ v,assign (.Subscript o i pos) X.env v=(do
      let ov ← holding [v] (eval o X.env)
      let iv ← holding [v,ov] (eval i X.env)
      standAt pos
      holding [v,ov,iv] (setItem ov iv v)
      release [v,ov,iv] []):=by intro _; rfl):PG X (.Subscript o i pos) (gSub to ti t):=by
  intro pins s σ H v u Q I r h
  rw [ha]
  refine wpAny_bind (wpAny_holding (thn (ho pins s σ H _ I h) fun ov s1 ⟨x,H1,I1,r1,q1⟩=>?_))
  refine wpAny_bind (wpAny_holding (thn (hi pins s1 σ H1 _ I1 q1) fun iv s2 ⟨y,H2,I2,r2,q2⟩=>?_))
  refine wpAny_bind (wpAny_standAt (wpAny_bind (wpAny_holding (thn (hs pins s2 σ H2 x y v ov iv u _ I2 r1 r2 r q2) fun _ s3 ⟨H3,I3,q3⟩=>?_))))
  exact wpAny_release ⟨σ,H3,I3,q3⟩
def tAsg (te:TE) (g:TG):TS:=fun D σ H=>te σ H fun x H1=>g x σ H1 D.nx
theorem ps_asg {tg e:Expr} {te:TE} {g:TG} (he:PE X e te) (hg:PG X tg g) (hs:swapsWithSole [tg] e pos.line X.env=pure false:=by rfl) (hw:swappedStores [tg] e X.env=pure none:=by rfl)
    (h1:(assignEach [tg] X.env).map (·.2)=[assign tg X.env]:=by rfl):PS X (.Assign [tg] e pos) (tAsg te g):=by
  intro pins s σ H D I h
  refine wpAny_Assign_stores (thn (he pins s σ H _ I h) fun v s1 ⟨x,H1,I1,r1,q1⟩=>?_) hs hw
  rw [h1]
  exact thn (hg pins s1 σ H1 x v _ I1 r1 q1) fun _ s2 q=>q
theorem ps_set {i:Nat} {x:Str} {e:Expr} {te:TE} {pos':Pos} (hN:X.N.Nodup) (hi:X.N[i]?=some x) (hx:Loc X.env.scope x) (he:PE X e te) (hs:swapsWith e (some (.Name x pos')) pos.line X.env=pure false:=by rfl) (hf:X.fn x=true∨X.env.scope.names.lookup x=some .local:=by first | exact .inl rfl | exact .inr rfl | assumption) :
    PS X (.Assign [.Name x pos'] e pos) (tAsg te (gName i)):=by
  intro pins s σ H D I h
  refine wpAny_Assign_Name (thn (he pins s σ H _ I h) fun v s1 ⟨y,H1,I1,r1,q1⟩=>?_) hs
  exact store_ok I1 hN hi hx r1 (fun s2 I2=>⟨_,H1,I2,q1⟩) hf
def tPar (i j:Nat) (ta:TA):TS:=fun D σ H=>ta σ H fun vs H1=>∃ v w,vs=[v,w]∧D.nx ((σ.set i (some v)).set j (some w)) H1
def tAug (i:Nat) (te:TE) (ti:TIp):TS:=fun D σ H=>∃ x,σ[i]?=some (some x)∧te σ H fun y H1=>ti x y H1 fun z H2=>D.nx (σ.set i (some z)) H2
def tAugS (to ti te:TE) (tget:V→V→Hp→VK→Prop) (tip:TIp) (tset:TSet):TS:=fun D σ H=>to σ H fun o H1=>ti σ H1 fun i H2=>tget o i H2 fun x H3=>te σ H3 fun y H4=>tip x y H4 fun z H5=>tset o i z H5 fun H6=>D.nx σ H6
def PGet (X:Cx) (t:V→V→Hp→VK→Prop):Prop :=
  ∀ (pins:List (Addr×Obj)) (s:Shared) (σ:St) (H:Hp) (o i:V) (ov iv:Value) (Q:VK),Inv X pins σ H s→RelV o ov→RelV i iv→t o i H Q→
    wpAny (model X.prog X.w) X.A (getItem ov iv) (EP X pins σ Q) X.xe s
def ipI (f:Int→Int→Int):TIp:=fun x y H Q=>∃ i j,x=.int i∧y=.int j∧Q (.int (f i j)) H
end
section
variable {X:Cx} {pos:Pos}
def tWhile (c:TT) (tb:TS):TS:=fun D σ H=>∃ W:Nat→St→Hp→Prop,(∃ m,W m σ H)∧∀ m σ H,W m σ H→
  c σ H fun b H1=>if b=true then ∃ N:St→Hp→Prop,(∀ σ' H',N σ' H'→∃ m',m'<m∧W m' σ' H')∧tb { D with nx:=N,ct:=N,bk:=D.nx } σ H1 else D.nx σ H1
theorem ps_while {c:Expr} {body:List Stmt} {tc:TT} {tb:TS} (hp:PassesOwn (model X.prog X.w) X.A X.env X.xe) (hc:PT X c tc) (hb:PSs X body tb):PS X (.While c body [] pos) (tWhile tc tb):=by
  intro pins s σ H D I h
  obtain ⟨W,⟨m0,w0⟩,turn⟩:=h
  refine wpAny_While (codeAny_whileLoop (fun n s'=>∃ σ' H',Inv X pins σ' H' s'∧W n σ' H') ?_ m0 ⟨σ,H,I,w0⟩)
  rintro n s1 ⟨σ1,H1,I1,w1⟩
  refine wpAny_passesOwn hp (thn (hc pins s1 σ1 H1 _ I1 (turn n σ1 H1 w1)) fun b s2 ⟨H2,I2,q2⟩=>?_)
  cases b with
  | true =>
    obtain ⟨N,hN,q2⟩:=q2
    rw [if_pos rfl]
    refine wpAny_passesOwn hp (thn (hb pins s2 σ1 H2 _ I2 q2) fun f s3 q3=>?_)
    cases f with
    | next =>
      obtain ⟨σ3,H3,I3,n3⟩:=q3
      obtain ⟨m',hm,w3⟩:=hN σ3 H3 n3
      exact ⟨m',hm,σ3,H3,I3,w3⟩
    | cont =>
      obtain ⟨σ3,H3,I3,n3⟩:=q3
      obtain ⟨m',hm,w3⟩:=hN σ3 H3 n3
      exact ⟨m',hm,σ3,H3,I3,w3⟩
    | brk=>exact q3
    | ret v=>exact q3
  | false =>
    rw [if_neg Bool.false_ne_true]
    exact wpAny_execs_nil ⟨σ1,H2,I2,q2⟩
end
structure It where
  go:Nat→Hp→Prop
  yld:Nat→Hp→V→Hp→Prop
  stop:Nat→Hp→Prop
def FpOk (X:Cx) (pins:List (Addr×Obj)) (H:Hp) (b:Addr):Prop :=
  H b=none∧b≠X.env.locals∧b∉X.fs∧(b∈X.ex∨X.s₀.heap.objs.size≤b)∧(∀ x c,X.env.cells.lookup x=some c→c≠b)∧∀ p∈X.pn++pins,p.1≠b
theorem Inv.fpOk {X:Cx} {pins:List (Addr×Obj)} {σ:St} {H H':Hp} {s:Shared} {b:Addr} (I:Inv X pins σ H s) (hb:s.heap.objs.size≤b) (hn:H' b=none):FpOk X pins H' b:=by
  refine ⟨hn,Nat.ne_of_gt (Nat.lt_of_lt_of_le I.lt hb),I.nofs hb,.inr (Nat.le_trans I.sz hb),fun x c e z=>?_,fun p hp z=>?_⟩
  · obtain ⟨v,q⟩:=I.cell x c e
    exact absurd (Nat.lt_of_lt_of_le q.lt (by rw [z]; exact hb)) (Nat.lt_irrefl _)
  · exact absurd (Nat.lt_of_lt_of_le (Heap.lt_size (I.pin p hp).1) (by rw [z]; exact hb)) (Nat.lt_irrefl _)
structure Turn (P:Program) (w:World) (K:PySem.W.Frag) (tg:Expr) (J:It) (fp:List Addr) (it:Addr) (tn:Nat→Heap→Prop):Prop where
  mem:it∈fp
  obj:∀ i h,tn i h→∀ b∈fp,∃ o,h.get? b=some o∧∀ v,o.data≠.cell v
  keep:∀ i h h',tn i h→(∀ b∈fp,∀ o,h.get? b=some o→h'.get? b=some o)→tn i h'
  item:∀ (X:Cx),X.prog=P→X.w=w→X.K=K→X.calm=true→∀ (i:Nat) (pins:List (Addr×Obj)) (s:Shared) (σ:St) (H:Hp) (E:Value→Shared→Prop),Inv X pins σ H s→(∀ b∈fp,FpOk X pins H b)→tn i s.heap→J.go i H→
    wpAny (model P w) X.A (pyNext (.ref it)) (fun r s1=>∃ u,r=some u∧
      wpAny (model P w) X.A (letOwnedTupleGo tg (.ref it) u) (fun _ s2=>∃ x H',Inv X pins σ H' s2∧RelV x u∧J.yld i H x H'∧tn (i+1) s2.heap∧∀ b∈fp,H' b=none) E s1) E s
  done:∀ (X:Cx),X.prog=P→X.w=w→X.K=K→X.calm=true→∀ (i:Nat) (pins:List (Addr×Obj)) (s:Shared) (σ:St) (H:Hp) (E:Value→Shared→Prop),Inv X pins σ H s→(∀ b∈fp,FpOk X pins H b)→tn i s.heap→J.stop i H→
    wpAny (model P w) X.A (pyNext (.ref it)) (fun r s1=>r=none∧Inv X pins σ H s1) E s
  self:∀ (A:Around) (i:Nat) (s:Shared) (Q:Value→Shared→Prop) (E:Value→Shared→Prop),tn i s.heap→Q (.ref it) s→wpAny (model P w) A (pyIter (.ref it)) Q E s
abbrev TI:=St→Hp→(It→Hp→Prop)→Prop
def PIE (X:Cx) (pins:List (Addr×Obj)) (σ:St) (tg:Expr) (R:It→Hp→Prop) (itv:Value) (s2:Shared):Prop :=
  ∃ (it:Addr) (fp:List Addr) (tn:Nat→Heap→Prop) (J:It) (H':Hp),itv=.ref it∧Inv X pins σ H' s2∧Turn X.prog X.w X.K tg J fp it tn∧tn 0 s2.heap∧(∀ b∈fp,FpOk X pins H' b)∧R J H'
def PI (X:Cx) (tg iter:Expr) (wi:TI):Prop :=
  ∀ (pins:List (Addr×Obj)) (s:Shared) (σ:St) (H:Hp) (R:It→Hp→Prop),Inv X pins σ H s→wi σ H R→
    wpAny (model X.prog X.w) X.A (eval iter X.env) (fun v s1=>wpAny (model X.prog X.w) X.A (pyIter v) (PIE X pins σ tg R) X.xe s1) X.xe s
theorem go_of {M:Model} {A:Around} {E:Value→Shared→Prop} {s:Shared} {tg:Expr} {it:Addr} {u:Value} {o:Obj} {n:String} {vs:Array Value} {Q:Unit→Shared→Prop} (ho:s.heap.get? it=some o) (hc:o.cls=.type n) (hd:o.data=.fields vs)
    (hn:["enumerate","zip","dict_itemiterator","dict_reverseitemiterator","odict_iterator","itertools.zip_longest","itertools.pairwise"].contains n=false) (hQ:Q () s):wpAny M A (letOwnedTupleGo tg (.ref it) u) Q E s:=by
  unfold letOwnedTupleGo
  cases tg <;> first
    | exact wpAny_pure hQ
    | (cases u <;> first
        | exact wpAny_pure hQ
        | (refine wpAny_bind (wpAny_load ho ?_)
           rw [hc,hd]
           show wpAny M A (if (["enumerate","zip","dict_itemiterator","dict_reverseitemiterator","odict_iterator","itertools.zip_longest","itertools.pairwise"].contains n && vs[0]? == some (rawInt _))=true then _ else _) Q E s
           rw [if_neg (by intro h; rw [hn,Bool.false_and] at h; cases h)]
           exact wpAny_pure hQ))
def Itl (K:PySem.W.Frag) (a:Addr):It :=
  ⟨fun i H=>∃ xs x,SqL K H a xs∧xs[i]?=some x,fun i H x H'=>H'=H∧∀ xs,SqL K H a xs→xs[i]?=some x,fun i H=>∃ xs,SqL K H a xs∧xs.length≤i⟩
def Itt (K:PySem.W.Frag) (a:Addr):It :=
  ⟨fun i H=>∃ xs x,SqT K H a xs∧xs[i]?=some x,fun i H x H'=>H'=H∧∀ xs,SqT K H a xs→xs[i]?=some x,fun i H=>∃ xs,SqT K H a xs∧xs.length≤i⟩
def Itr (lo:Int) (n:Nat):It:=⟨fun i _=>i<n,fun i H x H'=>H'=H∧x=.int (lo+i),fun i _=>n≤i⟩
theorem turn_list {P:Program} {w:World} {K:PySem.W.Frag} {tg:Expr} (a it:Addr):Turn P w K tg (Itl K a) [it] it (fun i h=>h.IsListIter it a i) where
  mem:=by simp
  obj:=fun i h st b hb=>by
    have e:b=it:=by simpa using hb
    subst e
    obtain ⟨o,e,c,d⟩:=st
    exact ⟨o,e,fun v z=>by rw [d] at z; cases z⟩
  keep:=fun i h h' st k=>st.at fun o e=>k it (by simp) o e
  item:=by
    intro X hP hw hK hc i pins s σ H E I hf st hg
    subst hP hw hK
    obtain ⟨xs,x,hq,hx⟩:=hg
    obtain ⟨its,rv,p,hz⟩:=I.list hq
    obtain ⟨u,hu,ru⟩:=rv.get hx
    obtain ⟨f0,f1,f2,f3,f4,f5⟩:=hf it (by simp)
    refine wpAny_pyNext_list_item st p.isList (x:=u) (by simpa using hu) fun h' st' sb=>?_
    have I1:Inv X pins σ H { s with heap:=h' }:=I.turned (t':=s.toks) (fun b o hb e=>(sb.2 b hb).trans e) f0 f1 f3 f4 f5
    obtain ⟨o,e,c,d⟩:=id st'
    exact ⟨u,rfl,go_of (s:={ s with heap:=h' }) e c d (by decide) ⟨x,H,I1,ru,⟨rfl,fun ys hy=>by rw [I.list_inj hy hq]; exact hx⟩,st',fun b hb=>(hf b hb).1⟩⟩
  done:=by
    intro X hP hw hK hc i pins s σ H E I hf st hg
    subst hP hw hK
    obtain ⟨xs,hq,hx⟩:=hg
    obtain ⟨its,rv,p,hz⟩:=I.list hq
    obtain ⟨f0,f1,f2,f3,f4,f5⟩:=hf it (by simp)
    have hl:=rv.length
    exact wpAny_pyNext_list_end (I.ok.hd hc) st p.isList (by simp; omega) fun h' eb=>⟨rfl,I.turned (t':=s.toks) (fun b o hb e=>eb b o hb e) f0 f1 f3 f4 f5⟩
  self:=fun _ _ _ _ _ st h=>wpAny_pyIter_listiter st h
theorem turn_tuple {P:Program} {w:World} {K:PySem.W.Frag} {tg:Expr} (a it:Addr):Turn P w K tg (Itt K a) [it] it (fun i h=>h.IsTupleIter it a i) where
  mem:=by simp
  obj:=fun i h st b hb=>by
    have e:b=it:=by simpa using hb
    subst e
    obtain ⟨o,e,c,d⟩:=st
    exact ⟨o,e,fun v z=>by rw [d] at z; cases z⟩
  keep:=fun i h h' st k=>st.at fun o e=>k it (by simp) o e
  item:=by
    intro X hP hw hK hc i pins s σ H E I hf st hg
    subst hP hw hK
    obtain ⟨xs,x,hq,hx⟩:=hg
    obtain ⟨its,rv,p,hz⟩:=I.tuple hq
    obtain ⟨u,hu,ru⟩:=rv.get hx
    obtain ⟨f0,f1,f2,f3,f4,f5⟩:=hf it (by simp)
    refine wpAny_pyNext_tuple_item st (show s.heap.IsTuple a its.toArray from p) (x:=u) (by simpa using hu) fun h' st' sb=>?_
    have I1:Inv X pins σ H { s with heap:=h' }:=I.turned (t':=s.toks) (fun b o hb e=>(sb.2 b hb).trans e) f0 f1 f3 f4 f5
    obtain ⟨o,e,c,d⟩:=id st'
    exact ⟨u,rfl,go_of (s:={ s with heap:=h' }) e c d (by decide) ⟨x,H,I1,ru,⟨rfl,fun ys hy=>by rw [I.tuple_inj hy hq]; exact hx⟩,st',fun b hb=>(hf b hb).1⟩⟩
  done:=by
    intro X hP hw hK hc i pins s σ H E I hf st hg
    subst hP hw hK
    obtain ⟨xs,hq,hx⟩:=hg
    obtain ⟨its,rv,p,hz⟩:=I.tuple hq
    obtain ⟨f0,f1,f2,f3,f4,f5⟩:=hf it (by simp)
    have hl:=rv.length
    exact wpAny_pyNext_tuple_end (I.ok.hd hc) st (show s.heap.IsTuple a its.toArray from p) (by simp; omega) fun h' eb=>⟨rfl,I.turned (t':=s.toks) (fun b o hb e=>eb b o hb e) f0 f1 f3 f4 f5⟩
  self:=fun _ _ _ _ _ st h=>wpAny_pyIter_tupleiter st h
theorem turn_range {P:Program} {w:World} {K:PySem.W.Frag} {tg:Expr} (it:Addr) (lo:Int) (n:Nat):Turn P w K tg (Itr lo n) [it] it (fun i h=>IsRangeIter h it (lo+(i:Nat) * 1) ((n:Int) - (i:Nat)) 1) where
  mem:=by simp
  obj:=fun i h st b hb=>by
    have e:b=it:=by simpa using hb
    subst e
    exact ⟨_,st,fun v z=>by
      have z':Data.fields _=Data.cell v:=z
      cases z'⟩
  keep:=fun i h h' st k=>k it (by simp) _ st
  item:=by
    intro X hP hw hK hc i pins s σ H E I hf st hg
    subst hP hw hK
    obtain ⟨f0,f1,f2,f3,f4,f5⟩:=hf it (by simp)
    have W:=Walks.range (prog:=X.prog) (w:=X.w) (I.ok.hd hc) it lo 1 n
    refine W.item i s _ _ hg st fun v h' tk hv st' kk=>?_
    obtain ⟨t,rfl⟩:=hv
    have I1:Inv X pins σ H { s with heap:=h',toks:=tk }:=I.turned (fun b o hb e=>kk b o (by simpa using hb) e) f0 f1 f3 f4 f5
    refine ⟨_,rfl,go_of (s:={ s with heap:=h',toks:=tk }) (n:="range_iterator") st' rfl rfl (by decide) ⟨.int (lo+i),H,I1,⟨t,?_⟩,⟨rfl,rfl⟩,st',fun b hb=>(hf b hb).1⟩⟩
    rw [Int.mul_one]
  done:=by
    intro X hP hw hK hc i pins s σ H E I hf st hg
    subst hP hw hK
    obtain ⟨f0,f1,f2,f3,f4,f5⟩:=hf it (by simp)
    exact wpAny_pyNext_range_end (I.ok.hd hc) st (by have:n≤i:=hg; omega) fun h' eb=>⟨rfl,I.turned (t':=s.toks) (fun b o hb e=>eb b o hb e) f0 f1 f3 f4 f5⟩
  self:=fun _ _ _ _ _ st h=>wpAny_pyIter_rangeiter st h
end L2
namespace L2
open PySem PySem.Spec PyProof.Rows
section
variable {X:Cx} {tg:Expr}
def iList (K:PySem.W.Frag) (tl:TE):TI:=fun σ H R=>tl σ H fun x H1=>∃ a,x=.ref a∧(∃ xs,SqL K H1 a xs)∧R (Itl K a) H1
def iTup (K:PySem.W.Frag) (tl:TE):TI:=fun σ H R=>tl σ H fun x H1=>∃ a,x=.ref a∧(∃ xs,SqT K H1 a xs)∧R (Itt K a) H1
theorem pi_list {l:Expr} {tl:TE} (hl:PE X l tl):PI X tg l (iList X.K tl):=by
  intro pins s σ H R I h
  refine thn (hl pins s σ H _ I h) fun v s1 ⟨x,H1,I1,r1,q1⟩=>?_
  obtain ⟨a,e,⟨xs,hq⟩,q⟩:=q1
  subst e
  cases r1
  obtain ⟨its,rv,p,hz⟩:=I1.list hq
  refine wpAny_pyIter_list p.isList ?_
  refine ⟨s1.heap.objs.size,[s1.heap.objs.size],_,_,H1,rfl,I1.kept (t':=s1.toks) fun b o e=>Heap.get?_push_of_some _ e,turn_list a _,⟨_,Heap.get?_push_size _ rfl,rfl,rfl⟩,fun b hb=>?_,q⟩
  have e:b=s1.heap.objs.size:=by simpa using hb
  subst e
  exact I1.fpOk (Nat.le_refl _) (I1.hok.fresh (Nat.le_refl _))
theorem pi_tup {l:Expr} {tl:TE} (hl:PE X l tl):PI X tg l (iTup X.K tl):=by
  intro pins s σ H R I h
  refine thn (hl pins s σ H _ I h) fun v s1 ⟨x,H1,I1,r1,q1⟩=>?_
  obtain ⟨a,e,⟨xs,hq⟩,q⟩:=q1
  subst e
  cases r1
  obtain ⟨its,rv,p,hz⟩:=I1.tuple hq
  refine wpAny_pyIter_tuple (show s1.heap.IsTuple a its.toArray from p) ?_
  refine ⟨s1.heap.objs.size,[s1.heap.objs.size],_,_,H1,rfl,I1.kept (t':=s1.toks) fun b o e=>Heap.get?_push_of_some _ e,turn_tuple a _,⟨_,Heap.get?_push_size _ rfl,rfl,rfl⟩,fun b hb=>?_,q⟩
  have e:b=s1.heap.objs.size:=by simpa using hb
  subst e
  exact I1.fpOk (Nat.le_refl _) (I1.hok.fresh (Nat.le_refl _))
theorem range_it {pins:List (Addr×Obj)} {σ:St} {H:Hp} {s:Shared} {R:It→Hp→Prop} {E:Value→Shared→Prop} {lo hi:Int} {t u v:Tok} {tk:Nat} (I:Inv X pins σ H s) (h1:-(2 ^ 62)≤lo) (h2:lo<2 ^ 62) (h3:-(2 ^ 62)≤hi) (h4:hi<2 ^ 62)
    (q:R (Itr lo (hi - lo).toNat) H):wpAny (model X.prog X.w) X.A (pyIter (.ref s.heap.objs.size)) (PIE X pins σ tg R) E { s with heap:=s.heap.push { cls:=.type "range",data:=.fields #[.int lo t,.int hi u,.int 1 v] },toks:=tk }:=by
  refine wpAny_pyIter_range (IsRange.new ..) (small_one h1 h2 h3 h4) ?_
  have I1:Inv X pins σ H { s with heap:=s.heap.push { cls:=.type "range",data:=.fields #[.int lo t,.int hi u,.int 1 v] },toks:=tk }:=I.kept fun b o e=>Heap.get?_push_of_some _ e
  refine ⟨(s.heap.push { cls:=.type "range",data:=.fields #[.int lo t,.int hi u,.int 1 v] }).objs.size,[(s.heap.push { cls:=.type "range",data:=.fields #[.int lo t,.int hi u,.int 1 v] }).objs.size],_,_,H,rfl,
    I1.kept (t':=tk) fun b o e=>Heap.get?_push_of_some _ e,turn_range _ lo (hi - lo).toNat,?_,fun b hb=>?_,q⟩
  · have e1:lo+((0:Nat):Int) * 1=lo:=by simp
    have e2:(((hi - lo).toNat:Nat):Int) - ((0:Nat):Int)=Builtin.Range.rangeSize lo hi 1:=by rw [rangeSize_one]; split <;> omega
    show IsRangeIter _ _ (lo+((0:Nat):Int) * 1) ((((hi - lo).toNat:Nat):Int) - ((0:Nat):Int)) 1
    rw [e1,e2]
    exact Heap.get?_push_size _ rfl
  · have e:b=(s.heap.push { cls:=.type "range",data:=.fields #[.int lo t,.int hi u,.int 1 v] }).objs.size:=by simpa using hb
    subst e
    exact I1.fpOk (Nat.le_refl _) (I1.hok.fresh (Nat.le_refl _))
def iRng1 (ta:TA):TI:=fun σ H R=>ta σ H fun vs H1=>∃ j:Int,vs=[.int j]∧-(2 ^ 62)≤j∧j<2 ^ 62∧R (Itr 0 j.toNat) H1
def iRng2 (ta:TA):TI:=fun σ H R=>ta σ H fun vs H1=>∃ i j:Int,vs=[.int i,.int j]∧(-(2 ^ 62)≤i∧i<2 ^ 62∧-(2 ^ 62)≤j∧j<2 ^ 62)∧R (Itr i (j - i).toNat) H1
theorem pi_range1 {a:Expr} {ta:TA} {p pos:Pos} (hg:Gl X "range") (hm:X.mg "range"=none) (ha:PA X [a] ta) (hs:starEach [a] X.env=[(false,eval a X.env)]:=by rfl):PI X tg (.Call (.Name "range" p) [a] [] pos) (iRng1 ta):=by
  intro pins s σ H R I h
  refine Call_ (ld_blt I hg hm boot_range (PyProof.Rows.callWith_type1 (thn (ha pos pins s σ H _ I h) fun us s1 ⟨vs,H1,I1,r1,q1⟩=>?_) hs rfl))
  obtain ⟨j,e,q1,q2,q⟩:=q1
  subst e
  cases r1 with
  | cons r rr =>
    cases rr
    obtain ⟨t,rfl⟩:=r
    exact call_range_1 (range_it I1 (by omega) (by omega) q1 q2 (by simpa using q))
def tFor (wi:TI) (g:TG) (tb:TS):TS:=fun D σ H=>wi σ H fun J H1=>∃ W:Nat→Nat→St→Hp→Prop,(∃ m,W 0 m σ H1)∧∀ i m σ H,W i m σ H→
  (J.stop i H∧D.nx σ H)∨(J.go i H∧∃ N:St→Hp→Prop,(∀ σ' H',N σ' H'→∃ m',m'<m∧W (i+1) m' σ' H')∧∀ x H',J.yld i H x H'→g x σ H' fun σ2 H2=>tb { D with nx:=N,ct:=N,bk:=D.nx } σ2 H2)
def pinsAt (fp:List Addr) (h:Heap):List (Addr×Obj):=fp.filterMap fun b=>(h.get? b).map fun o=>(b,o)
theorem mem_pinsAt {fp:List Addr} {h:Heap} {b:Addr} {o:Obj} (hb:b∈fp) (e:h.get? b=some o):(b,o)∈pinsAt fp h:=List.mem_filterMap.mpr ⟨b,hb,by rw [e]; rfl⟩
theorem of_pinsAt {fp:List Addr} {h:Heap} {p:Addr×Obj} (hp:p∈pinsAt fp h):p.1∈fp∧h.get? p.1=some p.2:=by
  obtain ⟨b,hb,e⟩:=List.mem_filterMap.mp hp
  cases q:h.get? b with
  | none=>rw [q] at e; cases e
  | some o =>
    rw [q] at e
    have e':(b,o)=p:=Option.some.inj e
    subst e'
    exact ⟨hb,q⟩
theorem Inv.pinned {pins:List (Addr×Obj)} {σ:St} {H:Hp} {s:Shared} {fp:List Addr} (I:Inv X pins σ H s) (hf:∀ b∈fp,FpOk X pins H b) (ho:∀ b∈fp,∃ o,s.heap.get? b=some o∧∀ v,o.data≠.cell v):Inv X (pins++pinsAt fp s.heap) σ H s :=
  I.pins_of fun p hp=>(List.mem_append.mp hp).elim (fun z=>I.pin p (List.mem_append_right _ z)) fun z=>by
    obtain ⟨hb,e⟩:=of_pinsAt z
    obtain ⟨f0,f1,f2,_⟩:=hf p.1 hb
    obtain ⟨o,e',d⟩:=ho p.1 hb
    rw [e] at e'; cases e'
    exact ⟨e,f0,f1,f2,d⟩
theorem Inv.unpinned {pins pl:List (Addr×Obj)} {σ:St} {H:Hp} {s:Shared} (I:Inv X (pins++pl) σ H s):Inv X pins σ H s:=I.pins_of fun p hp=>I.pin p (List.mem_append_right _ (List.mem_append_left _ hp))
theorem ps_for {iter:Expr} {body:List Stmt} {wi:TI} {g:TG} {tb:TS} {pos:Pos} (hp:PassesOwn (model X.prog X.w) X.A X.env X.xe) (hc:X.calm=true) (hi:PI X tg iter wi) (hg:PG X tg g) (hb:PSs X body tb)
    (hs:∀ x,foldedSetIterable iter X.env x=pure x:=by intro _; rfl):PS X (.For tg iter body [] pos) (tFor wi g tb):=by
  intro pins s σ H D I h
  refine wpAny_For (thn (hi pins s σ H _ I h) fun v s1 h1=>thn h1 fun itv s2 h2=>?_) hs
  obtain ⟨it,fp,tn,J,H2,e,I2,T,st2,f2,W,⟨m0,w0⟩,turn⟩:=h2
  subst e
  have stat:∀ {H':Hp},(∀ b∈fp,H' b=none)→∀ b∈fp,FpOk X pins H' b:=fun hn b hb=>⟨hn b hb,(f2 b hb).2⟩
  refine codeAny_forLoop_any (fun n s'=>∃ i σ' H',Inv X pins σ' H' s'∧tn i s'.heap∧(∀ b∈fp,H' b=none)∧W i n σ' H') ?_ m0 ⟨0,σ,H2,I2,st2,fun b hb=>(f2 b hb).1,w0⟩
  rintro n s3 ⟨i,σ3,H3,I3,st3,fr3,w3⟩
  rcases turn i n σ3 H3 w3 with ⟨stop,qn⟩ | ⟨go,N,hN,step⟩
  · refine wpAny_passesOwn hp (thn (T.done X rfl rfl rfl hc i pins s3 σ3 H3 X.xe I3 (stat fr3) st3 stop) fun r s4 ⟨hr,I4⟩=>?_)
    subst hr
    exact wpAny_execs_nil ⟨σ3,H3,I4,qn⟩
  · refine wpAny_passesOwn hp (thn (T.item X rfl rfl rfl hc i pins s3 σ3 H3 X.xe I3 (stat fr3) st3 go) fun r s4 ⟨u,hr,h4⟩=>?_)
    subst hr
    refine wpAny_passesOwn hp (thn h4 fun _ s5 ⟨x,H5,I5,r5,y5,st5,fr5⟩=>?_)
    have I5':=I5.pinned (stat fr5) (T.obj _ _ st5)
    refine wpAny_passesOwn hp (thn (hg _ s5 σ3 H5 x u _ I5' r5 (step x H5 y5)) fun _ s6 ⟨σ6,H6,I6,q6⟩=>?_)
    refine wpAny_passesOwn hp (thn (hb _ s6 σ6 H6 _ I6 q6) fun f s7 q7=>?_)
    have again:∀ {σ7:St} {H7:Hp},Inv X (pins++pinsAt fp s5.heap) σ7 H7 s7→N σ7 H7→∃ m,m<n∧∃ i σ' H',Inv X pins σ' H' s7∧tn i s7.heap∧(∀ b∈fp,H' b=none)∧W i m σ' H':=fun {σ7 H7} I7 n7=>by
      obtain ⟨m',hm,w7⟩:=hN σ7 H7 n7
      refine ⟨m',hm,i+1,σ7,H7,I7.unpinned,T.keep _ _ _ st5 fun b hb o e=>(I7.pin (b,o) (List.mem_append_right _ (List.mem_append_right _ (mem_pinsAt hb e)))).1,fun b hb=>?_,w7⟩
      obtain ⟨o,e,d⟩:=T.obj _ _ st5 b hb
      exact (I7.pin (b,o) (List.mem_append_right _ (List.mem_append_right _ (mem_pinsAt hb e)))).2.1
    cases f with
    | next=>obtain ⟨σ7,H7,I7,n7⟩:=q7; exact again I7 n7
    | cont=>obtain ⟨σ7,H7,I7,n7⟩:=q7; exact again I7 n7
    | brk=>obtain ⟨σ7,H7,I7,q7⟩:=q7; exact ⟨σ7,H7,I7.unpinned,q7⟩
    | ret v=>obtain ⟨x7,σ7,H7,I7,r7,q7⟩:=q7; exact ⟨x7,σ7,H7,I7.unpinned,r7,q7⟩
end
theorem for_range {lo:Int} {n:Nat} {g:TG} {tb:TS} {D:Ends} {σ:St} {H:Hp} (Pv:Nat→St→Hp→Prop) (h0:Pv 0 σ H)
    (hs:∀ i σ H,i<n→Pv i σ H→g (.int (lo+i)) σ H fun σ2 H2=>tb { D with nx:=Pv (i+1),ct:=Pv (i+1),bk:=D.nx } σ2 H2) (hd:∀ σ H,Pv n σ H→D.nx σ H) :
    ∃ W:Nat→Nat→St→Hp→Prop,(∃ m,W 0 m σ H)∧∀ i m σ H,W i m σ H→
      ((Itr lo n).stop i H∧D.nx σ H)∨((Itr lo n).go i H∧∃ N:St→Hp→Prop,(∀ σ' H',N σ' H'→∃ m',m'<m∧W (i+1) m' σ' H')∧∀ x H',(Itr lo n).yld i H x H'→g x σ H' fun σ2 H2=>tb { D with nx:=N,ct:=N,bk:=D.nx } σ2 H2):=by
  refine ⟨fun i m σ H=>m=n - i∧i≤n∧Pv i σ H,⟨n,by simp,Nat.zero_le _,h0⟩,?_⟩
  rintro i m σ H ⟨rfl,hi,p⟩
  by_cases hlt:i<n
  · refine .inr ⟨hlt,Pv (i+1),fun σ' H' p'=>⟨n - (i+1),by omega,rfl,hlt,p'⟩,fun x H' y=>?_⟩
    obtain ⟨e,y⟩:=y
    subst e y
    exact hs i σ _ hlt p
  · have e:i=n:=by omega
    subst e
    exact .inl ⟨Nat.le_refl _,hd σ H p⟩
theorem while_by {c:TT} {tb:TS} {D:Ends} {σ:St} {H:Hp} (Pv:St→Hp→Prop) (μ:St→Hp→Nat) (h0:Pv σ H)
    (hs:∀ σ H,Pv σ H→c σ H fun b H1=>if b=true then tb { D with nx:=fun σ' H'=>Pv σ' H'∧μ σ' H'<μ σ H,ct:=fun σ' H'=>Pv σ' H'∧μ σ' H'<μ σ H,bk:=D.nx } σ H1 else D.nx σ H1)
    (mono:∀ σ H Q Q',(∀ b H1,Q b H1→Q' b H1)→c σ H Q→c σ H Q'):tWhile c tb D σ H:=by
  refine ⟨fun m σ H=>m=μ σ H∧Pv σ H,⟨_,rfl,h0⟩,?_⟩
  rintro m σ H ⟨rfl,p⟩
  refine mono σ H _ _ (fun b H1 q=>?_) (hs σ H p)
  cases b with
  | true=>exact ⟨_,fun σ' H' ⟨p',l⟩=>⟨_,l,rfl,p'⟩,q⟩
  | false=>exact q
end L2
namespace L2
open PySem PySem.Spec PyProof.Rows
abbrev R2:=V→V→Hp→VK→Prop
def OpR (X:Cx) (f:Value→Value→Sem Value) (r:R2):Prop :=
  ∀ (pins:List (Addr×Obj)) (s:Shared) (σ:St) (H:Hp) (x y:V) (v u:Value) (Q:VK),Inv X pins σ H s→RelV x v→RelV y u→r x y H Q→
    wpAny (model X.prog X.w) X.A (f v u) (EP X pins σ Q) X.xe s
def UnR (X:Cx) (f:Value→Sem Value) (r:V→Hp→VK→Prop):Prop :=
  ∀ (pins:List (Addr×Obj)) (s:Shared) (σ:St) (H:Hp) (x:V) (v:Value) (Q:VK),Inv X pins σ H s→RelV x v→r x H Q→
    wpAny (model X.prog X.w) X.A (f v) (EP X pins σ Q) X.xe s
def CallR (X:Cx) (f:Value) (r:List V→Hp→VK→Prop):Prop :=
  ∀ (pins:List (Addr×Obj)) (s:Shared) (σ:St) (H:Hp) (xs:List V) (us:List Value) (Q:VK),Inv X pins σ H s→Vals xs us→r xs H Q→
    wpAny (model X.prog X.w) X.A (call f us) (EP X pins σ Q) X.xe s
def TruR (X:Cx) (r:V→Hp→(Bool→Hp→Prop)→Prop):Prop :=
  ∀ (pins:List (Addr×Obj)) (s:Shared) (σ:St) (H:Hp) (x:V) (v:Value) (Q:Bool→Hp→Prop),Inv X pins σ H s→RelV x v→r x H Q→
    wpAny (model X.prog X.w) X.A (truthy v) (TP X pins σ Q) X.xe s
def tOp (r:R2) (ta tb:TE):TE:=fun σ H Q=>ta σ H fun x H1=>tb σ H1 fun y H2=>r x y H2 Q
def tUn (r:V→Hp→VK→Prop) (ta:TE):TE:=fun σ H Q=>ta σ H fun x H1=>r x H1 Q
def rI (C:Int→Int→Prop) (g:Int→Int→V):R2:=fun x y H Q=>∃ i j,x=.int i∧y=.int j∧C i j∧Q (g i j) H
def rI0 (g:Int→Int→V):R2:=fun x y H Q=>∃ i j,x=.int i∧y=.int j∧Q (g i j) H
def rU (g:Int→V):V→Hp→VK→Prop:=fun x H Q=>∃ i,x=.int i∧Q (g i) H
section
variable {X:Cx} {a b c:Expr} {ta tb tc:TE} {pos:Pos}
theorem binT (ha:PE X a ta) (hb:PE X b tb) {pins:List (Addr×Obj)} {s:Shared} {σ:St} {H:Hp} {R:V→V→Hp→Prop} (I:Inv X pins σ H s)
    (h:ta σ H fun x H1=>tb σ H1 fun y H2=>R x y H2) {Q:Value→Shared→Prop} {f:Value→Value→Sem Value}
    (hf:∀ v u s2 x y H2,Inv X pins σ H2 s2→RelV x v→RelV y u→R x y H2→wpAny (model X.prog X.w) X.A (f v u) Q X.xe s2) :
    wpAny (model X.prog X.w) X.A (eval a X.env) (fun v s₁=>wpAny (model X.prog X.w) X.A (eval b X.env) (fun u s₂=>wpAny (model X.prog X.w) X.A (f v u) Q X.xe s₂) X.xe s₁) X.xe s:=by
  refine thn (ha pins s σ H _ I h) fun v s1 ⟨x,H1,I1,r1,q1⟩=>?_
  refine thn (hb pins s1 σ H1 _ I1 q1) fun u s2 ⟨y,H2,I2,r2,q2⟩=>?_
  exact hf v u s2 x y H2 I2 r1 r2 q2
theorem pe_op {op:Operator} {r:R2} (ho:OpR X (binaryOp op) r) (ha:PE X a ta) (hb:PE X b tb):PE X (.BinOp a op b pos) (tOp r ta tb):=by
  intro pins s σ H Q I h
  exact wpAny_BinOp (binT ha hb I h fun v u s2 x y H2 I2 rx ry q=>ho pins s2 σ H2 x y v u Q I2 rx ry q)
theorem pe_un {op:UnaryOp} {r:V→Hp→VK→Prop} (ho:UnR X (unaryOp op) r) (ha:PE X a ta):PE X (.UnaryOp op a pos) (tUn r ta):=by
  intro pins s σ H Q I h
  exact UnaryOp_ (thn (ha pins s σ H _ I h) fun v s1 ⟨x,H1,I1,r1,q1⟩=>ho pins s1 σ H1 x v Q I1 r1 q1)
theorem opI {f:Value→Value→Sem Value} {C:Int→Int→Prop} {g:Int→Int→Int}
    (rule:∀ (i j:Int) (t u:Tok) (s:Shared) (Q:Value→Shared→Prop) (E:Value→Shared→Prop),C i j→Q (.int (g i j) s.toks) { s with toks:=s.toks+1 }→wpAny (model X.prog X.w) X.A (f (.int i t) (.int j u)) Q E s) :
    OpR X f (rI C fun i j=>.int (g i j)):=by
  intro pins s σ H x y v u Q I rx ry h
  obtain ⟨i,j,rfl,rfl,hc,q⟩:=h
  obtain ⟨t,rfl⟩:=rx
  obtain ⟨t',rfl⟩:=ry
  exact rule i j t t' s _ _ hc ⟨.int (g i j),H,I.tok _,⟨_,rfl⟩,q⟩
theorem opI0 {f:Value→Value→Sem Value} {g:Int→Int→Int}
    (rule:∀ (i j:Int) (t u:Tok) (s:Shared) (Q:Value→Shared→Prop) (E:Value→Shared→Prop),Q (.int (g i j) s.toks) { s with toks:=s.toks+1 }→wpAny (model X.prog X.w) X.A (f (.int i t) (.int j u)) Q E s) :
    OpR X f (rI0 fun i j=>.int (g i j)):=by
  intro pins s σ H x y v u Q I rx ry h
  obtain ⟨i,j,rfl,rfl,q⟩:=h
  obtain ⟨t,rfl⟩:=rx
  obtain ⟨t',rfl⟩:=ry
  exact rule i j t t' s _ _ ⟨.int (g i j),H,I.tok _,⟨_,rfl⟩,q⟩
theorem opB0 {f:Value→Value→Sem Value} {g:Int→Int→Bool}
    (rule:∀ (i j:Int) (t u:Tok) (s:Shared) (Q:Value→Shared→Prop) (E:Value→Shared→Prop),Q (.bool (g i j)) s→wpAny (model X.prog X.w) X.A (f (.int i t) (.int j u)) Q E s) :
    OpR X f (rI0 fun i j=>.bl (g i j)):=by
  intro pins s σ H x y v u Q I rx ry h
  obtain ⟨i,j,rfl,rfl,q⟩:=h
  obtain ⟨t,rfl⟩:=rx
  obtain ⟨t',rfl⟩:=ry
  exact rule i j t t' s _ _ ⟨.bl (g i j),H,I,rfl,q⟩
def CDiv (i j:Int):Prop:=0<j∧j<1073741824
def CDivN (i j:Int):Prop:=j≠0∧j.natAbs<1073741824
def CPow (i j:Int):Prop:=0≤j∧j≤1000000∧i.natAbs<2 ^ 64
def CMul (i j:Int):Prop:=(-(2 ^ 64)<i∧i<2 ^ 64)∨(-(2 ^ 64)<j∧j<2 ^ 64)
theorem CMul.ok {i j:Int} (h:CMul i j):IntMulOk i j:=by
  rcases h with ⟨h1,h2⟩ | ⟨h1,h2⟩
  · exact .of_left (intBits_le_64 h1 h2)
  · exact .of_right (intBits_le_64 h1 h2)
theorem op_add:OpR X (binaryOp .Add) (rI0 fun i j=>.int (i+j)):=opI0 fun _ _ _ _ _ _ _ q=>add_int q
theorem op_sub:OpR X (binaryOp .Sub) (rI0 fun i j=>.int (i - j)):=opI0 fun _ _ _ _ _ _ _ q=>sub_int q
theorem op_mul:OpR X (binaryOp .Mult) (rI CMul fun i j=>.int (i * j)):=opI fun _ _ _ _ _ _ _ hc q=>mul_int q hc.ok
theorem op_fdiv:OpR X (binaryOp .FloorDiv) (rI CDiv fun i j=>.int (i / j)):=opI fun i j _ _ _ _ _ hc q=>by
  have h1:(0:Int)<j:=hc.1
  have h2:j<1073741824:=hc.2
  exact floordiv_int (by omega) (by rw [Int.fdiv_eq_ediv_of_nonneg i (by omega)]; exact q) (.inl (PyProof.noPylong_small (by omega)))
theorem op_mod:OpR X (binaryOp .Mod) (rI (fun _ j=>0<j) fun i j=>.int (i % j)):=opI fun i j _ _ _ _ _ hc q=>by
  have h1:(0:Int)<j:=hc
  exact mod_int' (by omega) (by rw [Int.fmod_eq_emod_of_nonneg i (by omega)]; exact q)
theorem unI {f:Value→Sem Value} {g:Int→Int}
    (rule:∀ (i:Int) (t:Tok) (s:Shared) (Q:Value→Shared→Prop) (E:Value→Shared→Prop),Q (.int (g i) s.toks) { s with toks:=s.toks+1 }→wpAny (model X.prog X.w) X.A (f (.int i t)) Q E s) :
    UnR X f (rU fun i=>.int (g i)):=by
  intro pins s σ H x v Q I rx h
  obtain ⟨i,rfl,q⟩:=h
  obtain ⟨t,rfl⟩:=rx
  exact rule i t s _ _ ⟨.int (g i),H,I.tok _,⟨_,rfl⟩,q⟩
theorem un_neg:UnR X (unaryOp .USub) (rU fun i=>.int (-i)):=unI fun _ _ _ _ _ q=>neg_int q
end
def scal:V→V→Bool
  | .non,.non=>true | .non,.int _=>true | .int _,.non=>true | .non,.bl _=>true | .bl _,.non=>true | .non,.str _=>true | .str _,.non=>true
  | .int _,.int _=>true | .bl _,.bl _=>true | .str _,.str _=>true | .byt _,.byt _=>true
  | .int _,.str _=>true | .str _,.int _=>true | .bl _,.str _=>true | .str _,.bl _=>true
  | _,_=>false
def rEq:R2:=fun x y H Q=>scal x y=true∧Q (.bl (decide (x=y))) H
def rNe:R2:=fun x y H Q=>scal x y=true∧Q (.bl (!decide (x=y))) H
theorem dec_int {i j:Int}:decide (V.int i=V.int j)=(i == j):=by
  rw [Bool.eq_iff_iff]
  simp
theorem dec_bl {i j:Bool}:decide (V.bl i=V.bl j)=(i == j):=by
  rw [Bool.eq_iff_iff]
  simp
theorem dec_str {i j:Str}:decide (V.str i=V.str j)=(i == j):=by
  rw [Bool.eq_iff_iff]
  simp
theorem dec_byt {i j:Array UInt8}:decide (V.byt i=V.byt j)=(i.toList == j.toList):=by
  rw [Bool.eq_iff_iff]
  cases i
  cases j
  simp
section
variable {X:Cx} {a b c:Expr} {ta tb tc:TE} {pos:Pos}
theorem fin_bl {pins:List (Addr×Obj)} {σ:St} {H:Hp} {s:Shared} {Q:VK} {k k':Bool} (I:Inv X pins σ H s) (q:Q (.bl k) H) (e:k=k'):EP X pins σ Q (.bool k') s:=by
  subst e
  exact ⟨.bl k,H,I,rfl,q⟩
theorem op_eq:OpR X (compareOp .Eq) rEq:=by
  intro pins s σ H x y v u Q I rx ry h
  obtain ⟨hs,q⟩:=h
  cases x with
  | non =>
    cases rx
    cases y with
    | non=>cases ry; exact PySem.EqNone.eq_none_none (fin_bl I q (by simp))
    | bl j=>cases ry; exact PySem.EqNone.eq_none_bool (fin_bl I q (by simp))
    | int j=>obtain ⟨t',rfl⟩:=ry; exact PySem.EqNone.eq_none_int (fin_bl I q (by simp))
    | str j=>obtain ⟨t',rfl⟩:=ry; exact PySem.EqNone.eq_none_str (fin_bl I q (by simp))
    | _=>exact absurd (show false=true from hs) Bool.false_ne_true
  | bl i =>
    cases rx
    cases y with
    | non=>cases ry; exact PySem.EqNone.eq_bool_none (fin_bl I q (by simp))
    | bl j=>cases ry; exact eq_bool (fin_bl I q dec_bl)
    | str j=>obtain ⟨t',rfl⟩:=ry; exact PySem.EqMixed.eq_bool_str (fin_bl I q (by simp))
    | _=>exact absurd (show false=true from hs) Bool.false_ne_true
  | int i =>
    obtain ⟨t,rfl⟩:=rx
    cases y with
    | non=>cases ry; exact PySem.EqNone.eq_int_none (fin_bl I q (by simp))
    | int j=>obtain ⟨t',rfl⟩:=ry; exact eq_int (fin_bl I q dec_int)
    | str j=>obtain ⟨t',rfl⟩:=ry; exact PySem.EqMixed.eq_int_str (fin_bl I q (by simp))
    | _=>exact absurd (show false=true from hs) Bool.false_ne_true
  | str i =>
    obtain ⟨t,rfl⟩:=rx
    cases y with
    | non=>cases ry; exact PySem.EqNone.eq_str_none (fin_bl I q (by simp))
    | bl j=>cases ry; exact PySem.EqMixed.eq_str_bool (fin_bl I q (by simp))
    | int j=>obtain ⟨t',rfl⟩:=ry; exact PySem.EqMixed.eq_str_int (fin_bl I q (by simp))
    | str j=>obtain ⟨t',rfl⟩:=ry; exact eq_str (fin_bl I q dec_str)
    | _=>exact absurd (show false=true from hs) Bool.false_ne_true
  | byt i =>
    obtain ⟨t,rfl⟩:=rx
    cases y with
    | byt j=>obtain ⟨t',rfl⟩:=ry; exact PySem.W.eq_bytes (fin_bl I q dec_byt)
    | _=>exact absurd (show false=true from hs) Bool.false_ne_true
  | _=>cases y <;> exact absurd (show false=true from hs) Bool.false_ne_true
theorem op_ne:OpR X (compareOp .NotEq) rNe:=by
  intro pins s σ H x y v u Q I rx ry h
  obtain ⟨hs,q⟩:=h
  cases x with
  | non =>
    cases rx
    cases y with
    | non=>cases ry; exact PySem.EqNone.ne_none_none (fin_bl I q (by simp))
    | bl j=>cases ry; exact PySem.EqNone.ne_none_bool (fin_bl I q (by simp))
    | int j=>obtain ⟨t',rfl⟩:=ry; exact PySem.EqNone.ne_none_int (fin_bl I q (by simp))
    | str j=>obtain ⟨t',rfl⟩:=ry; exact PySem.EqNone.ne_none_str (fin_bl I q (by simp))
    | _=>exact absurd (show false=true from hs) Bool.false_ne_true
  | bl i =>
    cases rx
    cases y with
    | non=>cases ry; exact PySem.EqNone.ne_bool_none (fin_bl I q (by simp))
    | bl j=>cases ry; exact ne_bool (fin_bl I q (congrArg not dec_bl))
    | str j=>obtain ⟨t',rfl⟩:=ry; exact PySem.EqMixed.ne_bool_str (fin_bl I q (by simp))
    | _=>exact absurd (show false=true from hs) Bool.false_ne_true
  | int i =>
    obtain ⟨t,rfl⟩:=rx
    cases y with
    | non=>cases ry; exact PySem.EqNone.ne_int_none (fin_bl I q (by simp))
    | int j=>obtain ⟨t',rfl⟩:=ry; exact ne_int (fin_bl I q (congrArg not dec_int))
    | str j=>obtain ⟨t',rfl⟩:=ry; exact PySem.EqMixed.ne_int_str (fin_bl I q (by simp))
    | _=>exact absurd (show false=true from hs) Bool.false_ne_true
  | str i =>
    obtain ⟨t,rfl⟩:=rx
    cases y with
    | non=>cases ry; exact PySem.EqNone.ne_str_none (fin_bl I q (by simp))
    | bl j=>cases ry; exact PySem.EqMixed.ne_str_bool (fin_bl I q (by simp))
    | int j=>obtain ⟨t',rfl⟩:=ry; exact PySem.EqMixed.ne_str_int (fin_bl I q (by simp))
    | str j=>obtain ⟨t',rfl⟩:=ry; exact ne_str (fin_bl I q (congrArg not dec_str))
    | _=>exact absurd (show false=true from hs) Bool.false_ne_true
  | byt i =>
    obtain ⟨t,rfl⟩:=rx
    cases y with
    | byt j=>obtain ⟨t',rfl⟩:=ry; exact PySem.W.ne_bytes (fin_bl I q (congrArg not dec_byt))
    | _=>exact absurd (show false=true from hs) Bool.false_ne_true
  | _=>cases y <;> exact absurd (show false=true from hs) Bool.false_ne_true
theorem op_lt:OpR X (compareOp .Lt) (rI0 fun i j=>.bl (decide (i<j))):=opB0 fun _ _ _ _ _ _ _ q=>lt_int q
theorem op_le:OpR X (compareOp .LtE) (rI0 fun i j=>.bl (decide (i≤j))):=opB0 fun _ _ _ _ _ _ _ q=>le_int q
theorem op_gt:OpR X (compareOp .Gt) (rI0 fun i j=>.bl (decide (j<i))):=opB0 fun _ _ _ _ _ _ _ q=>gt_int q
theorem op_ge:OpR X (compareOp .GtE) (rI0 fun i j=>.bl (decide (j≤i))):=opB0 fun _ _ _ _ _ _ _ q=>ge_int q
theorem op_isN:OpR X (compareOp .Is) (fun x y H Q=>y=.non∧Q (.bl (decide (x=.non))) H):=by
  intro pins s σ H x y v u Q I rx ry h
  obtain ⟨rfl,q⟩:=h
  cases ry
  refine is_none_gen (fin_bl I q ?_)
  cases x <;> first
    | (cases rx; rfl)
    | (obtain ⟨t,rfl⟩:=rx; rfl)
theorem op_notN:OpR X (compareOp .IsNot) (fun x y H Q=>y=.non∧Q (.bl (!decide (x=.non))) H):=by
  intro pins s σ H x y v u Q I rx ry h
  obtain ⟨rfl,q⟩:=h
  cases ry
  refine isnot_none_gen (fin_bl I q ?_)
  cases x <;> first
    | (cases rx; rfl)
    | (obtain ⟨t,rfl⟩:=rx; rfl)
def isObj:HO→Bool
  | .lst _=>true
  | .ins _ _ _=>true
  | _=>false
theorem nomark (b:Expr) {op:CmpOp} (h:op≠.In:=by decide) (h2:op≠.NotIn:=by decide):behindInMarks op b=false:=by
  have e1:(op == CmpOp.In)=false:=by cases op <;> first | rfl | exact absurd rfl h
  have e2:(op == CmpOp.NotIn)=false:=by cases op <;> first | rfl | exact absurd rfl h2
  cases b <;> simp [behindInMarks,e1,e2]
theorem pe_cmpR {op:CmpOp} {r:R2} (ho:OpR X (compareOp op) r) (ha:PE X a ta) (hb:PE X b tb) (hm:behindInMarks op b=false):PE X (.Compare a [op] [b] pos) (tOp r ta tb):=by
  intro pins s σ H Q I h
  exact wpAny_Compare1 (binT ha hb I h fun v u s2 x y H2 I2 rx ry q=>ho pins s2 σ H2 x y v u Q I2 rx ry q) hm
def tTest (t:TE):TT:=fun σ H Q=>t σ H fun x H'=>∃ k,x=.bl k∧Q k H'
theorem pt_cmpR {op:CmpOp} {r:R2} (ho:OpR X (compareOp op) r) (ha:PE X a ta) (hb:PE X b tb) (hm:behindInMarks op b=false):PT X (.Compare a [op] [b] pos) (tTest (tOp r ta tb)):=by
  intro pins s σ H Q I h
  refine wpAny_isTrue_Compare1 (thn (ha pins s σ H _ I h) fun v s1 ⟨x,H1,I1,r1,q1⟩=>thn (hb pins s1 σ H1 _ I1 q1) fun u s2 ⟨y,H2,I2,r2,q2⟩ =>
    thn (ho pins s2 σ H2 x y v u _ I2 r1 r2 q2) fun c s3 ⟨z,H3,I3,r3,k,e,q3⟩=>?_) hm
  subst e
  cases r3
  exact wpAny_truthy_bool ⟨H3,I3,q3⟩
def tChain (r r':R2) (ta tb tc:TE):TE:=fun σ H Q=>ta σ H fun x H1=>tb σ H1 fun y H2=>r x y H2 fun z H3=>∃ k,z=.bl k∧
  (if k=true then tc σ H3 fun w' H4=>r' y w' H4 Q else Q (.bl false) H3)
theorem pt_chain {op op':CmpOp} {r r':R2} (ho:OpR X (compareOp op) r) (ho':OpR X (compareOp op') r') (ha:PE X a ta) (hb:PE X b tb) (hc:PE X c tc)
    (hm:lastMarks [op,op'] [b,c]=false:=by with_unfolding_all rfl):PT X (.Compare a [op,op'] [b,c] pos) (tTest (tChain r r' ta tb tc)):=by
  intro pins s σ H Q I h
  refine isTrue_chain (thn (ha pins s σ H _ I h) fun v s1 ⟨x,H1,I1,r1,q1⟩=>test_link (thn (hb pins s1 σ H1 _ I1 q1) fun u s2 ⟨y,H2,I2,r2,q2⟩ =>
    thn (ho pins s2 σ H2 x y v u _ I2 r1 r2 q2) fun d s3 ⟨z,H3,I3,r3,k,e,q3⟩=>?_)) hm
  subst e
  cases r3
  refine wpAny_truthy_bool ?_
  cases k with
  | false =>
    obtain ⟨k',e',q'⟩:=q3
    cases e'
    exact ite_ff ⟨H3,I3,q'⟩
  | true =>
    refine ite_tt (test_last (thn (hc pins s3 σ H3 _ I3 q3) fun w' s4 ⟨z',H4,I4,r4,q4⟩=>thn (ho' pins s4 σ H4 y z' u w' _ I4 r2 r4 q4) fun d' s5 ⟨z2,H5,I5,r5,k2,e2,q5⟩=>?_))
    subst e2
    cases r5
    exact wpAny_truthy_bool ⟨H5,I5,q5⟩
def TruV (K:PySem.W.Frag) (x:V) (H:Hp) (k:Bool):Prop :=
  match x with
  | .non=>k=false
  | .bl b=>k=b
  | .int i=>k=(i != 0)
  | .str y=>y.length≤sizeLine∧k=((y.length:Int) != 0)
  | .byt y=>y.size≤sizeLine∧k=((y.size:Int) != 0)
  | .ref p=>(∃ xs,SqL K H p xs∧k=!xs.isEmpty)∨(∃ xs,SqT K H p xs∧k=!xs.isEmpty)∨∃ kvs,H p=some (.dK kvs)∧k=!kvs.isEmpty
  | _=>False
theorem line63:(sizeLine:Nat)<2 ^ 63:=by rw [sizeLine_eq]; decide
theorem op_add_str:OpR X (binaryOp .Add) (fun x y H Q=>∃ i j,x=.str i∧y=.str j∧i.length+j.length≤sizeLine∧Q (.str (i++j)) H):=by
  intro pins s σ H x y v u Q I rx ry h
  obtain ⟨i,j,rfl,rfl,hz,q⟩:=h
  obtain ⟨t,rfl⟩:=rx
  obtain ⟨t',rfl⟩:=ry
  exact add_str (fun t' tk=>⟨.str (i++j),H,I.tok _,⟨_,rfl⟩,q⟩) hz
def PlainIxT (b:Expr):Prop:=∀ o i,subscripted b false o i=operate [o,i] (getItem o i)
theorem vals1 {x:V} {us:List Value} (r:Vals [x] us):∃ u,us=[u]∧RelV x u:=by
  cases r with
  | cons r1 r2=>cases r2; exact ⟨_,rfl,r1⟩
theorem vals2 {x y:V} {us:List Value} (r:Vals [x,y] us):∃ u w',us=[u,w']∧RelV x u∧RelV y w':=by
  cases r with
  | cons r1 r2 =>
    cases r2 with
    | cons r3 r4=>cases r4; exact ⟨_,_,rfl,r1,r3⟩
theorem call_max2 (hc:X.calm=true):CallR X (.builtin "max") (fun xs H Q=>∃ i j,xs=[.int i,.int j]∧Q (.int (if j > i then j else i)) H):=by
  intro pins s σ H xs us Q I r h
  obtain ⟨i,j,rfl,q⟩:=h
  obtain ⟨u,w',rfl,⟨t,rfl⟩,⟨t',rfl⟩⟩:=vals2 r
  refine max_two_ints (I.ok.hd hc) fun h' tk k=>⟨_,H,I.kept k,?_,q⟩
  by_cases hj:j > i
  · rw [if_pos hj,if_pos hj]; exact ⟨_,rfl⟩
  · rw [if_neg hj,if_neg hj]; exact ⟨_,rfl⟩
theorem call_int1:CallR X (.type "int") (fun xs H Q=>(∃ i,xs=[.int i]∧Q (.int i) H)∨∃ k,xs=[.bl k]∧Q (.int (if k then 1 else 0)) H):=by
  intro pins s σ H xs us Q I r h
  rcases h with ⟨i,rfl,q⟩ | ⟨k,rfl,q⟩
  · obtain ⟨u,rfl,t,rfl⟩:=vals1 r
    exact call_int_int ⟨.int i,H,I,⟨_,rfl⟩,q⟩
  · obtain ⟨u,rfl,r1⟩:=vals1 r
    cases r1
    exact call_int_bool ⟨.int (if k then 1 else 0),H,I.tok _,⟨_,rfl⟩,q⟩
def LenV (K:PySem.W.Frag) (x:V) (H:Hp) (n:Nat):Prop :=
  match x with
  | .str y=>y.length≤sizeLine∧n=y.length
  | .byt y=>y.size≤sizeLine∧n=y.size
  | .ref p=>(∃ xs,SqL K H p xs∧n=xs.length)∨∃ xs,SqT K H p xs∧n=xs.length
  | _=>False
theorem call_divmod:CallR X (.builtin "divmod") (fun xs H Q=>∃ i j,xs=[.int i,.int j]∧CDiv i j∧∀ p,H p=none→Q (.ref p) (upd H p (.tup [.int (i / j),.int (i % j)]))):=by
  intro pins s σ H xs us Q I r h
  obtain ⟨i,j,rfl,⟨h1,h2⟩,q⟩:=h
  obtain ⟨u,w',rfl,⟨t,rfl⟩,⟨t',rfl⟩⟩:=vals2 r
  refine divmod_int (by omega) ?_ (.inl (PyProof.noPylong_small (by omega)))
  rw [Int.fdiv_eq_ediv_of_nonneg i (by omega),Int.fmod_eq_emod_of_nonneg i (by omega)]
  have hn:H s.heap.objs.size=none:=I.hok.fresh (Nat.le_refl _)
  refine ⟨.ref s.heap.objs.size,_,?_,rfl,q _ hn⟩
  refine I.laid (fun b o e=>Heap.get?_push_of_some _ e) (Nat.le_refl _) ⟨by simp only [List.length_cons,List.length_nil]; rw [sizeLine_eq]; decide,[.int (i / j) s.toks,.int (i % j) (s.toks+1)],.cons ⟨_,rfl⟩ (.cons ⟨_,rfl⟩ .nil),?_⟩
  exact ⟨_,Heap.get?_push_size s.heap rfl,rfl,0,rfl⟩
end
end L2
namespace L2
open PySem PySem.Spec PyProof.Rows
structure ObjM (h:Heap) (x dx C:Addr) (mA:Str→Option Value):Prop where
  obj:h.get? x=some (PySem.W.instObj C dx)
  ns:h.Ns1 dx mA
  ne:dx≠x
theorem lookIn_ns {h:Heap} {dx:Addr} {mA:Str→Option Value} (n:h.Ns1 dx mA):∃ od,h.get? dx=some od∧∀ name,PySem.W.lookIn name od=some (mA name):=by
  obtain ⟨o,es,ep,ho,hd,hk,_,hm⟩:=n
  refine ⟨o,ho,fun name=>?_⟩
  have e:=hm name
  unfold nsFind findBy at e
  rw [← Array.find?_toList] at e
  unfold PySem.W.lookIn
  rw [hd]
  dsimp only
  split
  · rename_i y q
    rw [q] at e
    exact congrArg some e
  · rename_i q
    rw [q] at e
    have a:es.toList.any (·.refKey)=false:=by
      rw [List.any_eq_false]
      intro y hy
      obtain ⟨z,t,hkey⟩:=hk y (Array.mem_toList_iff.mp hy)
      simp [DictEntry.refKey,hkey]
    have a':¬ es.toList.any (·.refKey)=true:=by rw [a]; exact Bool.false_ne_true
    rw [if_neg a']
    exact congrArg some e
theorem ObjM.look {h:Heap} {x dx C:Addr} {mA:Str→Option Value} (I:ObjM h x dx C mA):∃ od,PySem.W.InstAt h x (PySem.W.instObj C dx) C (some od)∧∀ name,PySem.W.lookIn name od=some (mA name) :=
  let ⟨od,ho,hl⟩:=lookIn_ns I.ns
  ⟨od,⟨I.obj,rfl,rfl,ho⟩,hl⟩
section
variable {prog:Program} {w:World} {A:Around} {E:Value→Shared→Prop} {s:Shared} {K:PySem.W.Frag} {x dx C f:Addr} {mA:Str→Option Value} {name:Str} {v:Value}
theorem get_map {expr:Bool} {Q:Value→Shared→Prop} (X:K.In s.heap) (I:ObjM s.heap x dx C mA) (hg:PySem.W.plainGet K C name=true) (hh:PySem.W.hasDictIn K C=true)
    (ha:PySem.W.findIn K (.ref C) name=some none) (hv:mA name=some v) (hv':PySem.W.handedIn v=true) (h:Q v { s with toks:=s.toks+1 }) :
    wpAny (model prog w) A (getAttr (.ref x) name expr) Q E s:=by
  obtain ⟨od,J,hl⟩:=I.look
  exact PySem.W.get_value X J (PySem.W.plainGet_of hg).1 (PySem.W.findObj_own hh ha rfl (by rw [hl,hv])) hv' h
theorem get_meth {pl:Sem Bool} {Q:Value×List Value→Shared→Prop} (X:K.In s.heap) (I:ObjM s.heap x dx C mA) (hg:PySem.W.plainGet K C name=true)
    (hf:PySem.W.findIn K (.ref C) name=some (some (.ref f))) (ht:PySem.W.isFn K (.ref f)=true) (hv:mA name=none) (h:Q (.ref f,[.ref x]) s) :
    wpAny (model prog w) A (getMethod (.ref x) name pl) Q E s:=by
  obtain ⟨od,J,hl⟩:=I.look
  exact PySem.W.method_fn X J (PySem.W.plainGet_of hg).1 (PySem.W.plainGet_of hg).2 hf (beq_iff_eq.mp ht) (by show (PySem.W.lookIn name od).map (·.isSome)=some false; rw [hl,hv]; rfl) h
theorem set_map {ns:List Str} {Q:Unit→Shared→Prop} (X:K.In s.heap) (I:ObjM s.heap x dx C mA)
    (hs:PySem.W.findIn K (.ref C) "__setattr__"=some (some (.builtin "object.__setattr__"))) (hp:PySem.W.plainOver K C=true) (ht:PySem.W.takerIn K C name=some none) (hh:PySem.W.hasDictIn K C=true)
    (hw:PySem.Within mA ns) (hsz:ns.length≤sizeLine)
    (h:∀ h',ObjM h' x dx C (fun y=>if y=name then some v else mA y)→Heap.SameBut dx s.heap h'→Q () { s with heap:=h',toks:=s.toks+2 }) :
    wpAny (model prog w) A (setAttr (.ref x) name v) Q E s:=by
  obtain ⟨od,J,hl⟩:=I.look
  refine PySem.W.set_plain X J hs (PySem.W.osa_open (s:={ s with toks:=s.toks+1 }) (r:=none) X J hp ht fun b=>?_)
  obtain ⟨cd,hc,hd'⟩:=PySem.W.any_some hh
  have hx:s.heap.get? x=some ⟨.ref C,some dx,.plain,#[]⟩:=I.obj
  refine wpAny_bind (wpAny_pure (wpAny_bind (wpAny_bind (wpAny_loadPart hx (wpAny_bind (PySem.W.Looks.here (s:={ s with toks:=s.toks+1 }) (PySem.W.looks_clsIn X hc) ?_))))))
  rw [hd']
  refine wpAny_pure (a:=some dx) (wpAny_bind (wpAny_pure (wpAny_bind ?_)))
  refine wpAny_nsSet1 (s:={ s with toks:=s.toks+1 }) I.ns fun h' hn2 hs2=>?_
  obtain ⟨oD,esD,epD,hoD,hdD,hcD⟩:=hn2.count (PySem.Within.cons name v hw)
  refine wpAny_bind (wpAny_lookBehind hoD (by rw [hdD]; exact pastItsLine_dict (Nat.le_trans hcD (by rw [List.length_cons]; omega))) ?_)
  exact wpAny_pure (h _ ⟨(hs2.2 _ (Ne.symm I.ne)).trans I.obj,hn2,I.ne⟩ hs2)
theorem make_map {R:Result→Shared→Prop} {vs:List Value} {kw:List (Str×Value)} (X:K.In s.heap) (hm:PySem.W.makesIn K C=true)
    (hi:PySem.W.findIn K (.ref C) "__init__"=some (some (.ref f))) (hf:PySem.W.typeIn K (.ref f)=some (.type "function"))
    (h:codeAny (model prog w) (A.under (.builtin "type.__call__" ⟨.ref C::vs,kw⟩)) (.call (.ref f) ⟨.ref (s.heap.objs.size+1)::vs,kw⟩) (PySem.W.InitBack (s.heap.objs.size+1) R)
      { s with heap:=(s.heap.push PySem.W.emptyDict).push (PySem.W.instObj C s.heap.objs.size) }) :
    codeAny (model prog w) A (.call (.ref C) ⟨vs,kw⟩) R s:=by
  obtain ⟨hh,g,d,t,os⟩:=s
  exact PySem.W.make_core (PySem.W.makes_of X hm) (PySem.W.looks_findIn X hi) (fun self=>PySem.W.bind_fn X self hf) (.inl rfl) h
end
def putF (f:Str) (v:V):List (Str×V)→List (Str×V)
  | []=>[(f,v)]
  | (g,x)::r=>if g=f then (g,v)::r else (g,x)::putF f v r
theorem lookup_putF (f g:Str) (v:V):∀ fs:List (Str×V),(putF f v fs).lookup g=if g=f then some v else fs.lookup g
  | []=>by
    show List.lookup g [(f,v)]=_
    by_cases h:g=f
    · have hb:(g == f)=true:=beq_iff_eq.mpr h
      simp only [List.lookup,hb,if_pos h]
    · have hb:(g == f)=false:=beq_eq_false_iff_ne.mpr h
      simp only [List.lookup,hb,if_neg h]
  | (k,x)::r=>by
    have ih:=lookup_putF f g v r
    rw [show putF f v ((k,x)::r)=(if k=f then (k,v)::r else (k,x)::putF f v r) from rfl]
    by_cases hk:k=f
    · rw [if_pos hk]
      by_cases h:g=k
      · have hb:(g == k)=true:=beq_iff_eq.mpr h
        simp only [List.lookup,hb,if_pos (h.trans hk)]
      · have hb:(g == k)=false:=beq_eq_false_iff_ne.mpr h
        simp only [List.lookup,hb,if_neg (fun e:g=f=>h (e.trans hk.symm))]
    · rw [if_neg hk]
      by_cases h:g=k
      · have hb:(g == k)=true:=beq_iff_eq.mpr h
        simp only [List.lookup,hb,if_neg (fun e:g=f=>hk (h.symm.trans e))]
      · have hb:(g == k)=false:=beq_eq_false_iff_ne.mpr h
        simp only [List.lookup,hb]
        exact ih
theorem keys_putF (f:Str) (v:V):∀ fs:List (Str×V),f∈(putF f v fs).map (·.1)∧∀ g,g∈fs.map (·.1)→g∈(putF f v fs).map (·.1)
  | []=>⟨by simp [putF],fun g h=>by simp at h⟩
  | (k,x)::r=>by
    obtain ⟨i1,i2⟩:=keys_putF f v r
    rw [show putF f v ((k,x)::r)=(if k=f then (k,v)::r else (k,x)::putF f v r) from rfl]
    by_cases hk:k=f
    · rw [if_pos hk]
      subst hk
      exact ⟨by simp,fun g h=>by simpa using h⟩
    · rw [if_neg hk]
      refine ⟨?_,fun g h=>?_⟩
      · rw [List.map_cons]
        exact List.mem_cons_of_mem _ i1
      · rw [List.map_cons] at h ⊢
        rcases List.mem_cons.mp h with e | e
        · exact List.mem_cons.mpr (.inl e)
        · exact List.mem_cons_of_mem _ (i2 g e)
theorem length_putF (f:Str) (v:V):∀ fs:List (Str×V),(putF f v fs).length≤fs.length+1
  | []=>by simp [putF]
  | (k,x)::r=>by
    have ih:=length_putF f v r
    rw [show putF f v ((k,x)::r)=(if k=f then (k,v)::r else (k,x)::putF f v r) from rfl]
    by_cases hk:k=f
    · rw [if_pos hk,List.length_cons,List.length_cons]; omega
    · rw [if_neg hk,List.length_cons,List.length_cons]; omega
theorem RelO.some_of {v:V} {o:Option Value} (r:RelO (some v) o):∃ u,o=some u∧RelV v u:=by
  cases o with
  | none=>exact (show False from r).elim
  | some u=>exact ⟨u,rfl,r⟩
theorem RelO.none_of {o:Option Value} (r:RelO none o):o=none:=by
  cases o with
  | none=>rfl
  | some u=>exact (show False from r).elim
theorem handed_of {v:V} {u:Value} (r:RelV v u):PySem.W.handedIn u=true:=by
  cases v with
  | non=>cases (show u=Value.none from r); rfl
  | bl b=>cases (show u=Value.bool b from r); rfl
  | int i=>obtain ⟨t,e⟩:=(show ∃ t,u=Value.int i t from r); cases e; rfl
  | str x=>obtain ⟨t,e⟩:=(show ∃ t,u=Value.str x t from r); cases e; rfl
  | byt b=>obtain ⟨t,e⟩:=(show ∃ t,u=Value.bytes b t from r); cases e; rfl
  | flt b=>obtain ⟨t,e⟩:=(show ∃ t,u=Value.float b t from r); cases e; rfl
  | ref a=>cases (show u=Value.ref a from r); rfl
  | ty n=>cases (show u=Value.type n from r); rfl
section
variable {P:Program} {w:World} {H H':Hp} {h h':Heap} {a C dx:Addr} {fs fs':List (Str×V)}
theorem ins_get (hok:HOk P w H h) (e:H a=some (.ins C dx fs)):∃ mA,ObjM h a dx C mA∧(∀ f,RelO (fs.lookup f) (mA f))∧PySem.Within mA (fs.map (·.1))∧fs.length≤1000∧H dx=some (.own a):=by
  obtain ⟨d,z,ne,ob,mA,n,r,q⟩:=(show ObjOk P w H h a (.ins C dx fs) from hok a _ e)
  exact ⟨mA,⟨ob,n,ne⟩,r,q,z,d⟩
end
structure Cls (K:PySem.W.Frag) (C:Addr):Prop where
  pg:PySem.W.plainGet K C Str.empty=true
  hd:PySem.W.hasDictIn K C=true
  po:PySem.W.plainOver K C=true
  sa:PySem.W.findIn K (.ref C) "__setattr__"=some (some (.builtin "object.__setattr__"))
theorem Cls.get {K:PySem.W.Frag} {C:Addr} (c:Cls K C) (f:Str):PySem.W.plainGet K C f=true:=c.pg
def NoAttr (K:PySem.W.Frag) (C:Addr) (f:Str):Prop:=PySem.W.findIn K (.ref C) f=some none
theorem NoAttr.taker {K:PySem.W.Frag} {C:Addr} {f:Str} (n:NoAttr K C f):PySem.W.takerIn K C f=some none:=by
  unfold PySem.W.takerIn
  rw [show PySem.W.findIn K (.ref C) f=some none from n]
  rfl
structure Con (K:PySem.W.Frag) (C:Addr) (f:Str) (v:V) (u:Value):Prop where
  at_:PySem.W.findIn K (.ref C) f=some (some u)
  rel:RelV v u
  get:PySem.W.specialIn K u "__get__"=some none
  cp:PySem.W.copiedNames.contains f=false
structure Meth (K:PySem.W.Frag) (C:Addr) (m:Str) (f:Addr):Prop where
  at_:PySem.W.findIn K (.ref C) m=some (some (.ref f))
  fn:PySem.W.isFn K (.ref f)=true
  kp:PySem.W.keepIn K (.ref f)=true
section
variable {X:Cx} {pins:List (Addr×Obj)} {σ:St} {H:Hp} {s:Shared} {a C dx:Addr} {fs:List (Str×V)} {f:Str} {v:V} {A:Around} {E:Value→Shared→Prop}
theorem getattr_ok {b:Bool} {Q:Value→Shared→Prop} (I:Inv X pins σ H s) (e:H a=some (.ins C dx fs)) (c:Cls X.K C) (n:NoAttr X.K C f) (l:fs.lookup f=some v)
    (h:∀ u s',Inv X pins σ H s'→RelV v u→Q u s'):wpAny (model X.prog X.w) A (getAttr (.ref a) f b) Q E s:=by
  obtain ⟨mA,O,r,_,_,_⟩:=ins_get I.hok e
  obtain ⟨u,hu,ru⟩:=RelO.some_of (v:=v) (o:=mA f) (by rw [← l]; exact r f)
  exact get_map I.kIn O (c.get f) c.hd n hu (handed_of ru) (h u _ (I.tok _) ru)
theorem getmeth_ok {m:Str} {g:Addr} {pl:Sem Bool} {Q:Value×List Value→Shared→Prop} (I:Inv X pins σ H s) (e:H a=some (.ins C dx fs)) (c:Cls X.K C) (k:Meth X.K C m g) (l:fs.lookup m=none)
    (h:Q (.ref g,[.ref a]) s):wpAny (model X.prog X.w) A (getMethod (.ref a) m pl) Q E s:=by
  obtain ⟨mA,O,r,_,_,_⟩:=ins_get I.hok e
  have hn:mA m=none:=RelO.none_of (by rw [← l]; exact r m)
  exact get_meth I.kIn O (c.get m) k.at_ k.fn hn h
theorem setattr_ok {y:V} {u:Value} {Q:Unit→Shared→Prop} (I:Inv X pins σ H s) (e:H a=some (.ins C dx fs)) (c:Cls X.K C) (n:NoAttr X.K C f) (hl:fs.length<1000) (ry:RelV y u)
    (h:∀ s',Inv X pins σ (upd H a (.ins C dx (putF f y fs))) s'→Q () s'):wpAny (model X.prog X.w) A (setAttr (.ref a) f u) Q E s:=by
  obtain ⟨mA,O,r,wi,_,ho⟩:=ins_get I.hok e
  have hz:(fs.map (·.1)).length≤sizeLine:=by rw [List.length_map,sizeLine_eq]; omega
  refine set_map I.kIn O c.sa c.po n.taker c.hd wi hz fun h' O' sb=>h _ ?_
  have hd:∃ o,h'.get? dx=some o:=let ⟨o,_,_,e',_⟩:=O'.ns; ⟨o,e'⟩
  refine I.write (x:=a) (e:=dx) (by rw [e]; exact True.intro) (.inr ho) (fun b q hb z=>(sb.2 b hb).trans z) hd ?_
  refine ⟨by rw [upd_ne O.ne]; exact ho,?_,O.ne,O'.obj,_,O'.ns,fun g=>?_,fun g hg=>?_⟩
  · have:=length_putF f y fs; omega
  · show RelO ((putF f y fs).lookup g) (if g=f then some u else mA g)
    rw [lookup_putF]
    by_cases q:g=f
    · rw [if_pos q,if_pos q]; exact ry
    · rw [if_neg q,if_neg q]; exact r g
  · by_cases q:g=f
    · rw [q]; exact (keys_putF f y fs).1
    · refine (keys_putF f y fs).2 g (wi g fun z=>hg ?_)
      show (if g=f then some u else mA g)=none
      rw [if_neg q]; exact z
theorem Inv.made (I:Inv X pins σ H s):Inv X pins σ (upd (upd H s.heap.objs.size (.own (s.heap.objs.size+1))) (s.heap.objs.size+1) (.ins C s.heap.objs.size []))
    { s with heap:=(s.heap.push PySem.W.emptyDict).push (PySem.W.instObj C s.heap.objs.size) }:=by
  have e1:(s.heap.push PySem.W.emptyDict).get? s.heap.objs.size=some PySem.W.emptyDict:=Heap.get?_push_size s.heap rfl
  have e2:((s.heap.push PySem.W.emptyDict).push (PySem.W.instObj C s.heap.objs.size)).get? (s.heap.objs.size+1)=some (PySem.W.instObj C s.heap.objs.size):=by
    have:=Heap.get?_push_size (s.heap.push PySem.W.emptyDict) (o:=PySem.W.instObj C s.heap.objs.size) rfl
    rwa [Heap.size_push] at this
  have e3:(s.heap.push PySem.W.emptyDict).Ns s.heap.objs.size (fun _=>none):=⟨PySem.W.emptyDict,#[],_,e1,rfl,(fun e he=>absurd he (by simp)),fun _=>rfl⟩
  have I1:=I.laid (a:=s.heap.objs.size) (o:=.own (s.heap.objs.size+1)) (h':=s.heap.push PySem.W.emptyDict) (t':=s.toks) (fun b u q=>Heap.get?_push_of_some _ q) (Nat.le_refl _) ⟨_,e1⟩
  refine I1.laid (a:=s.heap.objs.size+1) (o:=.ins C s.heap.objs.size []) (t':=s.toks) (fun b u q=>Heap.get?_push_of_some _ q) (Nat.le_of_eq (Heap.size_push _ _)) ?_
  have ne:s.heap.objs.size≠s.heap.objs.size+1:=Nat.ne_of_lt (Nat.lt_succ_self _)
  refine ⟨by rw [upd_ne ne,upd_same],Nat.zero_le _,ne,e2,fun _=>none,(Heap.Ns1.of_empty e3).at fun o q=>Heap.get?_push_of_some _ q,fun _=>True.intro,fun y hy=>absurd rfl hy⟩
theorem attr_of {prog:Program} {w:World} {env:Env} {e:Expr} {f:Str} {pos:Pos} {s:Shared} {Q:Value→Shared→Prop} (hb:attributeBase e f env (eval e env)=eval e env)
    (h:wpAny (model prog w) A (eval e env) (fun o s₁=>wpAny (model prog w) A (getAttr o f true) Q E s₁) E s):wpAny (model prog w) A (eval (.Attribute e f pos) env) Q E s :=
  Attribute_any_ h (by rw [arm_eval_Attribute,hb])
end
def tFld (K:PySem.W.Frag) (ta:TE) (f:Str):TE:=fun σ H Q=>ta σ H fun x H1=>∃ a C dx fs v,x=.ref a∧H1 a=some (.ins C dx fs)∧Cls K C∧NoAttr K C f∧fs.lookup f=some v∧Q v H1
def tCon (K:PySem.W.Frag) (ta:TE) (f:Str):TE:=fun σ H Q=>ta σ H fun x H1=>∃ a C dx fs v u,x=.ref a∧H1 a=some (.ins C dx fs)∧Cls K C∧Con K C f v u∧fs.lookup f=none∧Q v H1
def sFld (K:PySem.W.Frag) (ta tv:TE) (f:Str):TS:=fun D σ H=>tv σ H fun y H1=>ta σ H1 fun x H2=>∃ a C dx fs,x=.ref a∧H2 a=some (.ins C dx fs)∧Cls K C∧NoAttr K C f∧fs.length<1000∧
  D.nx σ (upd H2 a (.ins C dx (putF f y fs)))
def InOp (X:Cx) (op:Operator) (rd:V→V→Hp→VK→Prop):Prop :=
  ∀ (pins:List (Addr×Obj)) (s:Shared) (σ:St) (H:Hp) (x y:V) (u v:Value) (Q:VK),Inv X pins σ H s→RelV x u→RelV y v→rd x y H Q→wpAny (model X.prog X.w) X.A (inplaceOp op u v) (EP X pins σ Q) X.xe s
def sFldAug (K:PySem.W.Frag) (ta tv:TE) (rd:V→V→Hp→VK→Prop) (f:Str):TS:=fun D σ H=>ta σ H fun x H1=>∃ a C dx fs v,x=.ref a∧H1 a=some (.ins C dx fs)∧Cls K C∧NoAttr K C f∧fs.lookup f=some v∧
  tv σ H1 fun y H2=>rd v y H2 fun z H3=>∃ dx' fs',H3 a=some (.ins C dx' fs')∧fs'.length<1000∧D.nx σ (upd H3 a (.ins C dx' (putF f z fs')))
section
variable {X:Cx} {o e value:Expr} {f:Str} {pos pos' tpos:Pos} {ta tv:TE}
theorem pe_fld (he:PE X e ta) (hb:attributeBase e f X.env (eval e X.env)=eval e X.env):PE X (.Attribute e f pos) (tFld X.K ta f):=by
  intro pins s σ H Q I h
  refine attr_of hb (thn (he pins s σ H _ I h) fun u s1 ⟨x,H1,I1,rx,a,C,dx,fs,v,ex,ea,c,n,l,q⟩=>?_)
  subst ex
  obtain rfl:u=Value.ref a:=rx
  exact getattr_ok I1 ea c n l fun u' s2 I2 ru=>⟨v,H1,I2,ru,q⟩
theorem ps_fld (ha:PE X o ta) (hv:PE X value tv) (hs:swapsWith value (some (.Attribute o f pos')) pos.line X.env=pure false):PS X (.Assign [.Attribute o f pos'] value pos) (sFld X.K ta tv f):=by
  intro pins s σ H D I h
  refine plainObj_wpAny_Assign_Attribute (thn (hv pins s σ H _ I h) fun u s1 ⟨y,H1,I1,ry,q⟩=>thn (ha pins s1 σ H1 _ I1 q) fun ov s2 ⟨x,H2,I2,rx,a,C,dx,fs,ex,ea,c,n,l,q2⟩=>?_) hs
  subst ex
  obtain rfl:ov=Value.ref a:=rx
  exact setattr_ok I2 ea c n l ry fun s3 I3=>⟨σ,_,I3,q2⟩
def rAdd:V→V→Hp→VK→Prop:=fun x y H Q=>∃ i j,x=.int i∧y=.int j∧Q (.int (i+j)) H
def rSub:V→V→Hp→VK→Prop:=fun x y H Q=>∃ i j,x=.int i∧y=.int j∧Q (.int (i - j)) H
end
section
variable {X:Cx} {pins:List (Addr×Obj)} {σ:St} {H:Hp} {s:Shared} {A:Around} {E:Value→Shared→Prop} {Q:Value→Shared→Prop} {c:Value} {b:Bool}
inductive TyOf (K:PySem.W.Frag) (H:Hp):V→Value→Prop where
  | non:TyOf K H .non (.type "NoneType")
  | bl (x:Bool):TyOf K H (.bl x) (.type "bool")
  | int (i:Int):TyOf K H (.int i) (.type "int")
  | str (x:Str):TyOf K H (.str x) (.type "str")
  | flt (x:UInt64):TyOf K H (.flt x) (.type "float")
  | lst {a:Addr} {xs:List V} (e:H a=some (.lst xs)):TyOf K H (.ref a) (.type "list")
  | frz {a:Addr} {o:Obj} {xs:List V} (e:H a=some (.frz o (.lst xs))):TyOf K H (.ref a) (.type "list")
  | tup {a:Addr} {xs:List V} (e:H a=some (.tup xs)):TyOf K H (.ref a) (.type "tuple")
  | dK {a:Addr} {kvs:List (Key×V)} (e:H a=some (.dK kvs)):TyOf K H (.ref a) (.type "dict")
  | dT {a:Addr} {kvs:List (List Key×V)} (e:H a=some (.dT kvs)):TyOf K H (.ref a) (.type "dict")
  | ins {a C dx:Addr} {fs:List (Str×V)} (e:H a=some (.ins C dx fs)) (cl:Cls K C) (ha:PySem.W.findIn K (.ref C) "__class__"=some (some (.builtin "object.__class__")))
      (hn:PySem.W.specialIn K (.builtin "object.__class__") "__get__"=some (some (.builtin "getset_descriptor.__get__"))) (htk:PySem.W.takesIn K (.builtin "object.__class__")=some true)
      (hm:PySem.W.mroIn K C (.type "object")=some true):TyOf K H (.ref a) (.ref C)
theorem isinst_ok {x:V} {u t:Value} (I:Inv X pins σ H s) (rx:RelV x u) (ty:TyOf X.K H x t) (e:PySem.W.kitOne X.K t c=some b) (h:∀ tk,Q (.bool b) { s with toks:=tk }) :
    wpAny (model X.prog X.w) A (call (.builtin "isinstance") [u,c]) Q E s:=by
  cases ty with
  | non=>cases (show u=Value.none from rx); exact PySem.W.kia_one PySem.W.kitx_none I.kIn True.intro e (fun z=>nomatch z) h
  | bl y=>cases (show u=Value.bool y from rx); exact PySem.W.kia_one PySem.W.kitx_bool I.kIn True.intro e (fun z=>nomatch z) h
  | int i=>obtain ⟨t,q⟩:=(show ∃ t,u=Value.int i t from rx); cases q; exact PySem.W.kia_one PySem.W.kitx_int I.kIn True.intro e (fun z=>nomatch z) h
  | str y=>obtain ⟨t,q⟩:=(show ∃ t,u=Value.str y t from rx); cases q; exact PySem.W.kia_one PySem.W.kitx_str I.kIn True.intro e (fun z=>nomatch z) h
  | flt y=>obtain ⟨t,q⟩:=(show ∃ t,u=Value.float y t from rx); cases q; exact PySem.W.kia_one PySem.W.kitx_float I.kIn True.intro e (fun z=>nomatch z) h
  | @lst a xs ea =>
    cases (show u=Value.ref a from rx)
    obtain ⟨_,_,n,_,h1⟩:=(show ObjOk X.prog X.w H s.heap a (.lst xs) from I.hok a _ ea)
    exact PySem.W.kia_one PySem.W.kitx_list I.kIn ⟨_,h1,rfl⟩ e (fun z=>nomatch z) h
  | @frz a ob xs ea =>
    cases (show u=Value.ref a from rx)
    obtain ⟨_,_,_,n,_,h1⟩:=(show ObjOk X.prog X.w H s.heap a (.frz ob (.lst xs)) from I.hok a _ ea)
    exact PySem.W.kia_one PySem.W.kitx_list I.kIn ⟨_,h1,rfl⟩ e (fun z=>nomatch z) h
  | @tup a xs ea =>
    cases (show u=Value.ref a from rx)
    obtain ⟨_,_,_,p⟩:=(show ObjOk X.prog X.w H s.heap a (.tup xs) from I.hok a _ ea)
    obtain ⟨o,h1,h2,_⟩:=p
    exact PySem.W.kia_one PySem.W.kitx_tuple I.kIn ⟨o,h1,h2⟩ e (fun z=>nomatch z) h
  | @dK a kvs ea =>
    cases (show u=Value.ref a from rx)
    obtain ⟨_,_,vs,_,p⟩:=(show ObjOk X.prog X.w H s.heap a (.dK kvs) from I.hok a _ ea)
    obtain ⟨o,es,ep,h1,h2,_⟩:=p
    exact PySem.W.kia_one PySem.W.kitx_dict I.kIn ⟨o,h1,h2.1⟩ e (fun z=>nomatch z) h
  | @dT a kvs ea =>
    cases (show u=Value.ref a from rx)
    obtain ⟨_,_,xs,_,o,es,ep,h1,h2,_⟩:=(show ObjOk X.prog X.w H s.heap a (.dT kvs) from I.hok a _ ea)
    exact PySem.W.kia_one PySem.W.kitx_dict I.kIn ⟨o,h1,h2.1⟩ e (fun z=>nomatch z) h
  | @ins a C dx fs ea cl ha hn htk hm =>
    cases (show u=Value.ref a from rx)
    obtain ⟨mA,O,_⟩:=ins_get I.hok ea
    obtain ⟨od,J,_⟩:=O.look
    exact PySem.W.kia_one (PySem.W.kitx_own (cl.get _) cl.hd ha hn htk hm) I.kIn J e (fun z=>nomatch z) h
end
end L2
namespace L2
open PySem PySem.Spec PyProof.Rows
structure Room (k:Nat) (A:Around):Prop where
  hd:A.handled=none
  dp:A.depth+3 * k+5<recursionLimit
  un:A.units+16 * k+200<cLine
theorem Room.mono {j k:Nat} {A:Around} (r:Room k A) (h:j≤k):Room j A:=⟨r.hd,by have:=r.dp; omega,by have:=r.un; omega⟩
theorem Room.deeper {k:Nat} {A:Around} (r:Room (k+1) A) (env:Env):Room k (A.deeper env) :=
  ⟨r.hd,by have:=r.dp; show A.depth+1+3 * k+5<_; omega,by have:=r.un; show A.units+3+16 * k+200<_; omega⟩
theorem make_depth {A:Around} {C:Addr} {us:List Value} {kw:List (Str×Value)}:(A.under (.builtin "type.__call__" ⟨.ref C::us,kw⟩)).depth=A.depth+1:=by
  first | rfl | simp [Around.under,Code.weight,Code.isCreation,Code.isGuard,Code.isCaller,Code.frames,Code.isFrame,guardIds]
theorem make_units {A:Around} {C:Addr} {us:List Value} {kw:List (Str×Value)}:(A.under (.builtin "type.__call__" ⟨.ref C::us,kw⟩)).units=A.units+1:=by
  first | rfl | simp [Around.under,Code.cUnits,Code.frames,Code.isFrame]
theorem Room.make {k:Nat} {A:Around} (r:Room (k+1) A) (C:Addr) (us:List Value) (kw:List (Str×Value)):Room k (A.under (.builtin "type.__call__" ⟨.ref C::us,kw⟩)) :=
  ⟨r.hd,by have:=r.dp; rw [make_depth]; omega,by have:=r.un; rw [make_units]; omega⟩
theorem Room.depth {k:Nat} {A:Around} (r:Room k A):A.depth<recursionLimit:=by have:=r.dp; omega
theorem Room.units {k:Nat} {A:Around} (r:Room k A):A.units+64<cLine:=by have:=r.un; omega
theorem Room.units0 {k:Nat} {A:Around} (r:Room k A):A.units<cLine:=by have:=r.un; omega
def tNil:TA:=fun _ H Q=>Q [] H
def tCons (ta:TE) (tr:TA):TA:=fun σ H Q=>ta σ H fun x H1=>tr σ H1 fun xs H2=>Q (x::xs) H2
section
variable {X:Cx} {e:Expr} {es:List Expr} {te:TE} {t:TA} {pos:Pos}
theorem pa_nil:PA X [] tNil:=fun _ _ _ _ H Q I h=>Calls.spliced_nil ⟨[],H,I,.nil,h⟩
theorem pa_cons (ha:PE X e te) (hr:PA X es t) (hs:starEach (e::es) X.env=(false,eval e X.env)::starEach es X.env:=by rfl):PA X (e::es) (tCons te t):=by
  intro pos pins s σ H Q I h
  rw [hs]
  show wpAny _ _ (spliced ((false,eval e X.env)::backTo pos (starEach es X.env))) _ _ s
  refine Calls.spliced_cons (thn (ha pins s σ H _ I h) fun u s1 ⟨x,H1,I1,r1,q1⟩=>?_)
  exact thn (hr pos pins s1 σ H1 _ I1 q1) fun us s2 ⟨xs,H2,I2,r2,q2⟩=>⟨x::xs,H2,I2,.cons r1 r2,q2⟩
def tTup (t:TA):TE:=fun σ H Q=>t σ H fun xs H1=>xs.length≤sizeLine∧∀ p,H1 p=none→Q (.ref p) (upd H1 p (.tup xs))
def tLst (t:TA):TE:=fun σ H Q=>t σ H fun xs H1=>xs.length≤sizeLine∧∀ p,H1 p=none→Q (.ref p) (upd H1 p (.lst xs))
theorem pe_tup {x1} (h:PA X es t):PE X (.Tuple es x1 pos) (tTup t):=by
  intro pins s σ H Q I hq
  refine wpAny_Tuple_spliced (thn (h pos pins s σ H _ I hq) fun us s1 ⟨xs,H1,I1,r,z,q⟩=>⟨by rw [← r.length]; exact z,?_⟩)
  have hf:H1 s1.heap.objs.size=none:=I1.hok.fresh (Nat.le_refl _)
  refine ⟨.ref s1.heap.objs.size,upd H1 s1.heap.objs.size (.tup xs),I1.laid (t':=s1.toks) (fun b u e=>Heap.get?_push_of_some _ e) (Nat.le_refl _) ?_,rfl,q _ hf⟩
  exact ⟨z,us,r,⟨_,Heap.get?_push_size _ rfl,rfl,_,rfl⟩⟩
theorem pe_lst (h:PA X es t):PE X (.List es pos) (tLst t):=by
  intro pins s σ H Q I hq
  refine wpAny_List_spliced (thn (h pos pins s σ H _ I hq) fun us s1 ⟨xs,H1,I1,r,z,q⟩=>⟨by rw [← r.length]; exact z,?_⟩)
  have hf:H1 s1.heap.objs.size=none:=I1.hok.fresh (Nat.le_refl _)
  refine ⟨.ref s1.heap.objs.size,upd H1 s1.heap.objs.size (.lst xs),I1.laid (t':=s1.toks) (fun b u e=>Heap.get?_push_of_some _ e) (Nat.le_refl _) ?_,rfl,q _ hf⟩
  exact ⟨z,us,0,r,Heap.get?_push_size _ rfl⟩
end
abbrev Sp:=List V→Hp→VK→XK→Prop
abbrev CXT:=List Env→Hp→Shared→XK→Value→Shared→Prop
structure Env0 (P:Program) (w:World) (K:PySem.W.Frag) (mg:Str→Option Value) (base:Heap) (A:Around) (outer:List Env) (s:Shared) (H:Hp):Prop where
  frames:A.frames=some outer
  mod:Mod K mg base
  bs:∀ b o,base.get? b=some o→s.heap.get? b=some o∧H b=none
  bsz:base.objs.size≤s.heap.objs.size
  funs:s.heap.FunFrames base outer
  frf:∀ b∈frs outer,H b=none
  hok:HOk P w H s.heap
  bare:AllBare s.gens
def CE (outer:List Env) (P:Program) (w:World) (H:Hp) (s:Shared) (Q:VK) (u:Value) (s':Shared):Prop :=
  ∃ v H',s'.os=s.os∧AllBare s'.gens∧Un (frs outer) [] H H' s.heap s'.heap∧HOk P w H' s'.heap∧RelV v u∧Q v H'
def CR (CX:CXT) (outer:List Env) (P:Program) (w:World) (H:Hp) (s:Shared) (Q:VK) (E:XK) (r:Result) (s':Shared):Prop :=
  match r with
  | .ok (.ret u)=>CE outer P w H s Q u s'
  | .ok _=>False
  | .error e=>CX outer H s E e s'
structure FnOk (P:Program) (w:World) (K:PySem.W.Frag) (mg:Str→Option Value) (base:Heap) (CX:CXT) (k:Nat) (f:Addr) (fd:FuncData) (ps:List Str) (sp:Sp):Prop where
  len:∀ vs H Q E,sp vs H Q E→vs.length=ps.length
  run:∀ (A:Around) (outer:List Env) (s:Shared) (H:Hp) (args:Args) (us:List Value) (vs:List V) (Q:VK) (E:XK),Room k A→Env0 P w K mg base A outer s H→BindsTo s fd args (ps.zip us)→Vals vs us→sp vs H Q E→
    codeAny (model P w) A (.call (.ref f) args) (CR CX outer P w H s Q E) s
theorem Env0.make {P:Program} {w:World} {K:PySem.W.Frag} {mg:Str→Option Value} {base:Heap} {A:Around} {outer:List Env} {s:Shared} {H:Hp} (e:Env0 P w K mg base A outer s H) (C:Addr) (us:List Value) (kw:List (Str×Value)) :
    Env0 P w K mg base (A.under (.builtin "type.__call__" ⟨.ref C::us,kw⟩)) outer s H:=⟨by first | exact e.frames | (simpa [Around.under,Code.envs,Code.isFrame,pushEnvs] using e.frames),e.mod,e.bs,e.bsz,e.funs,e.frf,e.hok,e.bare⟩
section
variable {X:Cx} {pins:List (Addr×Obj)} {σ:St} {H:Hp} {s s':Shared}
theorem Inv.env0 (I:Inv X pins σ H s):Env0 X.prog X.w X.K X.mg X.base X.A X.stack s H :=
  ⟨I.ok.frames,I.ok.mod,I.bs,Nat.le_trans I.ok.bsz I.sz,I.stack,I.stkFree,I.hok,I.bare⟩
theorem Inv.after {Q:VK} {u:Value} (I:Inv X pins σ H s) (h:CE X.stack X.prog X.w H s Q u s'):EP X pins σ Q u s':=by
  obtain ⟨v,H',os,bare,un,hok,r,q⟩:=h
  obtain ⟨hh,g,d,t,os'⟩:=s'
  obtain rfl:os'=s.os:=os
  exact ⟨v,H',I.call (h':=hh) (g':=g) (d':=d) (t':=t) (ch:=[]) un hok bare (fun b z=>absurd z (by simp)),r,q⟩
end
def tCall (sp:Sp) (dvs:List V) (E:XK) (t:TA):TE:=fun σ H Q=>t σ H fun vs H1=>sp (vs++dvs) H1 Q E
def tMeth (C:Addr) (m:Str) (sp:Sp) (dvs:List V) (E:XK) (ta:TE) (t:TA):TE:=fun σ H Q=>ta σ H fun x H1=>∃ a dx fs,x=.ref a∧H1 a=some (.ins C dx fs)∧fs.lookup m=none∧
  t σ H1 fun vs H2=>sp (x::(vs++dvs)) H2 Q E
def tMake (C:Addr) (sp:Sp) (dvs:List V) (E:XK) (t:TA):TE:=fun σ H Q=>t σ H fun vs H1=>∀ x dx,H1 x=none→H1 dx=none→dx≠x→
  sp (.ref x::(vs++dvs)) (upd (upd H1 dx (.own x)) x (.ins C dx [])) (fun v H2=>v=.non∧Q (.ref x) H2) E
def Binds (K:PySem.W.Frag) (fd:FuncData) (ps:List Str) (ds:List Value):Prop :=
  ∀ (s:Shared) (us:List Value),K.In s.heap→(us++ds).length=ps.length→BindsTo s fd ⟨us,[]⟩ (ps.zip (us++ds))
theorem Binds.all {K:PySem.W.Frag} {fd:FuncData} {ps:List Str} (h:∀ us:List Value,us.length=ps.length→bindArgs fd ⟨us,[]⟩=pure (ps.zip us)):Binds K fd ps []:=fun s us _ hl=>by
  rw [List.append_nil] at hl ⊢
  exact .of_eq (h us hl)
def Passes (CX:CXT) (X:Cx) (E:XK):Prop:=∀ (pins:List (Addr×Obj)) (σ:St) (H:Hp) (s:Shared) (e:Value) (s':Shared),Inv X pins σ H s→CX X.stack H s E e s'→X.xe e s'
section
variable {X:Cx} {CX:CXT} {k:Nat} {f C:Addr} {fd:FuncData} {ps:List Str} {sp:Sp} {dvs:List V} {ds:List Value} {E:XK} {x m:Str} {p pos apos:Pos} {e o:Expr} {es:List Expr} {ta:TE} {t:TA}
theorem run_fn {pins:List (Addr×Obj)} {σ:St} {H:Hp} {s:Shared} {Q:VK} {us:List Value} {vs:List V} (F:FnOk X.prog X.w X.K X.mg X.base CX k f fd ps sp) (hr:Room k X.A) (hb:Binds X.K fd ps ds) (hd:Vals dvs ds) (hx:Passes CX X E)
    (I:Inv X pins σ H s) (r:Vals vs us) (h:sp (vs++dvs) H Q E):wpAny (model X.prog X.w) X.A (call (.ref f) us) (EP X pins σ Q) X.xe s:=by
  have r2:Vals (vs++dvs) (us++ds):=r.append hd
  have hl:(us++ds).length=ps.length:=by rw [← r2.length]; exact F.len _ _ _ _ h
  refine wpAny_call (codeAny_mono (F.run X.A X.stack s H ⟨us,[]⟩ (us++ds) (vs++dvs) Q E hr I.env0 (hb s us I.kIn hl) r2 h) fun r s' hq=>?_)
  cases r with
  | error e=>exact hx pins σ H s e s' I hq
  | ok fl =>
    cases fl with
    | ret u=>exact I.after hq
    | next=>exact False.elim hq
    | brk=>exact False.elim hq
    | cont=>exact False.elim hq
theorem pe_call (F:FnOk X.prog X.w X.K X.mg X.base CX k f fd ps sp) (hr:Room k X.A) (hg:Gl X x) (hm:X.mg x=some (.ref f)) (hk:PySem.W.keepIn X.K (.ref f)=true) (hb:Binds X.K fd ps ds) (hd:Vals dvs ds) (hx:Passes CX X E)
    (ha:PA X (e::es) t) (hdb:(x == ("__debug__":Str))=false:=by decide) (he:starEach (e::es) X.env=(false,eval e X.env)::starEach es X.env:=by rfl) (hpl:(backTo pos (starEach es X.env)).any (·.1)=false:=by rfl) :
    PE X (.Call (.Name x p) (e::es) [] pos) (tCall sp dvs E t):=by
  intro pins s σ H Q I h
  refine wpAny_Call_Name_kw (ld_glob I hg hm ?_ hdb)
  refine PySem.W.callWith_K (h₀:=X.base) I.ok.mod.kin hk (thn (ha pos pins s σ H _ I h) fun us s1 ⟨vs,H1,I1,r,q⟩=>⟨I1.kIn,?_⟩) he hpl
  exact run_fn F hr hb hd hx I1 r q
structure Mk (K:PySem.W.Frag) (C f:Addr):Prop where
  makes:PySem.W.makesIn K C=true
  init:PySem.W.findIn K (.ref C) "__init__"=some (some (.ref f))
  fn:PySem.W.isFn K (.ref f)=true
  kp:PySem.W.keepIn K (.ref C)=true
theorem run_make {pins:List (Addr×Obj)} {σ:St} {H:Hp} {s:Shared} {Q:VK} {us:List Value} {vs:List V} (M:Mk X.K C f) (F:FnOk X.prog X.w X.K X.mg X.base CX k f fd ps sp) (hr:Room (k+1) X.A) (hb:Binds X.K fd ps ds) (hd:Vals dvs ds)
    (hx:Passes CX X E) (I:Inv X pins σ H s) (r:Vals vs us)
    (h:∀ x dx,H x=none→H dx=none→dx≠x→sp (.ref x::(vs++dvs)) (upd (upd H dx (.own x)) x (.ins C dx [])) (fun v H2=>v=.non∧Q (.ref x) H2) E) :
    wpAny (model X.prog X.w) X.A (call (.ref C) us) (EP X pins σ Q) X.xe s:=by
  have hq:=h (s.heap.objs.size+1) s.heap.objs.size (I.hok.fresh (Nat.le_succ _)) (I.hok.fresh (Nat.le_refl _)) (Nat.ne_of_lt (Nat.lt_succ_self _))
  have I2:=Inv.made (C:=C) I
  have r2:Vals (V.ref (s.heap.objs.size+1)::(vs++dvs)) (Value.ref (s.heap.objs.size+1)::(us++ds)):=.cons rfl (r.append hd)
  have hl:(Value.ref (s.heap.objs.size+1)::us++ds).length=ps.length:=by
    have e:=r2.length
    rw [F.len _ _ _ _ hq] at e
    exact e.symm
  refine wpAny_call (make_map (f:=f) I.kIn M.makes M.init (beq_iff_eq.mp M.fn) (codeAny_mono (F.run _ X.stack _ _ ⟨Value.ref (s.heap.objs.size+1)::us,[]⟩ (Value.ref (s.heap.objs.size+1)::(us++ds)) _ _ E (hr.make C us [])
    (I2.env0.make C us []) (hb _ (Value.ref (s.heap.objs.size+1)::us) I2.kIn hl) r2 hq) fun r s' hq'=>?_))
  cases r with
  | error e=>exact hx pins σ _ _ e s' I2 hq'
  | ok fl =>
    cases fl with
    | ret u =>
      obtain ⟨v,H',I3,rv,ev,q3⟩:=I2.after hq'
      subst ev
      exact ⟨rv,⟨V.ref (s.heap.objs.size+1),H',I3,rfl,q3⟩⟩
    | next=>exact False.elim hq'
    | brk=>exact False.elim hq'
    | cont=>exact False.elim hq'
theorem pe_make (M:Mk X.K C f) (F:FnOk X.prog X.w X.K X.mg X.base CX k f fd ps sp) (hr:Room (k+1) X.A) (hg:Gl X x) (hm:X.mg x=some (.ref C)) (hb:Binds X.K fd ps ds) (hd:Vals dvs ds) (hx:Passes CX X E)
    (ha:PA X (e::es) t) (hdb:(x == ("__debug__":Str))=false:=by decide) (he:starEach (e::es) X.env=(false,eval e X.env)::starEach es X.env:=by rfl) (hpl:(backTo pos (starEach es X.env)).any (·.1)=false:=by rfl) :
    PE X (.Call (.Name x p) (e::es) [] pos) (tMake C sp dvs E t):=by
  intro pins s σ H Q I h
  refine wpAny_Call_Name_kw (ld_glob I hg hm ?_ hdb)
  refine PySem.W.callWith_K (h₀:=X.base) I.ok.mod.kin M.kp (thn (ha pos pins s σ H _ I h) fun us s1 ⟨vs,H1,I1,r,q⟩=>⟨I1.kIn,?_⟩) he hpl
  exact run_make M F hr hb hd hx I1 r q
theorem pe_make0 (M:Mk X.K C f) (F:FnOk X.prog X.w X.K X.mg X.base CX k f fd ps sp) (hr:Room (k+1) X.A) (hg:Gl X x) (hm:X.mg x=some (.ref C)) (hb:Binds X.K fd ps ds) (hd:Vals dvs ds) (hx:Passes CX X E)
    (hdb:(x == ("__debug__":Str))=false:=by decide):PE X (.Call (.Name x p) [] [] pos) (tMake C sp dvs E tNil):=by
  intro pins s σ H Q I h
  refine wpAny_Call_Name_kw (ld_glob I hg hm ?_ hdb)
  exact PySem.W.callWith_K0 I.kIn M.kp (run_make (us:=[]) M F hr hb hd hx I .nil h)
end
def PK (X:Cx) (kws:List Keyword) (t:TA):Prop :=
  ∀ (pos:Pos) (pins:List (Addr×Obj)) (s:Shared) (σ:St) (H:Hp) (Q:List V→Hp→Prop),Inv X pins σ H s→t σ H Q→wpAny (model X.prog X.w) X.A (evalAll ((backToKw pos (keywordEach kws X.env)).map (·.2))) (AP X pins σ Q) X.xe s
section
variable {X:Cx} {CX:CXT} {k:Nat} {f C:Addr} {fd:FuncData} {ps ks:List Str} {sp:Sp} {E:XK} {x m:Str} {p pos apos kpos:Pos} {e o:Expr} {es:List Expr} {kws:List Keyword} {te ta:TE} {t tk:TA} {nm:Option Str}
structure KBinds (K:PySem.W.Frag) (fd:FuncData) (ps ks:List Str) (g:List Value→List Value→List Value) (gV:List V→List V→List V):Prop where
  to:∀ (s:Shared) (us ws:List Value),K.In s.heap→(g us ws).length=ps.length→BindsTo s fd ⟨us,ks.zip ws⟩ (ps.zip (g us ws))
  rel:∀ {vs:List V} {us:List Value} {zs:List V} {ws:List Value},Vals vs us→Vals zs ws→Vals (gV vs zs) (g us ws)
def tCallK (sp:Sp) (gV:List V→List V→List V) (E:XK) (t tk:TA):TE:=fun σ H Q=>t σ H fun vs H1=>tk σ H1 fun zs H2=>sp (gV vs zs) H2 Q E
variable {g:List Value→List Value→List Value} {gV:List V→List V→List V}
end
structure FnScope (N P:List Str) (sc:Scope):Prop where
  kind:sc.kind=.function
  co:sc.isCoroutine=false
  gen:sc.isGenerator=false
  nd:N.Nodup
  pre:N.take P.length=P
  par:∀ x∈P,sc.names.lookup x=some .local∨sc.names.lookup x=some .cell
  nofree:∀ y∈sc.names,y.2≠.free
theorem bindL_out {kindOf:Str→Option NameKind} {x:Str}:∀ {binds:List (Str×Value)} {m:Str→Option Value},(∀ v,(x,v)∉binds)→bindL kindOf binds m x=m x
  | [],_,_=>rfl
  | (n,v)::r,m,h=>by
    unfold bindL
    rw [bindL_out fun w hw=>h w (List.mem_cons_of_mem _ hw)]
    split
    · have:x≠n:=by rintro rfl; exact h v List.mem_cons_self
      simp [this]
    · rfl
theorem bindC_out {kindOf:Str→Option NameKind} {x:Str}:∀ {binds:List (Str×Value)} {m:Str→Option Value},(∀ v,(x,v)∉binds)→bindC kindOf binds m x=m x
  | [],_,_=>rfl
  | (n,v)::r,m,h=>by
    unfold bindC
    rw [bindC_out fun w hw=>h w (List.mem_cons_of_mem _ hw)]
    split
    · rfl
    · have:x≠n:=by rintro rfl; exact h v List.mem_cons_self
      simp [this]
theorem bindL_get {kindOf:Str→Option NameKind} {x:Str} {v:Value}:∀ {P:List Str} {vs:List Value} {i:Nat} {m:Str→Option Value},P.Nodup→P[i]?=some x→vs[i]?=some v→kindOf x=some .local→
    bindL kindOf (P.zip vs) m x=some v
  | [],_,_,_,_,h,_,_=>by simp at h
  | _::_,[],_,_,_,_,h,_=>by simp at h
  | p::P,w::vs,0,m,nd,h1,h2,hk=>by
    simp at h1 h2; subst h1; subst h2
    show bindL kindOf ((p,w)::P.zip vs) m p=_
    unfold bindL
    rw [bindL_out fun v hv=>(List.nodup_cons.mp nd).1 (List.of_mem_zip hv).1,if_pos hk]
    simp
  | p::P,w::vs,i+1,m,nd,h1,h2,hk=>by
    show bindL kindOf ((p,w)::P.zip vs) m x=_
    unfold bindL
    exact bindL_get (i:=i) (List.nodup_cons.mp nd).2 (by simpa using h1) (by simpa using h2) hk
theorem bindC_get {kindOf:Str→Option NameKind} {x:Str} {v:Value}:∀ {P:List Str} {vs:List Value} {i:Nat} {m:Str→Option Value},P.Nodup→P[i]?=some x→vs[i]?=some v→kindOf x≠some .local→
    bindC kindOf (P.zip vs) m x=some v
  | [],_,_,_,_,h,_,_=>by simp at h
  | _::_,[],_,_,_,_,h,_=>by simp at h
  | p::P,w::vs,0,m,nd,h1,h2,hk=>by
    simp at h1 h2; subst h1; subst h2
    show bindC kindOf ((p,w)::P.zip vs) m p=_
    unfold bindC
    rw [bindC_out fun v hv=>(List.nodup_cons.mp nd).1 (List.of_mem_zip hv).1,if_neg hk]
    simp
  | p::P,w::vs,i+1,m,nd,h1,h2,hk=>by
    show bindC kindOf ((p,w)::P.zip vs) m x=_
    unfold bindC
    exact bindC_get (i:=i) (List.nodup_cons.mp nd).2 (by simpa using h1) (by simpa using h2) hk
def start (N:List Str) (vs:List V):St:=vs.map some++List.replicate (N.length - vs.length) none
def cxOf (CX:CXT) (P:Program) (w:World) (K:PySem.W.Frag) (mg:Str→Option Value) (base:Heap) (N:List Str) (qual:Str) (scope:Scope) (f:Addr) (cd:Value) (A:Around) (outer:List Env) (s:Shared) (H:Hp) (E:XK):Cx where
  prog:=P
  w:=w
  K:=K
  mg:=mg
  base:=base
  A:=A.deeper (envOfC qual scope s.heap.objs.size f cd)
  N:=N
  s₀:=s
  H₀:=H
  env:=envOfC qual scope s.heap.objs.size f cd
  outer:=outer
  stack:=envOfC qual scope s.heap.objs.size f cd::outer
  ex:=[]
  calm:=true
  fn:=fun _=>true
  pn:=[]
  xe:=fun e s'=>wpAny (model P w) (A.deeper (envOfC qual scope s.heap.objs.size f cd)) (leaving (envOfC qual scope s.heap.objs.size f cd) e) (fun _ s''=>CX outer H s E e s'') (fun e' s''=>CX outer H s E e' s'') s'
theorem cell_has {sc:Scope} {n:Nat} {x:Str} (h:sc.names.lookup x=some .cell):∃ c,(cellsFrom n sc.names []).lookup x=some c:=by
  have q:=PySem.W.cellsFrom_some sc.names n [] (.inl h)
  exact Option.isSome_iff_exists.mp q
theorem inv_start {CX:CXT} {P:Program} {w:World} {K:PySem.W.Frag} {mg:Str→Option Value} {base:Heap} {N ps:List Str} {qual:Str} {scope:Scope} {f:Addr} {cd:Value} {A:Around} {outer:List Env} {s s1:Shared} {H:Hp} {E:XK} {us:List Value} {vs:List V}
    (S:FnScope N ps scope) (hd:A.handled=none) (e0:Env0 P w K mg base A outer s H) (hl:vs.length=ps.length) (r:Vals vs us)
    (x:InCallC s s.heap.objs.size (bindL (envOfC qual scope s.heap.objs.size f cd).kindOf (ps.zip us) fun _=>none) (cellsFrom (s.heap.objs.size+1) scope.names []) (bindC (envOfC qual scope s.heap.objs.size f cd).kindOf (ps.zip us) fun _=>none) s1) :
    Inv (cxOf CX P w K mg base N qual scope f cd A outer s H E) [] (start N vs) H s1:=by
  have hpl:ps.length≤N.length:=by have:=congrArg List.length S.pre; rw [List.length_take] at this; omega
  obtain ⟨h1,tk,rfl,hk⟩:=x.done
  have noA:∀ b:Addr,b∉(cxOf CX P w K mg base N qual scope f cd A outer s H E).ex:=fun b z=>absurd (show b∈([]:List Addr) from z) (by simp)
  refine ⟨⟨e0.mod,S.kind,rfl,rfl,Nat.le_refl _,fun y z c h1 h2=>?_,fun y hy=>?_,fun y c _ h=>?_,fun _=>hd,Around.frames_deeper e0.frames,.inr ⟨rfl,rfl⟩,fun b z=>absurd z (noA b),e0.bs,e0.bsz,fun b _ _=>noA b,fun b z=>absurd z (noA b),e0.funs,e0.frf⟩,
    rfl,e0.bare,Un.kept hk,⟨_,x.toInCall.ns,fun i y v h1 h2 h3=>?_⟩,fun y c h=>⟨_,x.cell y c h⟩,e0.hok.fresh (Nat.le_refl _),fun y c h=>?_,fun p hp=>absurd (show p∈([]:List (Addr×Obj)) from hp) (by simp),e0.hok.kept hk,?_⟩
  · exact name_of_addr x.apart (PySem.mem_of_lookup h1) (PySem.mem_of_lookup h2)
  · have hy:scope.names.lookup y=some .cell∨scope.names.lookup y=some .free:=hy
    rcases hy with hy | hy
    · exact cell_has hy
    · exact absurd rfl (S.nofree _ (PySem.mem_of_lookup hy))
  · exact Nat.le_of_lt (x.above y c (PySem.mem_of_lookup h))
  · have hi:i<vs.length:=by
      unfold start at h2
      by_cases hi:i<vs.length
      · exact hi
      · rw [List.getElem?_append_right (by simpa using hi)] at h2
        rw [List.getElem?_replicate] at h2
        split at h2 <;> cases h2
    have ha:vs[i]?=some v:=by
      unfold start at h2
      rw [List.getElem?_append_left (by simpa using hi),List.getElem?_map] at h2
      cases e:vs[i]? with
      | none=>rw [e] at h2; cases h2
      | some a=>rw [e] at h2; cases h2; rfl
    obtain ⟨u,hu,rv⟩:=r.get ha
    have hp:ps[i]?=some y:=by
      rw [← S.pre,List.getElem?_take_of_lt (by omega)]; exact h1
    have ndP:ps.Nodup:=by rw [← S.pre]; exact S.nd.sublist (List.take_sublist _ _)
    refine ⟨u,rv,?_⟩
    rcases S.par y (List.mem_of_getElem? hp) with k | k
    · exact .inl ⟨k,bindL_get ndP hp hu k⟩
    · obtain ⟨c,e⟩:=cell_has (n:=s.heap.objs.size+1) k
      refine .inr ⟨.inl k,c,e,?_⟩
      have q:=x.cell y c e
      rw [bindC_get ndP hp hu (by show scope.names.lookup y≠_; rw [k]; decide)] at q
      exact q
  · exact e0.hok.fresh (Nat.le_of_lt (x.above y c (PySem.mem_of_lookup h)))
  · unfold start
    show _=N.length
    rw [List.length_append,List.length_map,List.length_replicate]
    omega
theorem fn_of {CX:CXT} {P:Program} {w:World} {K:PySem.W.Frag} {mg:Str→Option Value} {base:Heap} {k:Nat} {f:Addr} {name qual:Str} {params:Arguments} {body:List Stmt} {scope:Scope} {dV kV doc pm cdv ct oc:Value} {an od:Option Addr}
    {osl:Array (Option Value)} {N ps:List Str} {sp:Sp} (lk:K.lookup f=some ⟨oc,od,.func (PySem.W.fnOf name qual params body scope dV kV doc pm an cdv ct),osl⟩) (hcd:PySem.W.codeIn K cdv qual=true) (S:FnScope N ps scope)
    (len:∀ vs H Q E,sp vs H Q E→vs.length=ps.length)
    (hbody:∀ (A:Around) (outer:List Env) (s:Shared) (H:Hp) (vs:List V) (Q:VK) (E:XK),Room k (A.deeper (envOfC qual scope s.heap.objs.size f cdv))→sp vs H Q E→
      ∃ t,PSs (cxOf CX P w K mg base N qual scope f cdv A outer s H E) body t∧t { nx:=fun _ H'=>Q .non H',rt:=Q } (start N vs) H) :
    FnOk P w K mg base CX (k+1) f (PySem.W.fnOf name qual params body scope dV kV doc pm an cdv ct) ps sp:=by
  refine ⟨len,fun A outer s H args us vs Q E hr e0 hb r hsp=>?_⟩
  have hl:=len _ _ _ _ hsp
  have KX:K.In s.heap:=e0.mod.kin.keeps fun b o e=>(e0.bs b o e).1
  have lim:s.heap.NoLimit:=e0.mod.nolimit.keeps fun b o e=>(e0.bs b o e).1
  have hkind:∀ y∈ps.zip us,scope.names.lookup y.1=some .local∨(scope.names.lookup y.1=some .cell∧((cellsFrom (s.heap.objs.size+1) scope.names []).lookup y.1).isSome=true):=fun ⟨n,v⟩ hy=>by
    rcases S.par n (List.of_mem_zip hy).1 with q | q
    · exact .inl q
    · exact .inr ⟨q,PySem.W.cellsFrom_some _ _ _ (.inl q)⟩
  refine codeAny_call_function hr.depth (KX _ _ lk) rfl S.co S.gen rfl (PySem.W.codeRec_of KX hcd) (hb _ _ _ _ ?_)
  refine wpAny_newFunctionEnv_cells S.kind hkind fun env he s1 x=>?_
  subst he
  refine ⟨lim.keeps x.toInCall.keep,codeAny_func ?_⟩
  obtain ⟨t,ht,hq⟩:=hbody A outer s H vs Q E (hr.deeper _) hsp
  have I:Inv (cxOf CX P w K mg base N qual scope f cdv A outer s H E) [] (start N vs) H s1:=inv_start S hr.hd e0 hl r x
  refine wpAny_mono (ht [] s1 (start N vs) H _ I hq) (fun fl s' hs=>?_) fun e s' hs=>hs
  have fin:∀ {σ':St} {H':Hp} {v:V} {u:Value},Inv (cxOf CX P w K mg base N qual scope f cdv A outer s H E) [] σ' H' s'→RelV v u→Q v H'→CE outer P w H s Q u s' :=
    fun {σ' H' v u} J rv q=>⟨v,H',J.os,J.bare,J.base,J.hok,rv,q⟩
  cases fl with
  | ret u =>
    obtain ⟨v,σ',H',J,rv,q⟩:=hs
    exact fin J rv q
  | next =>
    obtain ⟨σ',H',J,q⟩:=hs
    exact fin (v:=V.non) (u:=Value.none) J rfl q
  | brk =>
    obtain ⟨_,_,_,q⟩:=hs
    exact False.elim q
  | cont =>
    obtain ⟨_,_,_,q⟩:=hs
    exact False.elim q
end L2
namespace L2
open PySem PySem.Spec PyProof.Rows
section
variable {X:Cx} {x:Str} {p pos:Pos} {e:Expr} {es:List Expr} {t:TA} {id T:String} {r:List V→Hp→VK→Prop}
def tCB (r:List V→Hp→VK→Prop) (t:TA):TE:=fun σ H Q=>t σ H fun vs H1=>r vs H1 Q
theorem pe_callB (hc:CallR X (.builtin id) r) (hg:Gl X x) (hm:X.mg x=none) (hv:bootBuiltins x=some (.builtin id)) (ha:PA X (e::es) t) (hn:x≠"__name__":=by decide) (hdb:(x == ("__debug__":Str))=false:=by decide)
    (he:starEach (e::es) X.env=(false,eval e X.env)::starEach es X.env:=by rfl) (hpl:(backTo pos (starEach es X.env)).any (·.1)=false:=by rfl):PE X (.Call (.Name x p) (e::es) [] pos) (tCB r t):=by
  intro pins s σ H Q I h
  refine wpAny_Call_Name_kw (ld_blt I hg hm hv ?_ hn hdb)
  exact PyProof.Rows.callWith_builtin1 (thn (ha pos pins s σ H _ I h) fun us s1 ⟨vs,H1,I1,r1,q1⟩=>hc pins s1 σ H1 vs us Q I1 r1 q1) he hpl
theorem pe_callTy (hc:CallR X (.type T) r) (hg:Gl X x) (hm:X.mg x=none) (hv:bootBuiltins x=some (.type T)) (ha:PA X (e::es) t) (hn:x≠"__name__":=by decide) (hdb:(x == ("__debug__":Str))=false:=by decide)
    (he:starEach (e::es) X.env=(false,eval e X.env)::starEach es X.env:=by rfl) (hpl:(backTo pos (starEach es X.env)).any (·.1)=false:=by rfl):PE X (.Call (.Name x p) (e::es) [] pos) (tCB r t):=by
  intro pins s σ H Q I h
  refine wpAny_Call_Name_kw (ld_blt I hg hm hv ?_ hn hdb)
  exact PyProof.Rows.callWith_type1 (thn (ha pos pins s σ H _ I h) fun us s1 ⟨vs,H1,I1,r1,q1⟩=>hc pins s1 σ H1 vs us Q I1 r1 q1) he hpl
end
end L2
namespace HT
open PySem PyProof.Rows
def lexLt:List Int→List Int→Bool
  | [],[]=>false
  | [],_::_=>true
  | _::_,[]=>false
  | x::xs,y::ys=>if x=y then lexLt xs ys else decide (x<y)
section
open PySem.SeqAt
open PySem.AutoSeq1 (wpAny_loadPart')
open PySem.MeetsSeq PySem.MeetsSeq2 PySem.MeetsSeq3
end
section
variable {prog:Program} {w:World} {A:Around} {E:Value→Shared→Prop} {s:Shared}
def sIx (n d:Nat):Option Int→Nat
  | none=>d
  | some v=>if v<0 then (v+(n:Int)).toNat else min v.toNat n
theorem sIx_none (n d:Nat):sIx n d none=d:=rfl
theorem sIx_nat (n d k:Nat):sIx n d (some (k:Int))=min k n:=by
  show (if (k:Int)<0 then ((k:Int)+(n:Int)).toNat else min (k:Int).toNat n)=min k n
  rw [if_neg (by omega),Int.toNat_natCast]
theorem sIx_le (n d:Nat) (hd:d≤n) (o:Option Int):sIx n d o≤n:=by
  cases o with
  | none=>exact hd
  | some v =>
    show (if v<0 then (v+(n:Int)).toNat else min v.toNat n)≤n
    by_cases hv:v<0
    · rw [if_pos hv]; omega
    · rw [if_neg hv]; exact Nat.min_le_right _ _
end
end HT
namespace L2
open PySem PySem.Spec PyProof.Rows
abbrev TO:=St→Hp→(Option Int→Hp→Prop)→Prop
def PO (X:Cx) (e:Option Expr) (t:TO):Prop :=
  ∀ (pins:List (Addr×Obj)) (s:Shared) (σ:St) (H:Hp) (Q:Option Int→Hp→Prop),Inv X pins σ H s→t σ H Q→
    wpAny (model X.prog X.w) X.A (evalPart e X.env) (fun u s'=>∃ o H',Inv X pins σ H' s'∧IsPart u o∧Q o H') X.xe s
def tNoPart:TO:=fun _ H Q=>Q none H
def tPart (t:TE):TO:=fun σ H Q=>t σ H fun x H1=>∃ i,x=.int i∧Q (some i) H1
theorem intsAre_of {ns:List Int}:∀ {us:List Value},Vals (ns.map V.int) us→IntsAre us ns:=by
  induction ns with
  | nil=>intro us r; rw [List.map_nil] at r; cases r; exact .nil
  | cons n ns ih =>
    intro us r
    rw [List.map_cons] at r
    cases r with
    | cons r1 r2 =>
      obtain ⟨t,e⟩:=r1
      subst e
      exact .cons n t (ih r2)
section
variable {X:Cx} {e:Expr} {te:TE} {lo hi:Option Expr} {tl th:TO} {pos p2:Pos}
theorem po_none:PO X none tNoPart:=by
  intro pins s σ H Q I h
  rw [evalPart_none]
  exact wpAny_pure ⟨none,H,I,.none,h⟩
theorem po_some (h:PE X e te):PO X (some e) (tPart te):=by
  intro pins s σ H Q I hw
  rw [evalPart_some]
  refine thn (h pins s σ H _ I hw) fun u s1 ⟨x,H1,I1,r1,q1⟩=>?_
  obtain ⟨i,rfl,q⟩:=q1
  obtain ⟨t,rfl⟩:=r1
  exact ⟨some i,H1,I1,.int i t,q⟩
def SlR (X:Cx) (r:V→Option Int→Option Int→Hp→VK→Prop):Prop :=
  ∀ (pins:List (Addr×Obj)) (s:Shared) (σ:St) (H:Hp) (x:V) (v vl vu:Value) (lo hi:Option Int) (sl:Addr) (Q:VK),Inv X pins σ H s→RelV x v→s.heap.IsSliceOf sl vl vu .none→IsPart vl lo→IsPart vu hi→r x lo hi H Q→
    ∃ T id,typeLookup (.type T) "__getitem__"=pure (some (.builtin id))∧s.TypeIs v T∧wpAny (model X.prog X.w) X.A (getItem v (.ref sl)) (EP X pins σ Q) X.xe s
def tSl (r:V→Option Int→Option Int→Hp→VK→Prop) (te:TE) (tl th:TO):TE:=fun σ H Q=>te σ H fun x H1=>tl σ H1 fun l H2=>th σ H2 fun u H3=>r x l u H3 Q
theorem pe_slice {r:V→Option Int→Option Int→Hp→VK→Prop} (hr:SlR X r) (he:PE X e te) (hl:PO X lo tl) (hu:PO X hi th):PE X (.Subscript e (.Slice lo hi none p2) pos) (tSl r te tl th):=by
  intro pins s σ H Q I h
  refine Subscript_ (thn (he pins s σ H _ I h) fun v s1 ⟨x,H1,I1,r1,q1⟩=>?_)
  refine wpAny_Slice (thn (hl pins s1 σ H1 _ I1 q1) fun vl s2 ⟨l,H2,I2,pl,q2⟩=>thn (hu pins s2 σ H2 _ I2 q2) fun vu s3 ⟨u,H3,I3,pu,q3⟩=>?_)
  rw [evalPart_none]
  refine wpAny_pure ?_
  have I4:Inv X pins σ H3 { s3 with heap:=s3.heap.push { cls:=.type "slice",data:=.fields #[vl,vu,.none] } }:=I3.kept (t':=s3.toks) fun b ob q=>Heap.get?_push_of_some _ q
  obtain ⟨T,id,hT,ht,hg⟩:=hr pins { s3 with heap:=s3.heap.push { cls:=.type "slice",data:=.fields #[vl,vu,.none] } } σ H3 x v vl vu l u s3.heap.objs.size Q I4 r1 (Heap.IsSliceOf.new ..) pl pu q3
  show wpAny (model X.prog X.w) X.A (subscriptTail e (.Slice lo hi none p2) v (.ref s3.heap.objs.size)) (EP X pins σ Q) X.xe { s3 with heap:=s3.heap.push { cls:=.type "slice",data:=.fields #[vl,vu,.none] } }
  exact tail_any (ops:=[.ref s3.heap.objs.size,v]) ht hT hg (by with_unfolding_all rfl)
def cutV (xs:List V) (lo hi:Option Int):List V:=(xs.drop (HT.sIx xs.length 0 lo)).take (HT.sIx xs.length xs.length hi - HT.sIx xs.length 0 lo)
theorem cutV_length (xs:List V) (lo hi:Option Int):(cutV xs lo hi).length≤xs.length:=by
  unfold cutV
  rw [List.length_take,List.length_drop]
  omega
def rSlT (K:PySem.W.Frag):V→Option Int→Option Int→Hp→VK→Prop:=fun x lo hi H Q=>∃ a xs,x=.ref a∧SqT K H a xs∧
  ¬ (HT.sIx xs.length 0 lo=0∧HT.sIx xs.length xs.length hi=xs.length)∧∀ p,H p=none→Q (.ref p) (upd H p (.tup (cutV xs lo hi)))
def rLtT (K:PySem.W.Frag):R2:=fun x y H Q=>∃ a b ns ms,x=.ref a∧y=.ref b∧SqT K H a (ns.map V.int)∧SqT K H b (ms.map V.int)∧Q (.bl (HT.lexLt ns ms)) H
def rCatT (K:PySem.W.Frag):R2:=fun x y H Q=>∃ a b xs ys,x=.ref a∧y=.ref b∧SqT K H a xs∧SqT K H b ys∧xs≠[]∧xs.length+ys.length≤sizeLine∧
  (ys=[]→Q (.ref a) H)∧(ys≠[]→∀ p,H p=none→Q (.ref p) (upd H p (.tup (xs++ys))))
end
end L2
namespace L2
open PySem PySem.Spec PyProof.Rows
def ixN (n:Nat) (i:Int):Option Nat:=if 0≤i then (if i<n then some i.toNat else none) else if -(n:Int)≤i then some (i+n).toNat else none
def atI {α:Type} (xs:List α) (i:Int):Option α:=(ixN xs.length i).bind fun j=>xs[j]?
theorem ixN_seq {n:Nat} {i:Int} {j:Nat} (h:ixN n i=some j):seqIndex? i n=some j∧j<n∧-(n:Int)≤i∧i<n:=by
  unfold ixN at h
  by_cases h0:0≤i
  · rw [if_pos h0] at h
    by_cases h1:i<n
    · rw [if_pos h1] at h
      have e:i.toNat=j:=Option.some.inj h
      exact ⟨by rw [seqIndex_of h0 h1,e],by omega,by omega,h1⟩
    · rw [if_neg h1] at h; cases h
  · rw [if_neg h0] at h
    by_cases h1:-(n:Int)≤i
    · rw [if_pos h1] at h
      have e:(i+n).toNat=j:=Option.some.inj h
      exact ⟨by rw [seqIndex_neg (by omega) h1,e],by omega,h1,by omega⟩
    · rw [if_neg h1] at h; cases h
theorem atI_get {α:Type} {xs:List α} {i:Int} {v:α} (h:atI xs i=some v):∃ j,seqIndex? i xs.length=some j∧xs[j]?=some v∧j<xs.length∧-(xs.length:Int)≤i∧i<xs.length:=by
  unfold atI at h
  cases e:ixN xs.length i with
  | none=>rw [e] at h; cases h
  | some j =>
    rw [e] at h
    obtain ⟨h1,h2,h3,h4⟩:=ixN_seq e
    exact ⟨j,h1,h,h2,h3,h4⟩
theorem atI_nat {α:Type} {xs:List α} {j:Nat} {v:α} (h:xs[j]?=some v):atI xs (j:Int)=some v:=by
  have hj:j<xs.length:=(List.getElem?_eq_some_iff.mp h).1
  have e:ixN xs.length (j:Int)=some j:=by
    unfold ixN
    rw [if_pos (by omega),if_pos (by omega)]; simp
  unfold atI; rw [e]; exact h
theorem atI_last {α:Type} (xs:List α) (v:α):atI (xs++[v]) (-1)=some v:=by
  have hl:(xs++[v]).length=xs.length+1:=by simp
  have e:ixN (xs++[v]).length (-1)=some xs.length:=by
    unfold ixN
    rw [hl,if_neg (by decide),if_pos (by omega)]
    congr 1
    omega
  unfold atI
  rw [e]
  show (xs++[v])[xs.length]?=some v
  simp
def PlainIx (b:Expr):Prop:=∀ o i,subscripted b false o i=operate [o,i] (getItem o i)
def IxR (X:Cx) (r:R2):Prop :=
  ∀ (value slice:Expr) (pins:List (Addr×Obj)) (s:Shared) (σ:St) (H:Hp) (x y:V) (v u:Value) (Q:VK),Inv X pins σ H s→RelV x v→RelV y u→r x y H Q→
    subscripted slice false v u=operate [v,u] (getItem v u)→wpAny (model X.prog X.w) X.A (subscriptTail value slice v u) (EP X pins σ Q) X.xe s
def MtR (X:Cx) (id:String) (r:V→List V→Hp→VK→Prop):Prop :=
  ∀ (pins:List (Addr×Obj)) (s:Shared) (σ:St) (H:Hp) (x:V) (xs:List V) (v:Value) (us:List Value) (Q:VK),Inv X pins σ H s→RelV x v→Vals xs us→r x xs H Q→
    wpAny (model X.prog X.w) X.A (call (.builtin id) (v::us)) (EP X pins σ Q) X.xe s
section
variable {X:Cx} {a b:Expr} {ta tb:TE} {pos:Pos}
theorem pe_ix {r:R2} (hr:IxR X r) (ha:PE X a ta) (hb:PE X b tb) (hs:PlainIx b):PE X (.Subscript a b pos) (tOp r ta tb):=by
  intro pins s σ H Q I h
  exact Subscript_ (binT ha hb I h fun v u s2 x y H2 I2 rx ry q=>hr a b pins s2 σ H2 x y v u Q I2 rx ry q (hs _ _))
def rIxL (K:PySem.W.Frag):R2:=fun x y H Q=>∃ p xs i v,x=.ref p∧y=.int i∧SqL K H p xs∧atI xs i=some v∧Q v H
def rIxT (K:PySem.W.Frag):R2:=fun x y H Q=>∃ p xs i v,x=.ref p∧y=.int i∧SqT K H p xs∧atI xs i=some v∧Q v H
def rIxS:R2:=fun x y H Q=>∃ z i c,x=.str z∧y=.int i∧z.length≤sizeLine∧atI z.cps.toList i=some c∧Q (.str ⟨#[c]⟩) H
theorem ix_list:IxR X (rIxL X.K):=by
  intro value slice pins s σ H x y v u Q I rx ry h hs
  obtain ⟨p,xs,i,z,rfl,rfl,hq,he,q⟩:=h
  cases rx
  obtain ⟨t,rfl⟩:=ry
  obtain ⟨its,r,pl,hz⟩:=I.list hq
  obtain ⟨j,h1,h2,h3,h4,h5⟩:=atI_get he
  obtain ⟨w,ew,rw'⟩:=r.get h2
  have hl:=r.length
  have hn:=line63
  have fin:EP X pins σ Q w s:=⟨z,H,I,rw',q⟩
  by_cases h0:0≤i
  · have hj:i.toNat=j:=by
      rw [seqIndex_of h0 h5] at h1
      exact Option.some.inj h1
    exact item_listR pl.isList h0 (by omega) (by rw [hj]; simpa using ew) fin hs
  · have hj:(i+(its.toArray.size:Int)).toNat=j:=by
      rw [seqIndex_neg (by omega) h4] at h1
      rw [List.size_toArray,← hl]
      exact Option.some.inj h1
    exact subscriptTail_builtinR (x:=w) pl.isList.typeIs slot_list_getitem.lookup
      (wpAny_getItem_list_neg (Q:=fun r s'=>r=w∧EP X pins σ Q r s') pl.isList (by omega) (by rw [List.size_toArray] <;> omega) (by omega) (by rw [hj]; simpa using ew) ⟨rfl,fin⟩) hs
theorem ix_tup:IxR X (rIxT X.K):=by
  intro value slice pins s σ H x y v u Q I rx ry h hs
  obtain ⟨p,xs,i,z,rfl,rfl,hq,he,q⟩:=h
  cases rx
  obtain ⟨t,rfl⟩:=ry
  obtain ⟨its,r,pl,hz⟩:=I.tuple hq
  obtain ⟨j,h1,h2,h3,h4,h5⟩:=atI_get he
  obtain ⟨w,ew,rw'⟩:=r.get h2
  have hl:=r.length
  have hn:=line63
  have fin:EP X pins σ Q w s:=⟨z,H,I,rw',q⟩
  exact subscriptTail_builtinR (x:=w) pl.typeIs slot_tuple_getitem.lookup
    (getItem_tuple (j:=j) (Q:=fun r s'=>r=w∧EP X pins σ Q r s') pl (by omega) (by omega) (by rw [List.size_toArray,← hl]; exact h1) (by simpa using ew) ⟨rfl,fin⟩) hs
theorem ix_str:IxR X rIxS:=by
  intro value slice pins s σ H x y v u Q I rx ry h hs
  obtain ⟨z,i,c,rfl,rfl,hz,he,q⟩:=h
  obtain ⟨t,rfl⟩:=rx
  obtain ⟨t',rfl⟩:=ry
  obtain ⟨j,h1,h2,h3,h4,h5⟩:=atI_get he
  have hl:z.cps.toList.length=z.length:=by simp [Str.length]
  rw [hl] at h1 h4 h5
  have hn:=line63
  exact tail_any (typeIs_str s z t) slot_str_getitem.lookup (getItem_str (c:=c) (by
    have e1:decide (i < -(2 ^ 63:Int))=false:=decide_eq_false (by omega)
    have e2:decide (i ≥ 2 ^ 63)=false:=decide_eq_false (by omega)
    rw [e1,e2,Bool.or_false]) (by rw [h1]; simpa using h2) ⟨.str ⟨#[c]⟩,H,I.tok _,⟨_,rfl⟩,q⟩) hs
def rIx (K:PySem.W.Frag):R2:=fun x y H Q=>rIxL K x y H Q∨rIxT K x y H Q∨rIxS x y H Q
theorem mapSeq_set (its:List Value) (n j:Nat) (u:Value):Obj.mapSeq (·.setIfInBounds j u) { cls:=.type "list",data:=.seq its.toArray n }={ cls:=.type "list",data:=.seq (its.set j u).toArray n }:=by
  simp [Obj.mapSeq]
theorem Inv.lst {pins:List (Addr×Obj)} {σ:St} {H:Hp} {s:Shared} {p:Addr} {xs:List V} (I:Inv X pins σ H s) (h:H p=some (.lst xs)) :
    ∃ (its:List Value) (n:Nat),Vals xs its∧s.heap.get? p=some { cls:=.type "list",data:=.seq its.toArray n }∧xs.length≤sizeLine:=by
  obtain ⟨z,its,n,r,e⟩:=I.hok p _ h
  exact ⟨its,n,r,e,z⟩
theorem Inv.lstUpd {pins:List (Addr×Obj)} {σ:St} {H:Hp} {s:Shared} {p:Addr} {xs ys:List V} {its its':List Value} {n n':Nat} {f:Obj→Obj} (I:Inv X pins σ H s) (h:H p=some (.lst xs))
    (ho:s.heap.get? p=some { cls:=.type "list",data:=.seq its.toArray n }) (hf:f { cls:=.type "list",data:=.seq its.toArray n }={ cls:=.type "list",data:=.seq its'.toArray n' }) (r:Vals ys its') (hz:ys.length≤sizeLine) (t:Nat) :
    Inv X pins σ (upd H p (.lst ys)) { s with heap:=s.heap.update p f,toks:=t }:=by
  have e:(s.heap.update p f).get? p=some { cls:=.type "list",data:=.seq its'.toArray n' }:=by
    rw [Heap.get?_update_self f ho (by rw [hf] <;> rfl),hf]
  refine I.write (x:=p) (e:=p) (by rw [h]; trivial) (.inl rfl) (fun b u hb q=>(Heap.get?_update_other _ _ (Ne.symm hb)).trans q) ⟨_,e⟩ ?_
  exact ⟨hz,its',n',r,e⟩
def rSetL:V→V→V→Hp→(Hp→Prop)→Prop:=fun o i v H Q=>∃ p xs k j,o=.ref p∧i=.int k∧H p=some (.lst xs)∧ixN xs.length k=some j∧Q (upd H p (.lst (xs.set j v)))
theorem set_list:PSet X rSetL:=by
  intro pins s σ H o i v ov iv u Q I ro ri rv h
  obtain ⟨p,xs,k,j,rfl,rfl,hp,hj,q⟩:=h
  cases ro
  obtain ⟨t,rfl⟩:=ri
  obtain ⟨its,n,r,ho,hz⟩:=I.lst hp
  obtain ⟨h1,h2,h3,h4⟩:=ixN_seq hj
  have hl:=r.length
  have hn:=line63
  have I':Inv X pins σ (upd H p (.lst (xs.set j v))) { s with heap:=s.heap.update p (Obj.mapSeq (·.setIfInBounds j u)) } :=
    I.lstUpd hp ho (mapSeq_set its n j u) (r.set rv j) (by rw [List.length_set]; exact hz) s.toks
  by_cases h0:0≤k
  · have hk:k.toNat=j:=by
      rw [seqIndex_of h0 h4] at h1
      exact Option.some.inj h1
    exact PySem.W.ki_setAt ho h0 (by omega) (by rw [List.size_toArray,← hl]; exact h4) (by rw [hk]; exact ⟨_,I',q⟩)
  · have hk:(k+(its.toArray.size:Int)).toNat=j:=by
      rw [seqIndex_neg (by omega) h3] at h1
      rw [List.size_toArray,← hl]
      exact Option.some.inj h1
    exact PySem.W.ki_setBack ho (by omega) (by rw [List.size_toArray,← hl]; exact h3) (by omega) (by rw [hk]; exact ⟨_,I',q⟩)
theorem slice_bounds (lo hi:Option Int) (n:Nat):(sliceBounds lo hi none n).1=((HT.sIx n 0 lo:Nat):Int)∧(sliceBounds lo hi none n).2.1=((HT.sIx n n hi:Nat):Int)∧(sliceBounds lo hi none n).2.2=1:=by
  refine ⟨?_,?_,rfl⟩
  · cases lo with
    | none=>simp [sliceBounds,HT.sIx]
    | some i =>
      simp only [sliceBounds,HT.sIx,Option.getD_none,show (1:Int) > 0 by decide,if_true]
      by_cases h:i<0
      · simp only [h,if_true] <;> omega
      · simp only [h,if_false] <;> omega
  · cases hi with
    | none=>simp [sliceBounds,HT.sIx]
    | some i =>
      simp only [sliceBounds,HT.sIx,Option.getD_none,show (1:Int) > 0 by decide,if_true]
      by_cases h:i<0
      · simp only [h,if_true] <;> omega
      · simp only [h,if_false] <;> omega
theorem slicePick_cut (its:List Value) (lo hi:Option Int):slicePick its.toArray lo hi none=((its.drop (HT.sIx its.length 0 lo)).take (HT.sIx its.length its.length hi - HT.sIx its.length 0 lo)).toArray:=by
  obtain ⟨h1,h2,h3⟩:=slice_bounds lo hi its.toArray.size
  unfold slicePick
  rw [h1,h2,h3]
  simp only [sliceRange_one,pick_run,List.size_toArray] <;> rfl
def rSlL (K:PySem.W.Frag):V→Option Int→Option Int→Hp→VK→Prop:=fun x lo hi H Q=>∃ a xs,x=.ref a∧SqL K H a xs∧∀ p,H p=none→Q (.ref p) (upd H p (.lst (cutV xs lo hi)))
theorem sl_list:SlR X (rSlL X.K):=by
  intro pins s σ H x v vl vu lo hi sl Q I rx hs pl pu h
  obtain ⟨a,xs,rfl,hx,q⟩:=h
  cases rx
  obtain ⟨its,r,ht,hz⟩:=I.list hx
  have hlen:=r.length
  refine ⟨"list",_,slot_list_getitem.lookup,ht.isList.typeIs,?_⟩
  refine wpAny_getItem_list_slice ht.isList hs pl pu .none (by simp) ?_ (by rw [List.size_toArray] <;> omega)
  rw [slicePick_cut,← hlen]
  refine ⟨.ref s.heap.objs.size,_,I.laid (t':=s.toks) (o:=.lst (cutV xs lo hi)) (fun b ob q=>Heap.get?_push_of_some _ q) (Nat.le_refl _) ?_,rfl,q _ (I.hok.fresh (Nat.le_refl _))⟩
  exact ⟨Nat.le_trans (cutV_length xs lo hi) hz,_,0,(r.drop (HT.sIx xs.length 0 lo)).take (HT.sIx xs.length xs.length hi - HT.sIx xs.length 0 lo),Heap.get?_push_size _ rfl⟩
def flatV:V→Bool
  | .non=>true
  | .bl _=>true
  | .int _=>true
  | .str _=>true
  | _=>false
def eqV:V→V→Bool
  | .non,.non=>true
  | .bl a,.bl b=>a == b
  | .bl a,.int b=>(if a then 1 else 0) == b
  | .int a,.bl b=>a == (if b then 1 else 0)
  | .int a,.int b=>a == b
  | .str a,.str b=>a == b
  | _,_=>false
theorem eqAt_V {A:Around} {s:Shared} {y x:V} {u v:Value} (ry:RelV y u) (rx:RelV x v) (fy:flatV y=true) (fx:flatV x=true):SeqAt.EqAt A s u v (eqV y x):=by
  cases y with
  | non =>
    cases ry
    cases x with
    | non=>cases rx; exact SeqAt.EqAt.same _
    | bl b=>cases rx; exact SeqAt.EqAt.none_bool b
    | int b=>obtain ⟨t,rfl⟩:=rx; exact SeqAt.EqAt.none_int b t
    | str b=>obtain ⟨t,rfl⟩:=rx; exact SeqAt.EqAt.none_str b t
    | _=>exact absurd (show false=true from fx) Bool.false_ne_true
  | bl a =>
    cases ry
    cases x with
    | non=>cases rx; exact SeqAt.EqAt.bool_none a
    | bl b=>cases rx; exact SeqAt.EqAt.bool_bool a b
    | int b=>obtain ⟨t,rfl⟩:=rx; exact SeqAt.EqAt.bool_int a b t
    | str b=>obtain ⟨t,rfl⟩:=rx; exact SeqAt.EqAt.bool_str a b t
    | _=>exact absurd (show false=true from fx) Bool.false_ne_true
  | int a =>
    obtain ⟨t',rfl⟩:=ry
    cases x with
    | non=>cases rx; exact SeqAt.EqAt.int_none a t'
    | bl b=>cases rx; exact SeqAt.EqAt.int_bool a t' b
    | int b=>obtain ⟨t,rfl⟩:=rx; exact SeqAt.EqAt.int_int a t' b t
    | str b=>obtain ⟨t,rfl⟩:=rx; exact SeqAt.EqAt.int_str a t' b t
    | _=>exact absurd (show false=true from fx) Bool.false_ne_true
  | str a =>
    obtain ⟨t',rfl⟩:=ry
    cases x with
    | non=>cases rx; exact SeqAt.EqAt.str_none a t'
    | bl b=>cases rx; exact SeqAt.EqAt.str_bool a t' b
    | int b=>obtain ⟨t,rfl⟩:=rx; exact SeqAt.EqAt.str_int a t' b t
    | str b=>obtain ⟨t,rfl⟩:=rx; exact SeqAt.EqAt.str_str a t' b t
    | _=>exact absurd (show false=true from fx) Bool.false_ne_true
  | _=>exact absurd (show false=true from fy) Bool.false_ne_true
def eqU (x:V) (u:Value):Bool:=match u with
  | .none=>eqV .non x
  | .bool b=>eqV (.bl b) x
  | .int i _=>eqV (.int i) x
  | .str z _=>eqV (.str z) x
  | _=>false
theorem eqU_of {x y:V} {u:Value} (r:RelV y u) (f:flatV y=true):eqU x u=eqV y x:=by
  cases y with
  | non=>cases r; rfl
  | bl b=>cases r; rfl
  | int i=>obtain ⟨t,rfl⟩:=r; rfl
  | str z=>obtain ⟨t,rfl⟩:=r; rfl
  | _=>exact absurd (show false=true from f) Bool.false_ne_true
theorem any_eqU {x:V}:∀ {xs:List V} {us:List Value},Vals xs us→xs.all flatV=true→us.any (eqU x)=xs.any fun y=>eqV y x
  | _,_,.nil,_=>rfl
  | y::xs,u::us,.cons r t,f=>by
    rw [List.all_cons,Bool.and_eq_true] at f
    rw [List.any_cons,List.any_cons,eqU_of r f.1,any_eqU t f.2]
theorem mem_eqAt {A:Around} {s:Shared} {x:V} {v:Value} (rx:RelV x v) (fx:flatV x=true):∀ {xs:List V} {us:List Value},Vals xs us→xs.all flatV=true→∀ u∈us,SeqAt.EqAt A s u v (eqU x u)
  | _,_,.nil,_=>fun u hu=>by cases hu
  | y::xs,u::us,.cons r t,f=>fun u' hu=>by
    rw [List.all_cons,Bool.and_eq_true] at f
    rcases List.mem_cons.mp hu with rfl | hu
    · rw [eqU_of r f.1]; exact eqAt_V r rx f.1 fx
    · exact mem_eqAt rx fx t f.2 u' hu
def inV (x:V) (xs:List V):Bool:=xs.any fun y=>eqV y x
def rIn (K:PySem.W.Frag) (neg:Bool):R2:=fun x y H Q=>∃ p xs,y=.ref p∧(SqL K H p xs∨SqT K H p xs)∧flatV x=true∧xs.all flatV=true∧Q (.bl (if neg then !inV x xs else inV x xs)) H
theorem op_in_seq:OpR X (compareOp .In) (rIn X.K false):=by
  intro pins s σ H x y v u Q I rx ry h
  obtain ⟨p,xs,rfl,hq,fx,fs,q⟩:=h
  cases ry
  rcases hq with hq | hq
  · obtain ⟨its,r,pl,hz⟩:=I.list hq
    refine SeqAt.in_listAt (eqU x) pl.isList (fun w hw=>mem_eqAt rx fx r fs w (by simpa using hw)) ⟨.bl _,H,I,rfl,?_⟩
    rw [show its.toArray.any (eqU x)=its.any (eqU x) by simp,any_eqU r fs]
    exact q
  · obtain ⟨its,r,pl,hz⟩:=I.tuple hq
    refine SeqAt.in_tupleAt (eqU x) pl (fun w hw=>mem_eqAt rx fx r fs w (by simpa using hw)) ⟨.bl _,H,I,rfl,?_⟩
    rw [show its.toArray.any (eqU x)=its.any (eqU x) by simp,any_eqU r fs]
    exact q
theorem op_notIn_seq:OpR X (compareOp .NotIn) (rIn X.K true):=by
  intro pins s σ H x y v u Q I rx ry h
  obtain ⟨p,xs,rfl,hq,fx,fs,q⟩:=h
  cases ry
  rcases hq with hq | hq
  · obtain ⟨its,r,pl,hz⟩:=I.list hq
    refine SeqAt.notIn_listAt (eqU x) pl.isList (fun w hw=>mem_eqAt rx fx r fs w (by simpa using hw)) ⟨.bl _,H,I,rfl,?_⟩
    rw [show its.toArray.any (eqU x)=its.any (eqU x) by simp,any_eqU r fs]
    exact q
  · obtain ⟨its,r,pl,hz⟩:=I.tuple hq
    refine SeqAt.notIn_tupleAt (eqU x) pl (fun w hw=>mem_eqAt rx fx r fs w (by simpa using hw)) ⟨.bl _,H,I,rfl,?_⟩
    rw [show its.toArray.any (eqU x)=its.any (eqU x) by simp,any_eqU r fs]
    exact q
theorem call_len_seq:CallR X (.builtin "len") (fun xs H Q=>∃ p ys,xs=[.ref p]∧(SqL X.K H p ys∨SqT X.K H p ys)∧Q (.int ys.length) H):=by
  intro pins s σ H xs us Q I r h
  obtain ⟨p,ys,rfl,hq,q⟩:=h
  obtain ⟨u,rfl,rx⟩:=vals1 r
  cases rx
  have hn:=line63
  rcases hq with hq | hq
  · obtain ⟨its,r',pl,hz⟩:=I.list hq
    have hlen:=r'.length
    exact Calls.call_len_list pl.isList (by simp only [List.size_toArray] <;> omega) ⟨.int ys.length,H,I.tok _,⟨s.toks+1,by rw [List.size_toArray,hlen]⟩,q⟩
  · obtain ⟨its,r',pl,hz⟩:=I.tuple hq
    have hlen:=r'.length
    exact len_tuple pl (by simp only [List.size_toArray] <;> omega) ⟨.int ys.length,H,I.tok _,⟨s.toks+1,by rw [List.size_toArray,hlen]⟩,q⟩
theorem call_len_str:CallR X (.builtin "len") (fun xs H Q=>∃ z,xs=[.str z]∧z.length≤sizeLine∧Q (.int z.length) H):=by
  intro pins s σ H xs us Q I r h
  obtain ⟨z,rfl,hz,q⟩:=h
  obtain ⟨u,rfl,t,rfl⟩:=vals1 r
  have hn:=line63
  exact len_str (by omega) ⟨.int z.length,H,I.tok _,⟨_,rfl⟩,q⟩
theorem call_tuple_of:CallR X (.type "tuple") (fun xs H Q=>∃ p ys,xs=[.ref p]∧((SqL X.K H p ys∧∀ l,H l=none→Q (.ref l) (upd H l (.tup ys)))∨(SqT X.K H p ys∧Q (.ref p) H))):=by
  intro pins s σ H xs us Q I r h
  obtain ⟨p,ys,rfl,h⟩:=h
  obtain ⟨u,rfl,rx⟩:=vals1 r
  cases rx
  rcases h with ⟨hq,q⟩ | ⟨hq,q⟩
  · obtain ⟨its,r',pl,hz⟩:=I.list hq
    have hlen:=r'.length
    refine call_tuple_list pl.isList (fun h' kp=>?_) (by simp only [List.size_toArray] <;> omega)
    have I1:Inv X pins σ H { s with heap:=h' }:=I.kept (t':=s.toks) kp
    have I2:Inv X pins σ (upd H h'.objs.size (.tup ys)) { s with heap:=h'.push { cls:=.type "tuple",data:=.seq its.toArray } } :=
      I1.laid (t':=s.toks) (fun b o e=>Heap.get?_push_of_some _ e) (Nat.le_refl _) (show ObjOk X.prog X.w _ _ _ (.tup ys) from ⟨hz,its,r',IsTup.new _ _⟩)
    exact ⟨.ref h'.objs.size,_,I2,rfl,q _ (I1.hok.fresh (Nat.le_refl _))⟩
  · obtain ⟨its,r',pl,hz⟩:=I.tuple hq
    exact call_tuple_same pl ⟨.ref p,H,I,rfl,q⟩
def tyV (K:PySem.W.Frag) (T:String) (x:V) (H:Hp):Prop:=match x with
  | .str _=>T="str"
  | .int _=>T="int"
  | .ref p=>(T="list"∧∃ xs,SqL K H p xs)∨(T="tuple"∧∃ o,K.lookup p=some o∧o.cls=.type "tuple"∧o.dict=none)∨
      (T="dict"∧((∃ kvs,H p=some (.dK kvs))∨∃ kvs,H p=some (.dT kvs)))∨(T="set"∧∃ S n,H p=some (.set S n))
  | _=>False
theorem tyV_is {pins:List (Addr×Obj)} {σ:St} {H:Hp} {s:Shared} {T:String} {x:V} {v:Value} (I:Inv X pins σ H s) (r:RelV x v) (ty:tyV X.K T x H) :
    s.TypeIs v T∧∀ a,v=.ref a→∃ ob,s.heap.get? a=some ob∧ob.dict=none:=by
  cases x with
  | str z =>
    obtain ⟨t,rfl⟩:=r
    cases (show T="str" from ty)
    exact ⟨typeIs_str s z t,fun _ e=>nomatch e⟩
  | int i =>
    obtain ⟨t,rfl⟩:=r
    cases (show T="int" from ty)
    exact ⟨typeIs_int s i t,fun _ e=>nomatch e⟩
  | ref p =>
    cases r
    rcases ty with ⟨rfl,xs,hq⟩ | ⟨rfl,o,hk,hc,hd⟩ | ⟨rfl,hk⟩ | ⟨rfl,S,n,hk⟩
    · obtain ⟨its,_,pl,_⟩:=I.list hq
      refine ⟨pl.isList.typeIs,fun a e=>?_⟩
      cases e
      obtain ⟨o,n,e,c,hd,_⟩:=pl
      exact ⟨o,e,hd⟩
    · refine ⟨⟨o,I.kIn p o hk,hc⟩,fun a e=>?_⟩
      cases e
      exact ⟨o,I.kIn _ o hk,hd⟩
    · have z:∃ o,s.heap.get? p=some o∧o.ExactDict:=by
        rcases hk with ⟨kvs,hk⟩ | ⟨kvs,hk⟩
        · obtain ⟨_,_,_,_,o,_,_,e,ex,_⟩:=I.hok p _ hk
          exact ⟨o,e,ex⟩
        · obtain ⟨_,_,_,_,o,_,_,e,ex,_⟩:=I.hok p _ hk
          exact ⟨o,e,ex⟩
      obtain ⟨o,e,ex⟩:=z
      refine ⟨⟨o,e,ex.1⟩,fun a e2=>?_⟩
      cases e2
      exact ⟨o,e,ex.2.1⟩
    · obtain ⟨o,_,_,_,e,ex,_⟩:=I.hok p _ hk
      refine ⟨⟨o,e,ex.1⟩,fun a e2=>?_⟩
      cases e2
      exact ⟨o,e,ex.2.1⟩
  | _=>exact False.elim ty
def tBM0 (K:PySem.W.Frag) (T:String) (r:V→List V→Hp→VK→Prop) (to:TE):TE:=fun σ H Q=>to σ H fun x H1=>tyV K T x H1∧r x [] H1 Q
def tBM (K:PySem.W.Frag) (T:String) (r:V→List V→Hp→VK→Prop) (to:TE) (t:TA):TE:=fun σ H Q=>to σ H fun x H1=>tyV K T x H1∧t σ H1 fun xs H2=>r x xs H2 Q
variable {o e:Expr} {es:List Expr} {to:TE} {t:TA} {name:Str} {apos cpos:Pos} {T id:String} {r:V→List V→Hp→VK→Prop}
theorem pe_bm (pa:PlainAttrs T) (slot:Slot T name id) (hty:typeOf (.builtin id)=pure (.type "method_descriptor")) (hm:MtR X id r) (ho:PE X o to) (ha:PA X (e::es) t)
    (hbase:attributeBase o name X.env (eval o X.env)=eval o X.env:=by rfl)
    (hfew:((backTo cpos (starEach (e::es) X.env)).all (fun x=>!x.1) && (backToKw cpos (keywordEach [] X.env)).all (fun x=>x.1.isSome)
      && decide ((e::es).length+([]:List Keyword).length+(if ([]:List Keyword).isEmpty then 0 else 1)<30))=true:=by rfl)
    (hline:(apos.endLine == cpos.line)=true:=by rfl) (hs:starEach (e::es) X.env=(false,eval e X.env)::starEach es X.env:=by rfl) (hplain:(backTo cpos (starEach es X.env)).any (·.1)=false:=by rfl) :
    PE X (.Call (.Attribute o name apos) (e::es) [] cpos) (tBM X.K T r to t):=by
  intro pins s σ H Q I h
  refine wpAny_Call_method_late hbase hfew hline rfl (thn (ho pins s σ H _ I h) fun v s1 ⟨x,H1,I1,r1,ty,q1⟩=>?_)
  obtain ⟨h1,h2⟩:=tyV_is I1 r1 ty
  refine ⟨T,id,pa,slot,hty,h1,h2,?_⟩
  have hA:=ha cpos pins s1 σ H1 _ I1 q1
  rw [hs] at hA ⊢
  refine Calls.callWith_builtin (by show (false || (backTo cpos (starEach es X.env)).any (·.1))=false; rw [hplain] <;> rfl) (Calls.evalArgs_plain ?_)
  exact thn hA fun us s2 ⟨vs,H2,I2,r2,q2⟩=>hm pins s2 σ H2 x vs v us Q I2 r1 r2 q2
end
end L2
namespace L2
open PySem PySem.Spec PyProof.Rows
def MtM (X:Cx) (id:String) (r:V→List V→Hp→VK→Prop):Prop :=
  ∀ (pins:List (Addr×Obj)) (s:Shared) (σ:St) (H:Hp) (x:V) (xs:List V) (v:Value) (us:List Value) (Q:VK),Inv X pins σ H s→RelV x v→Vals xs us→r x xs H Q→
    wpAny (model X.prog X.w) X.A (call (.builtin id) (v::us)) (EP X pins σ Q) X.xe s
theorem Vals.one:∀ {x:V} {us:List Value},Vals [x] us→∃ u,us=[u]∧RelV x u
  | _,_,.cons r .nil=>⟨_,rfl,r⟩
section
variable {X:Cx} {pins:List (Addr×Obj)} {σ:St} {H:Hp} {s:Shared} {l b:Addr} {xs ys zs:List V}
theorem Inv.lset {its its':List Value} {n:Nat} {f:Array Value→Array Value} {t':Nat} (I:Inv X pins σ H s) (hH:H l=some (.lst xs))
    (e:s.heap.get? l=some { cls:=.type "list",data:=.seq its.toArray n }) (hf:f its.toArray=its'.toArray) (hv:Vals ys its') (hz:ys.length≤sizeLine) :
    Inv X pins σ (upd H l (.lst ys)) { s with heap:=s.heap.update l (Obj.mapSeq f),toks:=t' }:=by
  have q:=PySem.IsL.update e f
  rw [hf] at q
  refine I.write (x:=l) (e:=l) (by rw [hH]; exact trivial) (.inl rfl) (fun b' u hb hu=>(Heap.get?_update_other s.heap (Obj.mapSeq f) (Ne.symm hb)).trans hu) ⟨_,q⟩ ?_
  exact ⟨hz,its',_,hv,q⟩
theorem Inv.lstM (I:Inv X pins σ H s) (hH:H l=some (.lst xs)):xs.length≤sizeLine∧∃ (its:List Value) (n:Nat),Vals xs its∧xs.length=its.length∧s.heap.get? l=some { cls:=.type "list",data:=.seq its.toArray n }:=by
  obtain ⟨z,its,n,r,e⟩:=I.hok l _ hH
  exact ⟨z,its,n,r,r.length,e⟩
theorem notLongL {n:Nat} (h:n≤sizeLine):Builtin.List.listTooLong n=false:=by
  unfold Builtin.List.listTooLong
  exact decide_eq_false (by omega)
end
section
variable {X:Cx}
def rAppend:V→List V→Hp→VK→Prop:=fun x vs H Q=>∃ l xs y,x=.ref l∧vs=[y]∧H l=some (.lst xs)∧xs.length<sizeLine∧Q .non (upd H l (.lst (xs++[y])))
theorem mt_append:MtM X "list.append" rAppend:=by
  intro pins s σ H x vs v us Q I rx rv h
  obtain ⟨l,xs,y,rfl,rfl,hH,hz,q⟩:=h
  cases rx
  obtain ⟨u,rfl,ru⟩:=rv.one
  obtain ⟨z,its,n,r,hl,e⟩:=I.lstM hH
  refine call_meets F.slot_list_append ⟨_,e,rfl⟩ F.entry_list_append (F.args_list_append_2 _ _) (PySem.list_append l its.toArray n u (by rw [List.size_toArray]; omega)) ⟨e,?_⟩
  refine ⟨.non,_,I.lset (its':=its++[u]) hH e (by simp) (r.append (.cons ru .nil)) ?_,rfl,q⟩
  rw [List.length_append,List.length_singleton]
  omega
def rExtend:V→List V→Hp→VK→Prop:=fun x vs H Q=>∃ l b xs zs,x=.ref l∧vs=[.ref b]∧H l=some (.lst xs)∧H b=some (.lst zs)∧xs.length+zs.length≤sizeLine∧Q .non (upd H l (.lst (xs++zs)))
def rPop:V→List V→Hp→VK→Prop:=fun x vs H Q=>∃ l xs y,x=.ref l∧vs=[]∧H l=some (.lst xs)∧xs[xs.length - 1]?=some y∧Q y (upd H l (.lst xs.dropLast))
def rPopAt:V→List V→Hp→VK→Prop:=fun x vs H Q=>∃ l xs i k y,x=.ref l∧vs=[.int i]∧H l=some (.lst xs)∧-(2 ^ 63)≤i∧i<2 ^ 63∧seqIndex? i xs.length=some k∧xs[k]?=some y∧Q y (upd H l (.lst (xs.eraseIdx k)))
def rReverse:V→List V→Hp→VK→Prop:=fun x vs H Q=>∃ l xs,x=.ref l∧vs=[]∧H l=some (.lst xs)∧Q .non (upd H l (.lst xs.reverse))
def rClear:V→List V→Hp→VK→Prop:=fun x vs H Q=>∃ l xs,x=.ref l∧vs=[]∧H l=some (.lst xs)∧Q .non (upd H l (.lst []))
def rCat:R2:=fun x y H Q=>∃ l b xs zs,x=.ref l∧y=.ref b∧H l=some (.lst xs)∧H b=some (.lst zs)∧xs.length+zs.length≤sizeLine∧∀ p,H p=none→Q (.ref p) (upd H p (.lst (xs++zs)))
def rRep:R2:=fun x y H Q=>∃ l k xs,x=.ref l∧y=.int k∧H l=some (.lst xs)∧-(2 ^ 63)≤k∧k<2 ^ 63∧xs.length * k.toNat≤sizeLine∧
  ∀ p,H p=none→Q (.ref p) (upd H p (.lst (List.replicate k.toNat xs).flatten))
end
section
variable {prog:Program} {w:World} {A:Around} {E:Value→Shared→Prop} {s:Shared}
end
section
variable {X:Cx}
end
end L2
namespace Att
open PySem PySem.W PySem.Calls PyProof.Rows
theorem ints_of_wellAll {P:Params} {h:Heap}:∀ (ns:List Int) (vs:List Value),WellAll P h vs (ns.map WData.int)→IntsAre vs ns:=by
  intro ns
  induction ns with
  | nil =>
    intro vs w
    rw [List.map_nil] at w
    cases w
    exact .nil
  | cons n ns ih =>
    intro vs w
    rw [List.map_cons] at w
    cases w with
    | cons a b =>
      cases a
      exact .cons _ _ (ih _ b)
theorem script_of {l:OpenLaw} {n:Nat} (hn:l.most=some n) {P:Params} {h:Heap} {args:List WData} {vals:List Value}
    (hpre:l.row.toRowW.claim.pre args=true) (hwl:WellAll P h vals args) :
    ∃ a vs ns,vals=[Value.ref a]∧args=[WData.list (ns.map WData.int)]∧h.get? a=some { cls:=.type "list",data:=.seq vs.toArray }∧IntsAre vs ns∧ns.length≤n:=by
  have hsh:WShape.hasAll [] args [.list .int]=true:=(pre_splitW hpre).1
  have hc:l.pre.holds [] { args:=args }=true:=(pre_splitW hpre).2
  obtain ⟨d,r,rfl,h1,h2⟩:=hasAllW_cons hsh
  obtain rfl:=hasAllW_nil h2
  obtain ⟨xs,rfl,h3⟩:=hasW_list h1
  obtain ⟨ns,rfl⟩:=items_int h3
  have hlen:ns.length≤n:=by
    unfold OpenLaw.pre at hc
    have h4:(WTm.not (.lt (.lit (.int (n:Int))) (.len (.arg 0)))).holds [] { args:=[.list (ns.map .int)] }=true:=by
      have h4:=(holds_andW hc).1
      rw [hn] at h4
      exact h4
    have h5:=condW_of h4 (w_not (w_lt w_lit (w_len_list (w_arg rfl))))
    rw [List.length_map] at h5
    refine Nat.le_of_not_lt fun q=>?_
    have q':(n:Int)<((ns.length:Nat):Int):=by omega
    first
      | (rw [decide_eq_true q'] at h5; exact absurd h5 (by decide))
      | (simp at h5; omega)
  cases hwl with
  | cons w1 w2 =>
    cases w2
    cases w1 with
    | list ho hall=>exact ⟨_,_,ns,rfl,rfl,ho,ints_of_wellAll ns _ hall,hlen⟩
theorem post_true (l:OpenLaw) (args:List WData):l.row.toRowW.claim.post args (.bool true) args=true :=
  postW_of (r:=l.row.toRowW) (X:=(true == true))
    (show WShape.has [] (.bool true) .bool=true by first | rfl | decide | simp [WShape.has,WShape.arms,WShape.armsAll])
    (show (WTm.eq .res (.lit (.bool true))).value [] { args:=args,res:=some (.bool true),after:=args }=some (.bool (true == true)) from w_eq_bool (w_res rfl) w_lit) rfl
theorem attach_call {l:OpenLaw} {n:Nat} {q:Program} {loose:List Str} {XP:(Str→Option Value)→Heap→Prop} {YP:World→Heap→Prop} {d:DefRec}
    (hn:l.most=some n) (hdf:d.params.defaults=[])
    (call:∀ (w:World) (s₀ s₁:Shared) (mg mb:Str→Option Value) (fa:Addr) (o:Obj) (pm cd doc:Value) (a:Addr) (vs:List Value) (ns:List Int),
      Ground q loose [] XP w s₀ mg mb s₁.heap→YP w s₁.heap→
      s₁.heap.get? fa=some o→o.data=.func (docDef d.name d.params d.body d.scope pm cd doc)→s₁.heap.CodeRec cd d.name→mg d.name=some (.ref fa)→
      s₁.heap.get? a=some { cls:=.type "list",data:=.seq vs.toArray }→IntsAre vs ns→ns.length≤n→s₁.gens=#[]→
      codeAny (model l.prog w) callerA (.call (.ref fa) ⟨[.ref a],[]⟩) (fun r s'=>r=.ok (.ret (.bool true))∧OldK s₁.heap s'.heap∧s'.os=s₁.os∧AllBare s'.gens) s₁) :
    WalkO q loose XP YP l.row.toRowW d [] (fun f vs=>PySem.call f vs):=by
  intro w s₀ s₁ mg mb G Y fa o pm cd doc dV kV ho hd hcd hD hmg hg args vals as hpre hlay hrd hwl hlo
  obtain rfl:dV=.none:=Dflts.none hD hdf
  obtain rfl:kV=.none:=Dflts.noKw hD
  obtain ⟨a,vs,ns,rfl,rfl,hobj,hints,hlen⟩:=script_of hn hpre hwl
  refine enter_call (codeAny_mono (call w s₀ s₁ mg mb fa o pm cd doc a vs ns G Y ho (fd_plain hd) hcd hmg hobj hints hlen hg) fun r s' hq=>?_)
  obtain ⟨rfl,h2,h3,h4⟩:=hq
  exact ⟨.inl ⟨.bool true,.bool true,[],rfl,fun _=>rfl,.bool true,post_true l _,fun _=>⟨List.Pairwise.nil,fun _ hm=>(nomatch hm)⟩⟩,h2,h3,h4⟩
section
variable {prog:Program} {w:World} {A:Around} {E:Value→Shared→Prop} {s:Shared} {K:Frag}
def noObjs (h:Heap):Heap:={ h with objs:=#[] }
def ledger (h:Heap) (L d:Addr):List (Addr×Obj):=(List.range h.objs.size).filterMap fun a=>if a=L∨a=d then none else (h.get? a).map fun o=>(a,o)
end
end Att
namespace L2
open PySem PySem.Spec PyProof.Rows
theorem vals_ints:∀ {vs:List Value} {ns:List Int},IntsAre vs ns→Vals (ns.map V.int) vs
  | _,_,.nil=>.nil
  | _,_,.cons n t h=>.cons ⟨t,rfl⟩ (vals_ints h)
def Only (H:Hp):Prop:=∀ b,H b=none∨∃ o xs,H b=some (.frz o (.lst xs))
theorem law_call {P:Program} {w:World} {K:PySem.W.Frag} {mg mb:Str→Option Value} {CX:CXT} {k:Nat} {fa a:Addr} {fd:FuncData} {x:Str} {sp:Sp} {s₁:Shared} {vs:List Value} {ns:List Int}
    (KX:K.In s₁.heap) (hns:s₁.heap.Ns mainGlobals mg) (hb:s₁.heap.Ns builtinsNs mb) (hbb:∀ x:Str,x≠"__name__"→mb x=bootBuiltins x) (hlim:s₁.heap.NoLimit) (hg:s₁.gens=#[])
    (ha:s₁.heap.get? a=some { cls:=.type "list",data:=.seq vs.toArray }) (hi:IntsAre vs ns) (hl:ns.length≤sizeLine) (hr:Room k callerA)
    (F:∀ base:Heap,K.In base→base.Ns mainGlobals mg→FnOk P w K mg base CX k fa fd [x] sp) (hbind:∀ (s:Shared) (u:Value),BindsTo s fd ⟨[u],[]⟩ [(x,u)])
    (hsp:∀ H:Hp,Only H→SqL K H a (ns.map V.int)→sp [.ref a] H (fun v _=>v=.bl true) fun _ _ _=>False)
    (hCX:∀ H e s',CX [] H s₁ (fun _ _ _=>False) e s'→False) :
    codeAny (model P w) callerA (.call (.ref fa) ⟨[.ref a],[]⟩) (fun r s'=>r=.ok (.ret (.bool true))∧OldK s₁.heap s'.heap∧s'.os=s₁.os∧AllBare s'.gens) s₁:=by
  have rv:=vals_ints hi
  have lenV:=hi.length
  have core:∀ H:Hp,Only H→SqL K H a (ns.map V.int)→HOk P w H s₁.heap→(∀ b,H b≠none→b=a)→(H a≠none→K.lookup a=none)→
      codeAny (model P w) callerA (.call (.ref fa) ⟨[.ref a],[]⟩) (fun r s'=>r=.ok (.ret (.bool true))∧OldK s₁.heap s'.heap∧s'.os=s₁.os∧AllBare s'.gens) s₁:=by
    intro H hO hS hok hA hK
    have base_of:∀ {b:Addr} {o:Obj},s₁.heap.get? b=some o→H b=none→(hidT s₁.heap H).get? b=some o:=fun e n=>hidT_get e n
    have noA:∀ {b:Addr} {o:Obj} {es:Array DictEntry} {ep:Nat},s₁.heap.get? b=some o→o.data=.dict es ep→H b=none:=fun {b o es ep} e d=>by
      cases q:H b with
      | none=>rfl
      | some u =>
        have e':b=a:=hA b (by rw [q]; simp)
        subst e'
        rw [ha] at e; cases e
        have d':Data.seq vs.toArray _=Data.dict es ep:=d
        cases d'
    have nsK:∀ {b:Addr} {m:Str→Option Value},s₁.heap.Ns b m→(hidT s₁.heap H).Ns b m:=fun {b m} ⟨o,es,ep,e,d,r⟩=>⟨o,es,ep,base_of e (noA e d),d,r⟩
    have hKb:K.In (hidT s₁.heap H):=fun b o e=>base_of (KX b o e) (by
      cases q:H b with
      | none=>rfl
      | some u =>
        have e':b=a:=hA b (by rw [q]; simp)
        subst e'
        rw [hK (by rw [q]; simp)] at e; cases e)
    have hM:Mod K mg (hidT s₁.heap H):=⟨hKb,nsK hns,⟨mb,nsK hb,hbb⟩,let ⟨mc,h1,h2⟩:=hlim; ⟨mc,nsK h1,h2⟩⟩
    have e0:Env0 P w K mg (hidT s₁.heap H) callerA [] s₁ H:=⟨rfl,hM,fun b o e=>of_hidT e,Nat.le_of_eq (hidT_size _ _),trivial,fun b hb=>absurd (show b∈([]:List Addr) from hb) (by simp),hok,.of_eq hg⟩
    refine codeAny_mono ((F _ hKb (nsK hns)).run callerA [] s₁ H ⟨[.ref a],[]⟩ [.ref a] [.ref a] _ _ hr e0 (hbind s₁ (.ref a)) (.cons rfl .nil) (hsp H hO hS)) fun r s' h=>?_
    cases r with
    | error e=>exact (hCX H e s' h).elim
    | ok fl =>
      cases fl with
      | next=>exact False.elim h
      | brk=>exact False.elim h
      | cont=>exact False.elim h
      | ret u =>
        obtain ⟨v,H',os,bare,un,hok',r',q⟩:=h
        have q':v=.bl true:=q
        subst q'
        obtain rfl:u=Value.bool true:=r'
        refine ⟨rfl,OldK.of_keep fun b o e=>?_,os,bare⟩
        cases q:H b with
        | none=>exact un.keep b o e q (by intro z; exact absurd (show b∈([]:List Addr) from z) (by simp)) (by simp)
        | some u =>
          rcases hO b with z | ⟨ob,xs,z⟩
          · rw [q] at z; cases z
          · have z2:=un.frzs b ob _ z
            obtain ⟨e1,_⟩:=hok b _ z
            obtain ⟨e2,_⟩:=hok' b _ z2
            rw [e] at e1; cases e1
            exact e2
  cases hk:K.lookup a with
  | some o =>
    have e:=KX a o hk
    rw [ha] at e
    cases e
    refine core (fun _=>none) (fun _=>.inl rfl) (.inr ⟨_,vs.toArray,_,hk,rfl,rfl,rfl,by rw [List.size_toArray,lenV]; exact hl,by simpa using rv⟩) (fun b u z=>by have z':(none:Option HO)=some u:=z; cases z') (fun b z=>absurd rfl z) fun z=>absurd rfl z
  | none =>
    refine core (fun b=>if b=a then some (.frz { cls:=.type "list",data:=.seq vs.toArray } (.lst (ns.map V.int))) else none) (fun b=>?_) (.inl (.inr ⟨{ cls:=.type "list",data:=.seq vs.toArray },if_pos rfl⟩)) (fun b u z=>?_) (fun b z=>?_) fun _=>hk
    · by_cases hb:b=a
      · exact .inr ⟨_,_,if_pos hb⟩
      · exact .inl (if_neg hb)
    · by_cases hb:b=a
      · have z':=(if_pos hb).symm.trans z
        cases z'
        subst hb
        exact ⟨ha,by rw [List.length_map]; exact hl,vs,_,rv,ha⟩
      · have z':=(if_neg hb).symm.trans z
        cases z'
    · by_cases hb:b=a
      · exact hb
      · exact absurd (if_neg hb) z
end L2
namespace L2
open PySem PySem.Spec PyProof.Rows
abbrev KOf {K:PySem.W.Frag} {h:Heap} (_:K.In h):PySem.W.Frag:=K
theorem walk_of {l:PySem.W.OpenLaw} {n k:Nat} {q:Program} {loose:List Str} {XP:(Str→Option Value)→Heap→Prop} {YP:World→Heap→Prop} {d:DefRec} {K:Params→PySem.W.Frag} {CX:World→CXT} {sp:World→Sp} {x:Str}
    (hn:l.most=some n) (hn2:n≤sizeLine) (hdf:d.params.defaults=[]) (hr:Room k callerA)
    (hY:∀ (w:World) (h:Heap),YP w h→(K w.params).In h)
    (F:∀ (w:World) (mg:Str→Option Value) (fa:Addr) (h:Heap),(K w.params).In h→h.Ns mainGlobals mg→mg d.name=some (.ref fa)→
      ∃ fd:FuncData,(∀ (s:Shared) (u:Value),BindsTo s fd ⟨[u],[]⟩ [(x,u)])∧
        ∀ base:Heap,(K w.params).In base→base.Ns mainGlobals mg→FnOk l.prog w (K w.params) mg base (CX w) k fa fd [x] (sp w))
    (hsp:∀ (w:World) (H:Hp) (a:Addr) (ns:List Int),ns.length≤n→Only H→SqL (K w.params) H a (ns.map V.int)→sp w [.ref a] H (fun v _=>v=.bl true) fun _ _ _=>False)
    (hCX:∀ (w:World) (H:Hp) (s:Shared) (e:Value) (s':Shared),CX w [] H s (fun _ _ _=>False) e s'→False) :
    PySem.W.WalkO q loose XP YP l.row.toRowW d [] (fun f vs=>PySem.call f vs):=by
  refine Att.attach_call hn hdf fun w s₀ s₁ mg mb fa o pm cd doc a vs ns G Y ho hd hcd hmg hobj hints hlen hg=>?_
  have KX:=hY w _ Y
  obtain ⟨fd,hb,hF⟩:=F w mg fa _ KX G.T.g hmg
  exact law_call KX G.T.g G.T.b G.T.builtins G.T.nolimit hg hobj hints (Nat.le_trans hlen hn2) hr hF hb (fun H hO hS=>hsp w H a ns hlen hO hS) fun H e s'=>hCX w H s₁ e s'
theorem walk_ofK {l:PySem.W.OpenLaw} {n k:Nat} {q:Program} {loose:List Str} {XP:(Str→Option Value)→Heap→Prop} {YP:World→Heap→Prop} {d:DefRec} {K:Params→PySem.W.Frag} {CX:CXT} {sp:PySem.W.Frag→Sp} {x:Str}
    (hn:l.most=some n) (hn2:n≤sizeLine) (hdf:d.params.defaults=[]) (hr:Room k callerA)
    (hY:∀ (w:World) (h:Heap),YP w h→(K w.params).In h)
    (F:∀ (w:World) (mg:Str→Option Value) (fa:Addr) (h:Heap),(K w.params).In h→h.Ns mainGlobals mg→mg d.name=some (.ref fa)→
      ∃ fd:FuncData,(∀ (s:Shared) (u:Value),BindsTo s fd ⟨[u],[]⟩ [(x,u)])∧
        ∀ base:Heap,(K w.params).In base→base.Ns mainGlobals mg→FnOk l.prog w (K w.params) mg base CX k fa fd [x] (sp (K w.params)))
    (hsp:∀ (K:PySem.W.Frag) (H:Hp) (a:Addr) (ns:List Int),ns.length≤n→Only H→SqL K H a (ns.map V.int)→sp K [.ref a] H (fun v _=>v=.bl true) fun _ _ _=>False)
    (hCX:∀ (H:Hp) (s:Shared) (e:Value) (s':Shared),CX [] H s (fun _ _ _=>False) e s'→False) :
    PySem.W.WalkO q loose XP YP l.row.toRowW d [] (fun f vs=>PySem.call f vs) :=
  walk_of (K:=K) (CX:=fun _=>CX) (sp:=fun w=>sp (K w.params)) hn hn2 hdf hr hY F (fun w H a ns h1 h2 h3=>hsp (K w.params) H a ns h1 h2 h3) fun _ H s e s'=>hCX H s e s'
end L2
namespace L2
open PySem PySem.Spec PyProof.Rows
def inClass (s:Stmt) (j:Nat):Stmt:=match s with
  | .ClassDef _ _ _ body _ _ _ _ _ _ _=>body.getD j (.Pass ⟨0,0,0,0⟩)
  | _=>.Pass ⟨0,0,0,0⟩
def defArgs (s:Stmt):Arguments:=match s with
  | .FunctionDef _ a _ _ _ _ _ _ _ _=>a
  | _=>{ posonlyargs:=[],args:=[],vararg:=none,kwonlyargs:=[],kw_defaults:=[],kwarg:=none,defaults:=[] }
def defBody (s:Stmt):List Stmt:=match s with
  | .FunctionDef _ _ b _ _ _ _ _ _ _=>b
  | _=>[]
def defScope (s:Stmt):Scope:=match s with
  | .FunctionDef _ _ _ _ _ _ sc _ _ _=>sc
  | _=>{ kind:=.function,names:=[],isGenerator:=false,isCoroutine:=false }
abbrev CX0:CXT:=fun _ _ _ _ _ _=>False
abbrev E0:XK:=fun _ _ _=>False
theorem pass0 {X:Cx}:Passes CX0 X E0:=fun _ _ _ _ _ _ _ h=>h.elim
structure Fun (K:PySem.W.Frag) (x qual:Str) (st:Stmt) (f:Addr) (fd:FuncData):Prop where
  ex:∃ (oc:Value) (od:Option Addr) (kV doc pm:Value) (an:Option Addr) (cdv ct:Value) (osl:Array (Option Value)),
    fd=PySem.W.fnOf x qual (defArgs st) (defBody st) (defScope st) .none kV doc pm an cdv ct∧K.lookup f=some ⟨oc,od,.func fd,osl⟩∧PySem.W.codeIn K cdv qual=true
  kp:PySem.W.keepIn K (.ref f)=true
section
variable {P:Program} {w:World} {K:PySem.W.Frag} {mg:Str→Option Value} {base:Heap}
theorem Fun.ok {x qual:Str} {st:Stmt} {f:Addr} {fd:FuncData} {N ps:List Str} {k:Nat} {sp:Sp} (F:Fun K x qual st f fd) (S:FnScope N ps (defScope st)) (len:∀ vs H Q E,sp vs H Q E→vs.length=ps.length)
    (hbody:∀ (cdv:Value) (A:Around) (outer:List Env) (s:Shared) (H:Hp) (vs:List V) (Q:VK) (E:XK),Room k (A.deeper (envOfC qual (defScope st) s.heap.objs.size f cdv))→sp vs H Q E→
      ∃ t,PSs (cxOf CX0 P w K mg base N qual (defScope st) f cdv A outer s H E).nox (defBody st) t∧t { nx:=fun _ H'=>Q .non H',rt:=Q } (start N vs) H):FnOk P w K mg base CX0 (k+1) f fd ps sp:=by
  obtain ⟨oc,od,kV,doc,pm,an,cdv,ct,osl,rfl,lk,hcd⟩:=F.ex
  refine fn_of lk hcd S len fun A outer s H vs Q E hr hsp=>?_
  obtain ⟨t,h,q⟩:=hbody cdv A outer s H vs Q E hr hsp
  exact ⟨t,h.nox,q⟩
theorem Fun.binds {x qual:Str} {st:Stmt} {f:Addr} {fd:FuncData} {ps:List Str} (F:Fun K x qual st f fd)
    (h:∀ (kV doc pm:Value) (an:Option Addr) (cdv ct:Value) (us:List Value),us.length=ps.length→bindArgs (PySem.W.fnOf x qual (defArgs st) (defBody st) (defScope st) .none kV doc pm an cdv ct) ⟨us,[]⟩=pure (ps.zip us)):Binds K fd ps []:=by
  obtain ⟨oc,od,kV,doc,pm,an,cdv,ct,osl,rfl,lk,hcd⟩:=F.ex
  exact .all (h kV doc pm an cdv ct)
theorem fun_mk {x qual:Str} {st:Stmt} {f:Addr} {oc:Value} {od an:Option Addr} {osl:Array (Option Value)} {kV doc pm cdv ct:Value} (l:K.lookup f=some ⟨oc,od,.func (PySem.W.fnOf x qual (defArgs st) (defBody st) (defScope st) .none kV doc pm an cdv ct),osl⟩)
    (c:PySem.W.codeIn K cdv qual=true) (k:PySem.W.keepIn K (.ref f)=true):Fun K x qual st f (PySem.W.fnOf x qual (defArgs st) (defBody st) (defScope st) .none kV doc pm an cdv ct):=⟨⟨oc,od,kV,doc,pm,an,cdv,ct,osl,rfl,l,c⟩,k⟩
end
theorem small1000 {n:Nat} (h:n≤1000):n<sizeLine:=Nat.lt_of_le_of_lt h (by decide)
section
variable {X:Cx}
theorem pv (i:Nat) {x:Str} {pos:Pos} (hN:X.N[i]?=some x:=by rfl) (hv:Vis X.env.scope x:=by first | exact Or.inl rfl | exact Or.inr (Or.inl rfl) | exact Or.inr (Or.inr rfl)) (hd:(x == ("__debug__":Str))=false:=by decide)
    (hcd:(x == ("__classdict__":Str))=false:=by decide):PE X (.Name x pos) (tVar i):=pe_var hN hv hd hcd
end
theorem iteF {A B:Prop} (h:B):if false=true then A else B:=by
  rw [if_neg Bool.false_ne_true]
  exact h
theorem iteT {A B:Prop} (h:A):if true=true then A else B:=by
  rw [if_pos rfl]
  exact h
theorem ite2 {c A B:Prop} [Decidable c] (h1:c→A) (h2:¬ c→B):if c then A else B:=by
  by_cases h:c
  · rw [if_pos h]
    exact h1 h
  · rw [if_neg h]
    exact h2 h
def Same (H H':Hp):Prop:=∀ b o,H b=some o→H' b=some o
theorem Same.refl (H:Hp):Same H H:=fun _ _ h=>h
theorem Same.trans {H H1 H2:Hp} (a:Same H H1) (b:Same H1 H2):Same H H2:=fun c o h=>b c o (a c o h)
theorem Same.free {H H':Hp} (e:Same H H') {l:Addr} (h:H' l=Option.none):H l=Option.none:=by
  cases q:H l with
  | none=>rfl
  | some o =>
    rw [e l o q] at h
    cases h
theorem Same.seq {K:PySem.W.Frag} {H H':Hp} {a:Addr} {xs:List V} (e:Same H H') (h:SqL K H a xs):SqL K H' a xs:=by
  rcases h with (h | ⟨o,h⟩) | h
  · exact .inl (.inl (e _ _ h))
  · exact .inl (.inr ⟨o,e _ _ h⟩)
  · exact .inr h
end L2
set_option maxHeartbeats 4000000
namespace L2
open PySem PySem.Spec PyProof.Rows
def Big (i:Int):Prop:=i.natAbs<2 ^ 4000
def CMulB (i j:Int):Prop:=Big i∧Big j
def CDivB (_ j:Int):Prop:=0<j∧Big j
section
variable {X:Cx}
theorem call_isinst:CallR X (.builtin "isinstance") (fun xs H Q=>∃ (x c:V) (t:Value) (b:Bool),xs=[x,c]∧TyOf X.K H x t∧(∃ u,RelV c u∧(∀ u',RelV c u'→u'=u)∧PySem.W.kitOne X.K t u=some b)∧Q (.bl b) H):=by
  intro pins s σ H xs us Q I r h
  obtain ⟨x,c,t,b,rfl,ty,⟨u,_,hu,e⟩,q⟩:=h
  obtain ⟨u1,u2,rfl,r1,r2⟩:=vals2 r
  have e2:=hu u2 r2
  subst e2
  exact isinst_ok I r1 ty e fun tk=>⟨.bl b,H,I.tok _,rfl,q⟩
def rIsT (K:PySem.W.Frag) (n:String):List V→Hp→VK→Prop:=fun xs H Q=>∃ (x:V) (t:Value) (b:Bool),xs=[x,.ty n]∧TyOf K H x t∧PySem.W.kitOne K t (.type n)=some b∧Q (.bl b) H
theorem call_isT (n:String):CallR X (.builtin "isinstance") (rIsT X.K n):=by
  intro pins s σ H xs us Q I r h
  obtain ⟨x,t,b,rfl,ty,e,q⟩:=h
  exact call_isinst pins s σ H _ us Q I r ⟨x,.ty n,t,b,rfl,ty,⟨.type n,rfl,fun u' h'=>h',e⟩,q⟩
def rIsC (K:PySem.W.Frag) (C:Addr):List V→Hp→VK→Prop:=fun xs H Q=>∃ (x:V) (t:Value) (b:Bool),xs=[x,.ref C]∧TyOf K H x t∧PySem.W.kitOne K t (.ref C)=some b∧Q (.bl b) H
theorem Inv.turnedNew {pins:List (Addr×Obj)} {σ:St} {H:Hp} {s:Shared} {h':Heap} {t':Nat} {ch:List Addr} {a:Addr} {o:HO} (I:Inv X pins σ H s) (k:∀ b u,b∉ch→s.heap.get? b=some u→h'.get? b=some u)
    (hf:∀ b∈ch,FpOk X pins H b) (hp:s.heap.objs.size≤a) (new:ObjOk X.prog X.w (upd H a o) h' a o):Inv X pins σ (upd H a o) { s with heap:=h',toks:=t' }:=by
  have na:H a=none:=I.hok.fresh hp
  have nch:∀ b u,H b=some u→b∉ch:=fun b u e z=>by
    have:=(hf b z).1
    rw [this] at e
    cases e
  refine I.step (g':=s.gens) (d':=s.drawn) (ch:=ch) (fun b hb=>?_) (fun b u _ _ hc e _=>k b u hc e) (fun b u _ _ hc e _=>⟨u.slots,k b u hc e⟩) (fun b u _ e n=>?_)
    (fun b u hc e=>⟨u,k b u hc e⟩) (fun b xs e=>by rw [upd_ne (ne_of_none e na)]; exact e) (fun b u v e=>by rw [upd_ne (ne_of_none e na)]; exact e) (fun b ps e=>⟨#[],by rw [upd_ne (ne_of_none e na),e]; simp⟩) (fun m hm=>?_) (fun b u e=>?_) I.bare
  · obtain ⟨_,f1,_,f3,f4,f5⟩:=hf b hb
    exact ⟨f3,f1,f4,f5⟩
  · have hne:b≠a:=Nat.ne_of_lt (Nat.lt_of_lt_of_le (Heap.lt_size e) hp)
    rw [upd_ne hne]
    exact n
  · obtain ⟨ob,es,ep,ho,r⟩:=hm
    exact ⟨ob,es,ep,k _ ob (fun z=>(hf _ z).2.1 rfl) ho,r⟩
  · by_cases hb:b=a
    · subst hb
      rw [upd_same] at e
      cases e
      exact new
    · rw [upd_ne hb] at e
      refine (I.hok b u e).stay (fun c v hc q=>k c v ?_ q) (fun c q=>by rw [upd_ne (ne_of_none q na)]; exact q) fun c xs q=>by rw [upd_ne (ne_of_none q na)]; exact q
      rcases hc with z | z
      · rw [z]; exact nch b u e
      · exact nch c _ z
theorem Inv.turnedL {pins:List (Addr×Obj)} {σ:St} {H:Hp} {s:Shared} {h':Heap} {t':Nat} {ch:List Addr} (I:Inv X pins σ H s) (k:∀ b u,b∉ch→s.heap.get? b=some u→h'.get? b=some u)
    (hf:∀ b∈ch,FpOk X pins H b):Inv X pins σ H { s with heap:=h',toks:=t' }:=by
  have nch:∀ b u,H b=some u→b∉ch:=fun b u e z=>by
    have:=(hf b z).1
    rw [this] at e
    cases e
  refine I.step (g':=s.gens) (d':=s.drawn) (ch:=ch) (fun b hb=>?_) (fun b u _ _ hc e _=>k b u hc e) (fun b u _ _ hc e _=>⟨u.slots,k b u hc e⟩) (fun b u _ e n=>n)
    (fun b u hc e=>⟨u,k b u hc e⟩) (fun b xs e=>e) (fun b u v e=>e) (fun b ps e=>⟨#[],by rw [e]; simp⟩) (fun m hm=>?_) (fun b u e=>?_) I.bare
  · obtain ⟨_,f1,_,f3,f4,f5⟩:=hf b hb
    exact ⟨f3,f1,f4,f5⟩
  · obtain ⟨ob,es,ep,ho,r⟩:=hm
    exact ⟨ob,es,ep,k _ ob (fun z=>(hf _ z).2.1 rfl) ho,r⟩
  · refine (I.hok b u e).stay (fun c v hc q=>k c v ?_ q) (fun c q=>q) fun c xs q=>q
    rcases hc with z | z
    · rw [z]; exact nch b u e
    · exact nch c _ z
end
def Ite (K:PySem.W.Frag) (a:Addr):It :=
  ⟨fun i H=>∃ xs x,SqL K H a xs∧xs[i]?=some x,fun i H v H'=>∃ T x,H T=none∧H'=upd H T (.tup [.int (i:Int),x])∧v=.ref T∧∀ xs,SqL K H a xs→xs[i]?=some x,fun i H=>∃ xs,SqL K H a xs∧xs.length≤i⟩
theorem turn_enum {P:Program} {w:World} {K:PySem.W.Frag} {elts:List Expr} {x1:Nat} {tp:Pos} (a e it:Addr) (hei:e≠it) :
    Turn P w K (.Tuple elts x1 tp) (Ite K a) [e,it] e (fun i h=>(∃ old,IsEnum h e it i old)∧h.IsListIter it a i) where
  mem:=by simp
  obj:=fun i h st b hb=>by
    obtain ⟨⟨old,he⟩,⟨o,e1,c,d⟩⟩:=st
    rcases List.mem_cons.mp hb with z | z
    · subst z
      exact ⟨_,he,fun v q=>nomatch q⟩
    · have z':b=it:=by simpa using z
      subst z'
      exact ⟨o,e1,fun v q=>by rw [d] at q; cases q⟩
  keep:=fun i h h' st k=>⟨st.1.elim fun old he=>⟨old,k e (by simp) _ he⟩,st.2.at fun o q=>k it (by simp) o q⟩
  item:=by
    intro X hP hw hK hc i pins s σ H E I hf st hg
    subst hP hw hK
    obtain ⟨xs,x,hq,hx⟩:=hg
    obtain ⟨its,rv,p,hz⟩:=I.list hq
    obtain ⟨u,hu,ru⟩:=rv.get hx
    obtain ⟨⟨old,he⟩,hit⟩:=st
    refine wpAny_pyNext_enum_item he hit p.isList (x:=u) (by simpa using hu) hei fun h' ho hit' hT hsz hk=>?_
    have helt:e<s.heap.objs.size:=Heap.lt_size he
    have hilt:it<s.heap.objs.size:=by obtain ⟨_,q,_⟩:=hit; exact Heap.lt_size q
    refine ⟨_,rfl,?_⟩
    refine wpAny_letOwnedTupleGo_enum ho fun h2 he2 hs2=>?_
    have k2:∀ b o,b∉[e,it]→s.heap.get? b=some o→h2.get? b=some o:=fun b o hb q=>by
      have n1:b≠e:=fun z=>hb (by simp [z])
      have n2:b≠it:=fun z=>hb (by simp [z])
      exact (hs2.2 b n1).trans (hk b o n1 n2 q)
    have t2:h2.get? s.heap.objs.size=some { cls:=.type "tuple",data:=.seq #[.int i s.toks,u] }:=(hs2.2 _ (Nat.ne_of_gt helt)).trans hT
    have hn:H s.heap.objs.size=none:=I.hok.fresh (Nat.le_refl _)
    have new:ObjOk X.prog X.w (upd H s.heap.objs.size (.tup [.int (i:Int),x])) h2 s.heap.objs.size (.tup [.int (i:Int),x]) :=
      ⟨by simp only [List.length_cons,List.length_nil]; rw [sizeLine_eq]; decide,[.int i s.toks,u],.cons ⟨_,rfl⟩ (.cons ru .nil),⟨_,t2,rfl,_,rfl⟩⟩
    have I2:Inv X pins σ (upd H s.heap.objs.size (.tup [.int (i:Int),x])) { s with heap:=h2,toks:=s.toks+1 }:=I.turnedNew k2 hf (Nat.le_refl _) new
    refine ⟨.ref s.heap.objs.size,_,I2,rfl,⟨s.heap.objs.size,x,hn,rfl,rfl,fun ys hy=>by rw [I.list_inj hy hq]; exact hx⟩,⟨⟨u,?_⟩,hit'.at fun o q=>(hs2.2 it hei.symm).trans q⟩,fun b hb=>?_⟩
    · simpa using he2
    · have hb1:b≠s.heap.objs.size:=by
        rcases List.mem_cons.mp hb with z | z
        · rw [z]; exact Nat.ne_of_lt helt
        · have z':b=it:=by simpa using z
          rw [z']; exact Nat.ne_of_lt hilt
      rw [upd_ne hb1]
      exact (hf b hb).1
  done:=by
    intro X hP hw hK hc i pins s σ H E I hf st hg
    subst hP hw hK
    obtain ⟨xs,hq,hx⟩:=hg
    obtain ⟨its,rv,p,hz⟩:=I.list hq
    obtain ⟨⟨old,he⟩,hit⟩:=st
    have hl:=rv.length
    refine wpAny_pyNext_enum_end (I.ok.hd hc) he hit p.isList (by simp; omega) fun h' eb=>⟨rfl,?_⟩
    exact I.turnedL (t':=s.toks) (fun b o hb q=>eb b o (fun z=>hb (by simp [z])) q) hf
  self:=fun _ _ _ _ _ st h=>by
    obtain ⟨⟨old,he⟩,_⟩:=st
    exact wpAny_pyIter_enum he h
section
variable {X:Cx}
def iEnum (K:PySem.W.Frag) (ta:TA):TI:=fun σ H R=>ta σ H fun vs H1=>∃ a,vs=[.ref a]∧(∃ xs,SqL K H1 a xs)∧R (Ite K a) H1
theorem pi_enum {a:Expr} {ta:TA} {p pos tp:Pos} {elts:List Expr} {x1:Nat} (hg:Gl X "enumerate") (hm:X.mg "enumerate"=none) (ha:PA X [a] ta) (hs:starEach [a] X.env=[(false,eval a X.env)]:=by rfl) :
    PI X (.Tuple elts x1 tp) (.Call (.Name "enumerate" p) [a] [] pos) (iEnum X.K ta):=by
  intro pins s σ H R I h
  refine Call_ (ld_blt I hg hm boot_enumerate (PyProof.Rows.callWith_type1 (thn (ha pos pins s σ H _ I h) fun us s1 ⟨vs,H1,I1,r1,q1⟩=>?_) hs rfl))
  obtain ⟨l,e,⟨xs,hx⟩,q⟩:=q1
  subst e
  obtain ⟨u,rfl,ru⟩:=vals1 r1
  cases ru
  obtain ⟨its,rv,pl,hz⟩:=I1.list hx
  refine call_enumerate_list pl.isList fun h' he hit hsz hk=>?_
  refine wpAny_pyIter_enum he ?_
  have hfp:∀ b∈[s1.heap.objs.size+1,s1.heap.objs.size],FpOk X pins H1 b:=fun b hb=>by
    have hge:s1.heap.objs.size≤b:=by
      rcases List.mem_cons.mp hb with z | z
      · omega
      · have z':b=s1.heap.objs.size:=by simpa using z
        omega
    exact I1.fpOk hge (I1.hok.fresh hge)
  exact ⟨s1.heap.objs.size+1,[s1.heap.objs.size+1,s1.heap.objs.size],_,_,H1,rfl,I1.kept (t':=s1.toks) hk,turn_enum l _ _ (Nat.succ_ne_self _),⟨⟨_,he⟩,hit⟩,hfp,q⟩
end
theorem for_enum {K:PySem.W.Frag} {a:Addr} {xs:List V} {g:TG} {tb:TS} {D:Ends} {σ:St} {H:Hp} (Pv:Nat→St→Hp→Prop) (h0:Pv 0 σ H) (hl:∀ i σ H,i≤xs.length→Pv i σ H→SqL K H a xs)
    (hs:∀ i x σ H T,xs[i]?=some x→Pv i σ H→H T=none→g (.ref T) σ (upd H T (.tup [.int (i:Int),x])) fun σ2 H2=>tb { D with nx:=Pv (i+1),ct:=Pv (i+1),bk:=D.nx } σ2 H2) (hd:∀ σ H,Pv xs.length σ H→D.nx σ H) :
    ∃ W:Nat→Nat→St→Hp→Prop,(∃ m,W 0 m σ H)∧∀ i m σ H,W i m σ H→
      ((Ite K a).stop i H∧D.nx σ H)∨((Ite K a).go i H∧∃ N:St→Hp→Prop,(∀ σ' H',N σ' H'→∃ m',m'<m∧W (i+1) m' σ' H')∧∀ x H',(Ite K a).yld i H x H'→g x σ H' fun σ2 H2=>tb { D with nx:=N,ct:=N,bk:=D.nx } σ2 H2):=by
  refine ⟨fun i m σ H=>m=xs.length - i∧i≤xs.length∧Pv i σ H,⟨xs.length,by simp,Nat.zero_le _,h0⟩,?_⟩
  rintro i m σ H ⟨rfl,hi,p⟩
  have q:=hl i σ H hi p
  by_cases hlt:i<xs.length
  · refine .inr ⟨⟨xs,xs[i],q,by simp [hlt]⟩,Pv (i+1),fun σ' H' p'=>⟨xs.length - (i+1),by omega,rfl,hlt,p'⟩,fun v H' y=>?_⟩
    obtain ⟨T,x,hT,e1,e2,y⟩:=y
    subst e1 e2
    exact hs i x σ H T (y xs q) p hT
  · have e:i=xs.length:=by omega
    subst e
    exact .inl ⟨⟨xs,q,Nat.le_refl _⟩,hd σ H p⟩
section
variable {prog:Program} {w:World} {A:Around} {E:Value→Shared→Prop} {s:Shared}
end
section
variable {X:Cx} {pos:Pos}
def gTupL (K:PySem.W.Frag) (n:Nat) (t:TGs):TG:=fun v σ H Q=>∃ a xs,v=.ref a∧SqL K H a xs∧xs.length=n∧t xs σ H Q
end
structure Cal (P:Program) (w:World) (K:PySem.W.Frag) (mg:Str→Option Value) (base:Heap) (k:Nat) (x:Str) (ps:List Str) (sp:Sp):Prop where
  ex:∃ (f:Addr) (fd:FuncData),FnOk P w K mg base CX0 k f fd ps sp∧Binds K fd ps []∧PySem.W.keepIn K (.ref f)=true∧mg x=some (.ref f)
section
variable {X:Cx} {k j:Nat} {x:Str} {ps:List Str} {sp:Sp} {p pos:Pos} {e:Expr} {es:List Expr} {t:TA}
theorem pe_fn (C:Cal X.prog X.w X.K X.mg X.base k x ps sp) (hr:Room j X.A) (hj:k≤j) (hg:Gl X x) (ha:PA X (e::es) t) (hdb:(x == ("__debug__":Str))=false:=by decide) (he:starEach (e::es) X.env=(false,eval e X.env)::starEach es X.env:=by rfl) (hpl:(backTo pos (starEach es X.env)).any (·.1)=false:=by rfl) :
    PE X (.Call (.Name x p) (e::es) [] pos) (tCall sp [] E0 t):=by
  obtain ⟨f,fd,G,b,kp,m⟩:=C.ex
  exact pe_call G (hr.mono hj) hg m kp b .nil pass0 ha hdb he hpl
end
theorem same_new {H:Hp} {p:Addr} (h:H p=none) (o:HO):Same H (upd H p o):=fun b u q=>by rw [upd_ne (ne_of_none q h)]; exact q
theorem Same.upd {H H1:Hp} {p:Addr} (s:Same H H1) (h:H p=none) (o:HO):Same H (upd H1 p o):=fun b u q=>by rw [upd_ne (ne_of_none q h)]; exact s b u q
theorem small {n:Nat} (h:n≤1000):n≤sizeLine:=Nat.le_of_lt (small1000 h)
end L2
namespace L2
open PySem PySem.Spec PyProof.Rows
structure FunAt (K:PySem.W.Frag) (x:Str) (st:Stmt):Prop where
  ex:∃ (f:Addr) (fd:FuncData),Fun K x x st f fd∧PySem.W.nsIn K mainGlobals x=some (some (.ref f))
theorem funAt_mk {K:PySem.W.Frag} {x:Str} {st:Stmt} {f:Addr} {oc:Value} {od an:Option Addr} {osl:Array (Option Value)} {kV doc pm cdv ct:Value} (a:PySem.W.nsIn K mainGlobals x=some (some (.ref f)))
    (l:K.lookup f=some ⟨oc,od,.func (PySem.W.fnOf x x (defArgs st) (defBody st) (defScope st) .none kV doc pm an cdv ct),osl⟩)
    (c:PySem.W.codeIn K cdv x=true) (k:PySem.W.keepIn K (.ref f)=true):FunAt K x st:=⟨f,_,fun_mk (st:=st) l c k,a⟩
theorem FunAt.cal {P:Program} {w:World} {K:PySem.W.Frag} {h base:Heap} {mg:Str→Option Value} {x:Str} {st:Stmt} {ps:List Str} {k:Nat} {sp:Sp} (F:FunAt K x st) (X:K.In h) (G:h.Ns mainGlobals mg)
    (hb:∀ (kV doc pm:Value) (an:Option Addr) (cdv ct:Value) (us:List Value),us.length=ps.length→bindArgs (PySem.W.fnOf x x (defArgs st) (defBody st) (defScope st) .none kV doc pm an cdv ct) ⟨us,[]⟩=pure (ps.zip us))
    (ok:∀ (f:Addr) (fd:FuncData),Fun K x x st f fd→FnOk P w K mg base CX0 k f fd ps sp):Cal P w K mg base k x ps sp:=by
  obtain ⟨f,fd,F1,a⟩:=F.ex
  exact ⟨f,fd,ok f fd F1,F1.binds hb,F1.kp,PySem.W.mg_of X G a⟩
theorem FunAt.law {P:Program} {w:World} {K:PySem.W.Frag} {h:Heap} {mg:Str→Option Value} {x p:Str} {st:Stmt} {fa:Addr} {k:Nat} {sp:Sp} (F:FunAt K x st) (X:K.In h) (G:h.Ns mainGlobals mg) (hfa:mg x=some (.ref fa))
    (hb:∀ (kV doc pm:Value) (an:Option Addr) (cdv ct:Value) (u:Value),bindArgs (PySem.W.fnOf x x (defArgs st) (defBody st) (defScope st) .none kV doc pm an cdv ct) ⟨[u],[]⟩=pure [(p,u)])
    (ok:∀ (base:Heap),K.In base→base.Ns mainGlobals mg→∀ (f:Addr) (fd:FuncData),Fun K x x st f fd→FnOk P w K mg base CX0 k f fd [p] sp) :
    ∃ fd:FuncData,(∀ (s:Shared) (u:Value),BindsTo s fd ⟨[u],[]⟩ [(p,u)])∧∀ base:Heap,K.In base→base.Ns mainGlobals mg→FnOk P w K mg base CX0 k fa fd [p] sp:=by
  obtain ⟨f,fd,F1,a⟩:=F.ex
  have e:=hfa.symm.trans (PySem.W.mg_of X G a)
  cases e
  refine ⟨fd,fun s u=>?_,fun base kb nb=>ok base kb nb _ fd F1⟩
  obtain ⟨oc,od,kV,doc,pm,an,cdv,ct,osl,rfl,lk,hcd⟩:=F1.ex
  exact .of_eq (hb kV doc pm an cdv ct u)
end L2
namespace L2
open PySem PySem.Spec PyProof.Rows
theorem fun_ex {K:PySem.W.Frag} {x qual:Str} {st:Stmt} {f:Addr} {oc:Value} {od an:Option Addr} {osl:Array (Option Value)} {kV doc pm cdv ct:Value}
    (l:K.lookup f=some ⟨oc,od,.func (PySem.W.fnOf x qual (defArgs st) (defBody st) (defScope st) .none kV doc pm an cdv ct),osl⟩)
    (c:PySem.W.codeIn K cdv qual=true) (k:PySem.W.keepIn K (.ref f)=true):∃ fd,Fun K x qual st f fd:=⟨_,fun_mk (st:=st) l c k⟩
end L2
namespace L2
open PySem PySem.Spec PyProof.Rows
theorem cellsFrom_app:∀ (names:List (Str×NameKind)) (n:Nat) (acc:List (Str×Addr)),cellsFrom n names acc=cellsFrom n names []++acc
  | [],_,_=>rfl
  | (x,k)::r,n,acc=>by
    unfold cellsFrom
    split
    · rw [cellsFrom_app r (n+1) ((x,n)::acc),cellsFrom_app r (n+1) [(x,n)],List.append_assoc]
      rfl
    · exact cellsFrom_app r n acc
theorem cellsFrom_none {y:Str}:∀ (names:List (Str×NameKind)) (n:Nat),(∀ k,(y,k)∈names→k≠.cell)→(cellsFrom n names []).lookup y=none
  | [],_,_=>rfl
  | (x,k)::r,n,h=>by
    have hr:∀ k,(y,k)∈r→k≠.cell:=fun k' hk=>h k' (List.mem_cons_of_mem _ hk)
    unfold cellsFrom
    split
    · rename_i hk
      rw [cellsFrom_app,List.lookup_append,cellsFrom_none r (n+1) hr]
      have hne:(y == x)=false:=by
        cases e:(y == x) with
        | false=>rfl
        | true =>
          have e':y=x:=beq_iff_eq.mp e
          subst e'
          exact absurd (beq_iff_eq.mp hk) (h k List.mem_cons_self)
      show Option.or none (List.lookup y [(x,n)])=none
      rw [List.lookup_cons,hne]
      rfl
    · exact cellsFrom_none r n hr
theorem closure_loop {env:Env} (f:Str×NameKind→List (Str×Addr)→Sem (ForInStep (List (Str×Addr))))
    (hf:∀ name kind cs,f (name,kind) cs=if kind == .free then (do let a ← cellOf env name; pure (.yield ((name,a)::cs))) else pure (.yield cs)) :
    ∀ (names:List (Str×NameKind)) (acc:List (Str×Addr)),(∀ y∈names,y.2=.free→∃ c,env.cells.lookup y.1=some c)→(∀ y c,acc.lookup y=some c→env.cells.lookup y=some c)→
      ∃ cl,forIn names acc f=pure cl∧(∀ y c,cl.lookup y=some c→env.cells.lookup y=some c)∧(∀ y c,acc.lookup y=some c→∃ c',cl.lookup y=some c')∧∀ y∈names,y.2=.free→∃ c,cl.lookup y.1=some c
  | [],acc,_,ha=>⟨acc,by rw [List.forIn_nil],ha,fun y c e=>⟨c,e⟩,fun y hy=>nomatch hy⟩
  | (x,k)::r,acc,hc,ha=>by
    have hr:∀ y∈r,y.2=.free→∃ c,env.cells.lookup y.1=some c:=fun y hy=>hc y (List.mem_cons_of_mem _ hy)
    by_cases hk:k=.free
    · obtain ⟨c,ec⟩:=hc (x,k) List.mem_cons_self hk
      have ha':∀ y d,((x,c)::acc).lookup y=some d→env.cells.lookup y=some d:=fun y d e=>by
        rw [List.lookup_cons] at e
        cases q:(y == x) with
        | true =>
          rw [q] at e
          have e1:c=d:=Option.some.inj e
          rw [beq_iff_eq.mp q,← e1]
          exact ec
        | false=>rw [q] at e; exact ha y d e
      obtain ⟨cl,h1,h2,h3,h4⟩:=closure_loop f hf r ((x,c)::acc) hr ha'
      refine ⟨cl,?_,h2,fun y d e=>?_,fun y hy hf=>?_⟩
      · rw [List.forIn_cons,hf,if_pos (by rw [hk]; rfl)]
        have:cellOf env x=pure c:=by unfold cellOf; rw [ec]
        rw [this]
        simp only [pure_bind]
        exact h1
      · cases q:(y == x) with
        | true=>exact h3 y c (by rw [List.lookup_cons,q])
        | false=>exact h3 y d (by rw [List.lookup_cons,q]; exact e)
      · rcases List.mem_cons.mp hy with z | z
        · subst z
          exact h3 x c (by rw [List.lookup_cons]; simp)
        · exact h4 y z hf
    · obtain ⟨cl,h1,h2,h3,h4⟩:=closure_loop f hf r acc hr ha
      refine ⟨cl,?_,h2,h3,fun y hy hf=>?_⟩
      · rw [List.forIn_cons,hf,if_neg (by intro z; exact hk (beq_iff_eq.mp z))]
        simp only [pure_bind]
        exact h1
      · rcases List.mem_cons.mp hy with z | z
        · subst z
          exact absurd hf hk
        · exact h4 y z hf
theorem closure_ok {scope:Scope} {env:Env} (hc:∀ y∈scope.names,y.2=.free→∃ c,env.cells.lookup y.1=some c) :
    ∃ cl,closureFor scope env=pure cl∧(∀ y c,cl.lookup y=some c→env.cells.lookup y=some c)∧∀ y∈scope.names,y.2=.free→∃ c,cl.lookup y.1=some c:=by
  unfold closureFor
  obtain ⟨cl,h1,h2,_,h4⟩:=closure_loop (env:=env) (fun (x:Str×NameKind) (r:List (Str×Addr))=>if x.2 == .free then (do let a ← cellOf env x.1; pure (.yield ((x.1,a)::r))) else pure (.yield r)) (fun _ _ _=>rfl) scope.names [] hc (fun y c e=>by cases e)
  refine ⟨cl,?_,h2,h4⟩
  have e:∀ (f:Str×NameKind→List (Str×Addr)→Sem (ForInStep (List (Str×Addr)))),(∀ x r,f x r=if x.2 == .free then (do let a ← cellOf env x.1; pure (.yield ((x.1,a)::r))) else pure (.yield r))→(forIn scope.names ([]:List (Str×Addr)) f >>= fun cs=>pure cs)=(pure cl:Sem _):=fun f hf=>by
    have:f=fun (x:Str×NameKind) (r:List (Str×Addr))=>if x.2 == .free then (do let a ← cellOf env x.1; pure (.yield ((x.1,a)::r))) else pure (.yield r):=by
      funext x r
      exact hf x r
    rw [this,h1]
    rfl
  refine e _ fun x r=>?_
  obtain ⟨n,k⟩:=x
  cases hk:k == NameKind.free <;> simp [hk]
section
variable {prog:Program} {w:World} {A:Around} {E:Value→Shared→Prop} {R:Result→Shared→Prop} {s:Shared}
theorem comp_loop {elt target iter:Expr} {ifs:List Expr} {scope:Scope} {pos:Pos} {it acc:Value} {env:Env} (I:Nat→Shared→Prop)
    (turn:∀ n s,I n s→wpAny (model prog w) A (pyNext it) (fun r s₁=>match r with
      | none=>R (.ok .next) s₁
      | some v=>wpAny (model prog w) A (letOwnedTupleGo target it v) (fun _ s₁'=>wpAny (model prog w) A (assign target env v) (fun _ s₂ =>
          wpAny (model prog w) A (forIn ifs true fun c r=>if r=true then do let ok ← isTrue c env (eval c env); pure (ForInStep.yield ok) else pure (ForInStep.yield r)) (fun ok s₃ =>
            if ok=true then wpAny (model prog w) A (eval elt env) (fun x s₄ =>
              wpAny (model prog w) A (call (.builtin "list.append") [acc,x]) (fun _ s₅=>∃ m,m<n∧I m s₅) (fun _ _=>False) s₄) (fun _ _=>False) s₃
            else ∃ m,m<n∧I m s₃) (fun _ _=>False) s₂) (fun _ _=>False) s₁') (fun _ _=>False) s₁) (fun _ _=>False) s)
    (n:Nat) (h:I n s) :
    codeAny (model prog w) A (.compLoop (.ListComp elt [⟨target,iter,ifs,0⟩] scope pos) 0 it acc env) R s:=by
  refine codeAny_loop rfl I (fun n s hI=>?_) n h
  show wpAny _ A ((compTurn (.ListComp elt [⟨target,iter,ifs,0⟩] scope pos) 0 it acc env).onRaise (fun x=>do noteFrame x env; theTreesLotGoes x)) _ _ s
  refine wpAny_noted ?_
  rw [compTurn_list]
  refine wpAny_mono (E:=fun _ _=>False) ?_ (fun _ _ z=>z) fun _ _ z=>z.elim
  refine wpAny_bind (wpAny_standAt (wpAny_bind (wpAny_mono (turn n s hI) (fun r s₁ h₁=>?_) fun _ _ h'=>h')))
  cases r with
  | none=>exact wpAny_pure h₁
  | some v =>
    refine wpAny_bind (wpAny_mono h₁ (fun _ s₁' h₁'=>?_) fun _ _ h'=>h')
    refine wpAny_bind (wpAny_mono h₁' (fun _ s₂ h₂=>wpAny_bind (wpAny_mono h₂ (fun ok s₃ h₃=>?_) fun _ _ h'=>h')) fun _ _ h'=>h')
    cases ok with
    | false=>exact wpAny_pure ⟨rfl,h₃⟩
    | true =>
      exact wpAny_bind (wpAny_bind (wpAny_mono h₃ (fun x s₄ h₄=>wpAny_bind (wpAny_mono h₄ (fun _ s₅ h₅=>wpAny_pure (wpAny_pure ⟨rfl,h₅⟩)) fun _ _ h'=>h')) fun _ _ h'=>h'))
theorem comp_env {scope:Scope} {env:Env} {cl:List (Str×Addr)} {Q:Env→Shared→Prop}
    (hQ:Q { scope:=scope,locals:=s.heap.objs.size,globals:=env.globals,cells:=cellsFrom (s.heap.objs.size+1) scope.names cl,qual:=env.qual,func:=none,code:=env.code,frame:=env.frame,builtins:=env.builtins }
      { s with heap:=pushCells (s.heap.push { cls:=.type "dict",data:=.dict #[] }) scope.names }) :
    wpAny (model prog w) A (newFunctionEnv scope env.globals cl [] env.qual none .none (some env)) Q E s:=by
  simp only [newFunctionEnv,Option.isSome_some,if_true]
  refine wpAny_bind (wpAny_alloc ?_)
  refine wpAny_bind (wpAny_layCells _ (fun name kind cells=>by cases hkc:kind == NameKind.cell <;> simp [hkc]) _ _ _ _ ?_)
  rw [show ({ s with heap:=s.heap.push { cls:=.type "dict",data:=.dict #[] } }:Shared).heap.objs.size=s.heap.objs.size+1 from Heap.size_push ..]
  rw [List.forIn_nil]
  exact wpAny_bind (wpAny_pure (wpAny_pure hQ))
end
end L2
namespace L2
open PySem PySem.Spec PyProof.Rows
def compCx (X:Cx) (scope:Scope) (C:Addr) (cells:List (Str×Addr)) (N':List Str) (fp:List Addr) (s:Shared) (H:Hp):Cx where
  prog:=X.prog
  w:=X.w
  K:=X.K
  mg:=X.mg
  base:=X.base
  A:=X.A
  N:=N'
  s₀:=s
  H₀:=H
  env:={ scope:=relabel scope X.env,locals:=C,globals:=X.env.globals,cells:=cells,qual:=X.env.qual,func:=none,code:=X.env.code,frame:=X.env.frame,builtins:=X.env.builtins }
  outer:=X.stack
  stack:=X.stack
  ex:=fp
  fn:=fun y=>decide (scope.names.lookup y=some .cell)
  calm:=X.calm
  pn:=[]
  xe:=fun _ _=>False
def isCF:Option NameKind→Bool
  | some .cell=>true
  | some .free=>true
  | _=>false
theorem isCF_iff {o:Option NameKind} (h:isCF o=true):o=some .cell∨o=some .free:=by
  cases o with
  | none=>cases h
  | some k=>cases k <;> first | exact .inl rfl | exact .inr rfl | cases h
def capOk (env:Env) (scope:Scope) (y:Str):Bool:=isCF (env.scope.names.lookup y) && isCF ((relabel scope env).names.lookup y) && scope.names.all (fun z=>!(z.1 == y) || !(z.2 == .cell)) && scope.names.any fun z=>z.1 == y && z.2 == .free
def PTs (X:Cx) (ifs:List Expr) (t:TT):Prop :=
  ∀ (pins:List (Addr×Obj)) (s:Shared) (σ:St) (H:Hp) (Q:Bool→Hp→Prop),Inv X pins σ H s→t σ H Q→
    wpAny (model X.prog X.w) X.A (forIn ifs true fun c r=>if r=true then do let ok ← isTrue c X.env (eval c X.env); pure (ForInStep.yield ok) else pure (ForInStep.yield r)) (TP X pins σ Q) X.xe s
def tTrue:TT:=fun _ H Q=>Q true H
theorem pts_nil {X:Cx}:PTs X [] tTrue:=fun pins s σ H Q I h=>by
  rw [List.forIn_nil]
  exact wpAny_pure ⟨H,I,h⟩
theorem pts_one {X:Cx} {c:Expr} {t:TT} (h:PT X c t):PTs X [c] t:=fun pins s σ H Q I hw=>by
  rw [List.forIn_cons]
  simp only [if_true]
  refine wpAny_bind (wpAny_bind (thn (h pins s σ H Q I hw) fun b s1 q=>wpAny_pure ?_))
  show wpAny _ _ (forIn [] b _) _ _ s1
  rw [List.forIn_nil]
  exact wpAny_pure q
def capσ (nv:Nat) (ix:List Nat) (σ:St):St:=List.replicate nv none++ix.map fun i=>(σ[i]?).getD none
def CompAt (J:It) (g:TG) (tt:TT) (te:TE) (nv:Nat) (ix:List Nat) (σ:St) (Q:VK) (H1:Hp) (D:Addr):Prop:=∃ W:Nat→Nat→Hp→Prop,(∃ m,W 0 m (upd H1 D (.lst [])))∧∀ i m H2,W i m H2→
  (J.stop i H2∧Q (.ref D) H2)∨(J.go i H2∧∃ Nx:Hp→Prop,(∀ H',Nx H'→∃ m',m'<m∧W (i+1) m' H')∧∀ x H',J.yld i H2 x H'→g x (capσ nv ix σ) H' fun σ2 H3=>σ2.drop nv=(capσ nv ix σ).drop nv∧tt σ2 H3 fun b H4 =>
    if b=true then te σ2 H4 fun v H5=>∃ xs,H5 D=some (.lst xs)∧xs.length<sizeLine∧Nx (upd H5 D (.lst (xs++[v]))) else Nx H4)
def tComp (wi:TI) (g:TG) (tt:TT) (te:TE) (nv:Nat) (ix:List Nat):TE:=fun σ H Q=>wi σ H fun J H1=>∀ D,H1 D=none→CompAt J g tt te nv ix σ Q H1 D
section
variable {X:Cx} {elt target iter:Expr} {ifs:List Expr} {scope:Scope} {pos:Pos} {g:TG} {tt:TT} {te:TE}
theorem comp_block {pins:List (Addr×Obj)} {σ:St} {H:Hp} {s:Shared} {J:It} {fp:List Addr} {it:Addr} {tn:Nat→Heap→Prop} {Q:VK} {E:Value→Shared→Prop} {RR:Value→Addr→Result→Shared→Prop} {cl:List (Str×Addr)} (xs capN:List Str) (ix:List Nat) (hc:X.calm=true)
    (hg:∀ C cells fp s H,PG (compCx X scope C cells (xs++capN) fp s H) target g) (ht:∀ C cells fp s H,PTs (compCx X scope C cells (xs++capN) fp s H) ifs tt) (he:∀ C cells fp s H,PE (compCx X scope C cells (xs++capN) fp s H) elt te)
    (hix:ix.map (fun i=>X.N[i]?)=capN.map some) (hcap:capN.all (capOk X.env scope)=true) (hfree:scope.names.all (fun z=>!(z.2 == .free) || isCF (X.env.scope.names.lookup z.1))=true) (hkind:scope.kind=.function)
    (hclo:∀ y c,cl.lookup y=some c→X.env.cells.lookup y=some c) (hclh:∀ y∈scope.names,y.2=.free→∃ c,cl.lookup y.1=some c)
    (I:Inv X pins σ H s) (T:Turn X.prog X.w X.K target J fp it tn) (st:tn 0 s.heap) (hf:∀ b∈fp,FpOk X pins H b)
    (h:∀ D,H D=none→CompAt J g tt te xs.length ix σ Q H D)
    (hRR:∀ D C s' H' m,Inv X pins σ H' s'→FpOk X pins H' C→s'.heap.Ns C m→Q (.ref D) H'→RR (.ref D) C (.ok .next) s') :
    wpAny (model X.prog X.w) X.A (newList []) (fun acc s₃=>wpAny (model X.prog X.w) X.A (newFunctionEnv scope X.env.globals cl [] X.env.qual none .none (some X.env)) (fun cenv s₄ =>
      codeAny (model X.prog X.w) X.A (.compStart (.ListComp elt [⟨target,iter,ifs,0⟩] scope pos) 0 (.ref it) acc { cenv with scope:=relabel scope X.env }) (RR acc cenv.locals) s₄) E s₃) E s:=by
  refine wpAny_newObj_type (comp_env ?_)
  generalize hD:s.heap.objs.size=D
  have nD:H D=none:=I.hok.fresh (Nat.le_of_eq hD)
  generalize hH1:s.heap.push { cls:=.type "list",dict:=none,data:=.seq ([]:List Value).toArray }=h1
  have z1:h1.objs.size=D+1:=by rw [← hH1,Heap.size_push,hD]
  have k1:∀ b o,s.heap.get? b=some o→h1.get? b=some o:=fun b o e=>by rw [← hH1]; exact Heap.get?_push_of_some _ e
  have l1:h1.get? D=some { cls:=.type "list",dict:=none,data:=.seq ([]:List Value).toArray }:=by rw [← hH1,← hD]; exact Heap.get?_push_size _ rfl
  show codeAny _ _ _ (RR (.ref D) h1.objs.size) { s with heap:=pushCells (h1.push { cls:=.type "dict",data:=.dict #[] }) scope.names }
  rw [z1]
  generalize hH2:h1.push { cls:=.type "dict",data:=.dict #[] }=h2
  have z2:h2.objs.size=D+2:=by rw [← hH2,Heap.size_push,z1]
  have k2:∀ b o,h1.get? b=some o→h2.get? b=some o:=fun b o e=>by rw [← hH2]; exact Heap.get?_push_of_some _ e
  have n2:h2.Ns (D+1) (fun _=>none):=by rw [← hH2,← z1]; exact Heap.Ns.new h1 (.type "dict")
  have ok:=cellsFrom_ok scope.names h2 (D+2) [] ⟨fun _ _ hm=>(nomatch hm),List.Pairwise.nil⟩ (Nat.le_of_eq z2.symm)
  rw [z2] at ok
  have k3:=pushCells_keeps scope.names h2
  have n3:(pushCells h2 scope.names).Ns (D+1) (fun _=>none):=n2.keeps k3
  generalize hH3:pushCells h2 scope.names=h3 at ok k3 n3
  have kk:∀ b o,s.heap.get? b=some o→h3.get? b=some o:=fun b o e=>k3 b o (k2 b o (k1 b o e))
  have l3:h3.get? D=some { cls:=.type "list",dict:=none,data:=.seq ([]:List Value).toArray }:=k3 _ _ (k2 _ _ l1)
  rw [cellsFrom_app]
  generalize hcs:cellsFrom (D+2) scope.names []=cs at ok
  have csn:∀ y,(∀ k,(y,k)∈scope.names→k≠.cell)→cs.lookup y=none:=fun y hy=>by rw [← hcs]; exact cellsFrom_none _ _ hy
  have csh:∀ y,scope.names.lookup y=some .cell→∃ c,cs.lookup y=some c:=fun y hy=>by rw [← hcs]; exact cell_has hy
  have cells_or:∀ y c,(cs++cl).lookup y=some c→(cs.lookup y=some c)∨(cs.lookup y=none∧cl.lookup y=some c):=fun y c e=>by
    rw [List.lookup_append] at e
    cases q:cs.lookup y with
    | some d=>rw [q] at e; exact .inl e
    | none=>rw [q] at e; exact .inr ⟨rfl,e⟩
  have newc:∀ y c,cs.lookup y=some c→D+2≤c∧h3.IsCell c none:=fun y c e=>⟨(ok.empty y c (PySem.mem_of_lookup e)).2,(ok.empty y c (PySem.mem_of_lookup e)).1⟩
  have oldc:∀ y c,cl.lookup y=some c→D > c∧(∃ v,h3.IsCell c v)∧H c=none:=fun y c e=>by
    obtain ⟨v,q⟩:=I.cell y c (hclo y c e)
    exact ⟨by rw [← hD]; exact q.lt,⟨v,q.keeps kk⟩,I.freeC y c (hclo y c e)⟩
  have szD:s.heap.objs.size≤D:=Nat.le_of_eq hD
  have szC:s.heap.objs.size≤D+1:=by omega
  let X':Cx:=compCx X scope (D+1) (cs++cl) (xs++capN) fp s H
  have fpD:∀ b∈fp,D > b:=fun b hb=>by
    obtain ⟨o,e,_⟩:=T.obj 0 s.heap st b hb
    rw [← hD]
    exact Heap.lt_size e
  have okX:X'.Ok:=by
    refine ⟨I.ok.mod,?_,I.ok.glob,I.ok.blt,szC,fun x y c h1 h2=>?_,fun x hx=>?_,fun x c hx hl=>?_,fun _=>I.ok.hd hc,I.ok.frames,.inl rfl,fun b hb=>⟨?_,fun x c hl z=>?_⟩,fun b o e=>⟨(I.bs b o e).1,(I.bs b o e).2⟩,Nat.le_trans I.ok.bsz I.sz,fun b o e hb=>?_,fun b hb hz=>?_,I.stack,I.stkFree⟩
    · show (relabel scope X.env).kind=.function
      exact hkind
    · rcases cells_or x c h1 with e1 | ⟨_,e1⟩ <;> rcases cells_or y c h2 with e2 | ⟨_,e2⟩
      · exact name_of_addr ok.apart (PySem.mem_of_lookup e1) (PySem.mem_of_lookup e2)
      · have a1:=(newc x c e1).1
        have a2:=(oldc y c e2).1
        omega
      · have a1:=(newc y c e2).1
        have a2:=(oldc x c e1).1
        omega
      · exact I.ok.inj x y c (hclo x c e1) (hclo y c e2)
    ·
      have hm:∃ k,(x,k)∈scope.names∧(k=.free∨k=.cell):=by
        have hx':(relabel scope X.env).names.lookup x=some .cell∨(relabel scope X.env).names.lookup x=some .free:=hx
        have mem:∀ k,(relabel scope X.env).names.lookup x=some k→(x,k)∈(relabel scope X.env).names:=fun k e=>PySem.mem_of_lookup e
        rcases hx' with e | e
        · obtain ⟨⟨n,k⟩,h1,h2⟩:=List.mem_map.mp (mem _ e)
          by_cases q:(k == NameKind.free && X.env.scope.kind == .function && X.env.kindOf n == some .cell)=true
          · simp only [q,if_true] at h2
            cases h2
            simp only [Bool.and_eq_true] at q
            exact ⟨k,h1,.inl (beq_iff_eq.mp q.1.1)⟩
          · simp only [q] at h2
            cases h2
            exact ⟨_,h1,.inr rfl⟩
        · obtain ⟨⟨n,k⟩,h1,h2⟩:=List.mem_map.mp (mem _ e)
          by_cases q:(k == NameKind.free && X.env.scope.kind == .function && X.env.kindOf n == some .cell)=true
          · simp only [q,if_true] at h2
            cases h2
          · simp only [q] at h2
            cases h2
            exact ⟨_,h1,.inl rfl⟩
      obtain ⟨k,hk,hk2⟩:=hm
      show ∃ c,(cs++cl).lookup x=some c
      rw [List.lookup_append]
      cases q:cs.lookup x with
      | some d=>exact ⟨d,rfl⟩
      | none =>
        rcases hk2 with z | z
        · subst z
          obtain ⟨c,e⟩:=hclh _ hk rfl
          exact ⟨c,e⟩
        · subst z
          exfalso
          have:∀ (names:List (Str×NameKind)) (n:Nat),(x,NameKind.cell)∈names→(cellsFrom n names []).lookup x≠none:=by
            intro names
            induction names with
            | nil=>intro n hm; cases hm
            | cons p r ih =>
              intro n hm
              obtain ⟨a,b⟩:=p
              unfold cellsFrom
              split
              · rw [cellsFrom_app,List.lookup_append]
                rcases List.mem_cons.mp hm with z | z
                · cases z
                  cases (cellsFrom (n+1) r []).lookup x with
                  | some d=>intro z; cases z
                  | none=>simp
                · cases e:(cellsFrom (n+1) r []).lookup x with
                  | some d=>intro z; cases z
                  | none=>exact absurd e (ih (n+1) z)
              · rename_i hb
                rcases List.mem_cons.mp hm with z | z
                · cases z
                  exact absurd rfl hb
                · exact ih n z
          exact this scope.names (D+2) hk (by rw [hcs]; exact q)
    · have hx':scope.names.lookup x=some .cell:=of_decide_eq_true hx
      rcases cells_or x c hl with e1 | ⟨e0,_⟩
      · have:=(newc x c e1).1
        show s.heap.objs.size≤c
        omega
      · obtain ⟨d,e⟩:=csh x hx'
        rw [e0] at e
        cases e
    · exact Nat.ne_of_lt (Nat.lt_succ_of_lt (fpD b hb))
    · rcases cells_or x c hl with e1 | ⟨_,e1⟩
      · have a1:=(newc x c e1).1
        have a2:=fpD b hb
        subst z
        omega
      · exact (hf b hb).2.2.2.2.1 x c (hclo x c e1) z
    · obtain ⟨f0,f1,f2,f3,_⟩:=hf b hb
      rcases f3 with z | z
      · exact I.ok.noex b o e z
      · have a1:=(I.ok.bs b o e).1
        exact absurd (Nat.lt_of_lt_of_le (Heap.lt_size a1) z) (Nat.lt_irrefl _)
    · have z:=I.stkSub b hz
      rcases List.mem_cons.mp z with q | q
      · exact (hf b hb).2.1 q
      · exact (hf b hb).2.2.1 q
  have hgens:AllBare s.gens:=I.bare
  have capl:capN.length=ix.length:=by
    have:=congrArg List.length hix
    rw [List.length_map,List.length_map] at this
    exact this.symm
  have I0:Inv X' [] (capσ xs.length ix σ) (upd H D (.lst [])) { s with heap:=h3 }:=by
    refine ⟨okX,rfl,hgens,Un.laid kk szD nD,⟨_,n3,fun i y v e1 e2 e3=>?_⟩,fun y c e=>?_,?_,fun y c e=>?_,fun p hp=>absurd hp (by show p∉([]:List (Addr×Obj))++[]; simp),I.hok.laid kk szD ⟨by decide,[],0,.nil,l3⟩,?_⟩
    ·
      have e1':(xs++capN)[i]?=some y:=e1
      have e2':(List.replicate xs.length none++ix.map fun i=>(σ[i]?).getD none)[i]?=some (some v):=e2
      by_cases hi:i<xs.length
      · rw [List.getElem?_append_left (by simpa using hi),List.getElem?_replicate] at e2'
        rw [if_pos hi] at e2'
        cases e2'
      · rw [List.getElem?_append_right (by omega)] at e1'
        rw [List.getElem?_append_right (by simpa using hi),List.length_replicate,List.getElem?_map] at e2'
        generalize i - xs.length=j at e1' e2'
        cases ej:ix[j]? with
        | none=>rw [ej] at e2'; cases e2'
        | some k =>
          rw [ej] at e2'
          have e2'':(σ[k]?).getD none=some v:=Option.some.inj e2'
          have hs:σ[k]?=some (some v):=by
            cases q:σ[k]? with
            | none=>rw [q] at e2''; cases e2''
            | some o=>rw [q] at e2''; exact congrArg some e2''
          have hN:X.N[k]?=some y:=by
            have q:=congrArg (fun l=>l[j]?) hix
            simp only [List.getElem?_map,ej,e1',Option.map_some] at q
            exact Option.some.inj q
          have hyc:=List.all_eq_true.mp hcap y (List.mem_of_getElem? e1')
          unfold capOk at hyc
          simp only [Bool.and_eq_true] at hyc
          obtain ⟨⟨⟨c1,c2⟩,c3⟩,c4⟩:=hyc
          have vis:Vis X.env.scope y:=(isCF_iff c1).elim (fun z=>.inr (.inl z)) fun z=>.inr (.inr z)
          obtain ⟨m0,_,hl0⟩:=I.loc
          obtain ⟨u,ru,lk⟩:=hl0 k y v hN hs vis
          refine ⟨u,ru,.inr ⟨isCF_iff c2,?_⟩⟩
          rcases lk with ⟨q,_⟩ | ⟨_,c,ec,hcell⟩
          · have q':X.env.scope.names.lookup y=some .local:=q
            rw [q'] at c1
            cases c1
          · have no:cs.lookup y=none:=csn y fun k hk z=>by
              have:=List.all_eq_true.mp c3 _ hk
              subst z
              simp at this
            obtain ⟨z,hz,hz2⟩:=List.any_eq_true.mp c4
            simp only [Bool.and_eq_true] at hz2
            have ez:z.1=y:=beq_iff_eq.mp hz2.1
            obtain ⟨d,ed⟩:=hclh z hz (beq_iff_eq.mp hz2.2)
            rw [ez] at ed
            have:d=c:=Option.some.inj ((hclo y d ed).symm.trans ec)
            subst this
            refine ⟨d,?_,hcell.keeps kk⟩
            show (cs++cl).lookup y=some d
            rw [List.lookup_append,no]
            exact ed
    · rcases cells_or y c e with e1 | ⟨_,e1⟩
      · exact ⟨none,(newc y c e1).2⟩
      · exact (oldc y c e1).2.1
    · show (upd H D (.lst [])) (D+1)=none
      rw [upd_ne (Nat.succ_ne_self D)]
      exact I.hok.fresh szC
    · rcases cells_or y c e with e1 | ⟨_,e1⟩
      · have a1:=(newc y c e1).1
        rw [upd_ne (Nat.ne_of_gt (by omega:D<c))]
        exact I.hok.fresh (by omega)
      · have a1:=oldc y c e1
        rw [upd_ne (Nat.ne_of_lt a1.1)]
        exact a1.2.2
    · show (capσ xs.length ix σ).length=(xs++capN).length
      unfold capσ
      rw [List.length_append,List.length_replicate,List.length_map,List.length_append,capl]
  have st3:tn 0 h3:=T.keep 0 s.heap h3 st fun b _ o e=>kk b o e
  obtain ⟨W,⟨m0,w0⟩,turn⟩:=h D nD
  have fpX:∀ {pins':List (Addr×Obj)} {H':Hp},(∀ b∈fp,H' b=none)→(∀ p∈pins',∀ b∈fp,p.1≠b)→∀ b∈fp,FpOk X' pins' H' b:=fun {pins' H'} hn hp b hb=>by
    refine ⟨hn b hb,(okX.exf b hb).1,okX.exfs b hb,.inl hb,(okX.exf b hb).2,fun p hp'=>?_⟩
    rcases List.mem_append.mp hp' with q | q
    · exact absurd (show p∈([]:List (Addr×Obj)) from q) (by simp)
    · exact hp p q b hb
  have noHP:∀ {H':Hp},(∀ b∈fp,H' b=none)→∀ b∈fp,FpOk X' [] H' b:=fun hn=>fpX hn fun p hp=>absurd hp (by simp)
  have loop:∀ s₃:Shared,s₃={ s with heap:=h3 }→codeAny (model X.prog X.w) X.A (.compLoop (.ListComp elt [⟨target,iter,ifs,0⟩] scope pos) 0 (.ref it) (.ref D) X'.env) (RR (.ref D) (D+1)) s₃:=by
    rintro s₃ rfl
    refine comp_loop (fun n s'=>∃ i H',Inv X' [] (capσ xs.length ix σ) H' s'∧tn i s'.heap∧(∀ b∈fp,H' b=none)∧W i n H') ?_ m0 ⟨0,_,I0,st3,fun b hb=>?_,w0⟩
    · rintro n s' ⟨i,H',I',st',fr',w'⟩
      rcases turn i n H' w' with ⟨stop,q⟩ | ⟨go,Nx,hN,step⟩
      · refine thn (T.done X' rfl rfl rfl hc i [] s' _ H' _ I' (noHP fr') st' stop) fun r s4 ⟨hr,I4⟩=>?_
        subst hr
        obtain ⟨m,hn4,_⟩:=I4.loc
        have u4:Un (frs X.stack) fp H H' s.heap s4.heap:=I4.base
        have J4:Inv X pins σ H' s4:=I.call' I4.os u4 I4.hok I4.bare fun b hb=>by
          obtain ⟨f0,f1,f2,f3,f4,f5⟩:=hf b hb
          exact ⟨f3,f1,f4,f5⟩
        refine hRR D (D+1) s4 H' m J4 ⟨I4.free,?_,?_,.inr (Nat.le_trans I.sz szC),fun x c e z=>?_,fun p hp z=>?_⟩ hn4 q
        · exact Nat.ne_of_gt (Nat.lt_of_lt_of_le I.lt szC)
        · exact I.nofs szC
        · obtain ⟨v,qq⟩:=I.cell x c e
          exact Nat.ne_of_lt (Nat.lt_of_lt_of_le qq.lt szC) z
        · exact Nat.ne_of_lt (Nat.lt_of_lt_of_le (Heap.lt_size (I.pin p hp).1) szC) z
      · refine thn (T.item X' rfl rfl rfl hc i [] s' _ H' _ I' (noHP fr') st' go) fun r s4 ⟨u,hr,h4⟩=>?_
        subst hr
        refine thn h4 fun _ s5 ⟨x,H5,I5,r5,y5,st5,fr5⟩=>?_
        have I5':=I5.pinned (noHP fr5) (T.obj _ _ st5)
        have back:∀ {σ7:St} {H7:Hp} {s7:Shared},Inv X' ([]++pinsAt fp s5.heap) σ7 H7 s7→(∀ (j:Nat) v,(capσ xs.length ix σ)[j]?=some (some v)→σ7[j]?=some (some v))→Nx H7→∃ m,m<n∧∃ i H',Inv X' [] (capσ xs.length ix σ) H' s7∧tn i s7.heap∧(∀ b∈fp,H' b=none)∧W i m H':=fun {σ7 H7 s7} I7 hσ n7=>by
          obtain ⟨m',hm,w7⟩:=hN H7 n7
          have I8:Inv X' [] (capσ xs.length ix σ) H7 s7:=(I7.weak (by rw [I7.len]; exact I0.len) hσ).pins_of fun p hp=>absurd hp (by simp)
          refine ⟨m',hm,i+1,H7,I8,T.keep _ _ _ st5 fun b hb o e=>(I7.pin (b,o) (List.mem_append_right _ (List.mem_append_right _ (mem_pinsAt hb e)))).1,fun b hb=>?_,w7⟩
          obtain ⟨o,e,d⟩:=T.obj _ _ st5 b hb
          exact (I7.pin (b,o) (List.mem_append_right _ (List.mem_append_right _ (mem_pinsAt hb e)))).2.1
        have conv:∀ σ7:St,σ7.drop xs.length=(capσ xs.length ix σ).drop xs.length→∀ (j:Nat) v,(capσ xs.length ix σ)[j]?=some (some v)→σ7[j]?=some (some v):=fun σ7 e j v q=>by
          by_cases hj:j<xs.length
          · unfold capσ at q
            rw [List.getElem?_append_left (by simpa using hj),List.getElem?_replicate,if_pos hj] at q
            cases q
          · have e2:=congrArg (fun l=>l[j - xs.length]?) e
            simp only [List.getElem?_drop] at e2
            rw [show xs.length+(j - xs.length)=j by omega] at e2
            rw [e2]
            exact q
        refine thn (hg _ _ _ _ _ _ s5 _ H5 x u _ I5' r5 (step x H5 y5)) fun _ s6 ⟨σ6,H6,I6,hσ,q6⟩=>?_
        refine thn (ht _ _ _ _ _ _ s6 σ6 H6 _ I6 q6) fun b s7 ⟨H7,I7,q7⟩=>?_
        cases b with
        | false =>
          rw [if_neg Bool.false_ne_true]
          rw [if_neg Bool.false_ne_true] at q7
          exact back I7 (conv σ6 hσ) q7
        | true =>
          rw [if_pos rfl]
          rw [if_pos rfl] at q7
          refine thn (he _ _ _ _ _ _ s7 σ6 H7 _ I7 q7) fun v s8 ⟨y,H8,I8,r8,ys,hy,hl,q8⟩=>?_
          refine thn (mt_append _ s8 σ6 H8 (.ref D) [y] (.ref D) [v] (fun _ H9=>Nx H9) I8 rfl (.cons r8 .nil) ⟨D,ys,y,rfl,rfl,hy,hl,q8⟩) fun _ s9 ⟨_,H9,I9,_,q9⟩=>?_
          exact back I9 (conv σ6 hσ) q9
    · rw [upd_ne (Nat.ne_of_lt (fpD b hb))]
      exact (hf b hb).1
  exact codeAny_compStart_list (loop _ rfl) (wpAny_mono (T.self X.A 0 _ _ (fun _ _=>False) st3 (loop _ rfl)) (fun _ _ z=>z) fun _ _ z=>z.elim)
theorem pe_comp {wi:TI} (xs capN:List Str) (ix:List Nat) (hc:X.calm=true) (hi:PI X target iter wi)
    (hg:∀ C cells fp s H,PG (compCx X scope C cells (xs++capN) fp s H) target g) (ht:∀ C cells fp s H,PTs (compCx X scope C cells (xs++capN) fp s H) ifs tt) (he:∀ C cells fp s H,PE (compCx X scope C cells (xs++capN) fp s H) elt te)
    (hix:ix.map (fun i=>X.N[i]?)=capN.map some:=by rfl) (hcap:capN.all (capOk X.env scope)=true:=by rfl) (hfree:scope.names.all (fun z=>!(z.2 == .free) || isCF (X.env.scope.names.lookup z.1))=true:=by rfl) (hkind:scope.kind=.function:=by rfl)
    (hnames:scope.names.all (fun z=>!(z.2 == .local) || scope.names.lookup z.1 == some .local)=true:=by decide +kernel) (hs:∀ x,foldedSetIterable iter X.env x=pure x:=by intro _; rfl) :
    PE X (.ListComp elt [⟨target,iter,ifs,0⟩] scope pos) (tComp wi g tt te xs.length ix):=by
  intro pins s σ H Q I h
  have hcf:∀ y∈scope.names,y.2=.free→∃ c,X.env.cells.lookup y.1=some c:=fun y hy hf=>by
    have:=List.all_eq_true.mp hfree y hy
    rw [hf] at this
    exact I.ok.has y.1 (isCF_iff (show isCF (X.env.scope.names.lookup y.1)=true by simpa using this))
  obtain ⟨cl,hcl,h2,h3⟩:=closure_ok hcf
  rw [eval_ListComp]
  refine wpAny_comprehension_free (use:=none) rfl hs hcl hkind (fun x hx hl=>?_) (thn (hi pins s σ H _ I h) fun v s1 h1=>thn h1 fun itv s2 ⟨it,fp,tn,J,H2,e,I2,T,st,hf,q⟩=>?_)
  · have:=List.all_eq_true.mp hnames x hx
    rw [hl] at this
    simpa using this
  subst e
  refine comp_block (RR:=fun acc C=>compPost (model X.prog X.w) X.A X.xe none (EP X pins σ Q) acc C) xs capN ix hc hg ht he hix hcap hfree hkind h2 h3 I2 T st hf q ?_
  intro D C s' H' m I' fC hn q'
  refine ⟨m,hn,fun h' hs'=>⟨.ref D,H',?_,rfl,q'⟩⟩
  obtain ⟨f0,f1,f2,f3,f4,f5⟩:=fC
  exact I'.turned (t':=s'.toks) (fun b o hb e=>(hs'.2 b hb).trans e) f0 f1 f3 f4 f5
end
end L2
namespace L2
open PySem PySem.Spec PyProof.Rows
section
variable {X:Cx} {elt target iter:Expr} {ifs:List Expr} {scope:Scope} {pos spos px:Pos} {g:TG} {tt:TT} {te:TE}
theorem ps_setComp {wi:TI} {i:Nat} {x:Str} (xs capN:List Str) (ix:List Nat) (hc:X.calm=true) (hN:X.N.Nodup) (hxi:X.N[i]?=some x) (hx:Loc X.env.scope x) (hi:PI X target iter wi)
    (hg:∀ C cells fp s H,PG (compCx X scope C cells (xs++capN) fp s H) target g) (ht:∀ C cells fp s H,PTs (compCx X scope C cells (xs++capN) fp s H) ifs tt) (he:∀ C cells fp s H,PE (compCx X scope C cells (xs++capN) fp s H) elt te)
    (hix:ix.map (fun i=>X.N[i]?)=capN.map some:=by rfl) (hcap:capN.all (capOk X.env scope)=true:=by rfl) (hfree:scope.names.all (fun z=>!(z.2 == .free) || isCF (X.env.scope.names.lookup z.1))=true:=by rfl) (hkind:scope.kind=.function:=by rfl)
    (hnames:scope.names.all (fun z=>!(z.2 == .local) || scope.names.lookup z.1 == some .local)=true:=by decide +kernel) (hs:∀ x,foldedSetIterable iter X.env x=pure x:=by intro _; rfl)
    (hsw:swapsWith (.ListComp elt [⟨target,iter,ifs,0⟩] scope pos) (some (.Name x px)) spos.line X.env=pure true:=by rfl)
    (hf:X.fn x=true∨X.env.scope.names.lookup x=some .local:=by first | exact .inl rfl | exact .inr rfl | assumption) :
    PS X (.Assign [.Name x px] (.ListComp elt [⟨target,iter,ifs,0⟩] scope pos) spos) (tAsg (tComp wi g tt te xs.length ix) (gName i)):=by
  intro pins s σ H D I h
  have hcf:∀ y∈scope.names,y.2=.free→∃ c,X.env.cells.lookup y.1=some c:=fun y hy hf=>by
    have:=List.all_eq_true.mp hfree y hy
    rw [hf] at this
    exact I.ok.has y.1 (isCF_iff (show isCF (X.env.scope.names.lookup y.1)=true by simpa using this))
  obtain ⟨cl,hcl,h2,h3⟩:=closure_ok hcf
  rw [exec_Assign_Name_used _ _ _ _ hsw]
  refine wpAny_bind (wpAny_standAt (wpAny_bind ?_))
  show wpAny _ X.A (do let _ ← comprehension (.ListComp elt [⟨target,iter,ifs,0⟩] scope pos) scope X.env _ (newList []) false (eval iter X.env) (some (assign (.Name x px) X.env))) _ _ s
  refine wpAny_bind (wpAny_mono (wpAny_comprehension_free (use:=some (assign (.Name x px) X.env)) (Q:=fun _ s'=>SP X pins D .next s') rfl hs hcl hkind (fun x hx hl=>?_)
    (thn (hi pins s σ H _ I h) fun v s1 h1=>thn h1 fun itv s2 ⟨it,fp,tn,J,H2,e,I2,T,st,hf',q⟩=>?_)) (fun _ s' hq=>wpAny_pure (wpAny_pure hq)) fun _ _ e=>e)
  · have:=List.all_eq_true.mp hnames x hx
    rw [hl] at this
    simpa using this
  subst e
  refine comp_block (Q:=fun v H1=>gName i v σ H1 D.nx) (RR:=fun acc C=>compPost (model X.prog X.w) X.A X.xe (some (assign (.Name x px) X.env)) (fun _ s'=>SP X pins D .next s') acc C) xs capN ix hc hg ht he hix hcap hfree hkind h2 h3 I2 T st hf' q ?_
  intro E C s' H' m I' fC hn q'
  obtain ⟨f0,f1,f2,f3,f4,f5⟩:=fC
  obtain ⟨oC,es,ep,hoC,hdC,r⟩:=hn
  have I'':Inv X (pins++[(C,oC)]) σ H' s':=I'.pins_of fun p hp=>by
    rcases List.mem_append.mp hp with z | z
    · exact I'.pin p (List.mem_append_right _ z)
    · have e:p=(C,oC):=by simpa using z
      subst e
      exact ⟨hoC,f0,f1,f2,fun v z=>by rw [hdC] at z; cases z⟩
  show wpAny _ X.A (assign (.Name x px) X.env (.ref E)) _ _ s'
  refine thn (pg_name hN hxi hx hf _ s' σ H' (.ref E) (.ref E) _ I'' rfl q') fun _ s4 ⟨σ2,H4,I4,q4⟩=>?_
  have hp4:=I4.pin (C,oC) (List.mem_append_right _ (List.mem_append_right _ (by simp)))
  refine ⟨m,⟨oC,es,ep,hp4.1,hdC,r⟩,fun h' hs'=>⟨σ2,H4,?_,q4⟩⟩
  have I5:Inv X pins σ2 H4 s4:=I4.unpinned
  exact I5.turned (t':=s4.toks) (fun b o hb e=>(hs'.2 b hb).trans e) hp4.2.1 f1 f3 f4 f5
end
theorem comp_list {K:PySem.W.Frag} {a:Addr} {xs:List V} {g:TG} {tt:TT} {te:TE} {nv:Nat} {ix:List Nat} {σ:St} {D:Addr} {H:Hp} {Q:VK} (Pv:Nat→List V→Hp→Prop) (h0:Pv 0 [] (upd H D (.lst []))) (hl:∀ i ys H,i≤xs.length→Pv i ys H→SqL K H a xs)
    (hs:∀ i x ys H,xs[i]?=some x→Pv i ys H→H D=some (.lst ys)→g x (capσ nv ix σ) H fun σ2 H3=>σ2.drop nv=(capσ nv ix σ).drop nv∧tt σ2 H3 fun b H4 =>
      if b=true then te σ2 H4 fun v H5=>∃ zs,H5 D=some (.lst zs)∧zs.length<sizeLine∧(∃ ys',Pv (i+1) ys' (upd H5 D (.lst (zs++[v])))∧(upd H5 D (.lst (zs++[v]))) D=some (.lst ys')) else ∃ ys',Pv (i+1) ys' H4∧H4 D=some (.lst ys'))
    (hd:∀ ys H,Pv xs.length ys H→H D=some (.lst ys)→Q (.ref D) H) :
    CompAt (Itl K a) g tt te nv ix σ Q H D:=by
  refine ⟨fun i m H2=>m=xs.length - i∧i≤xs.length∧∃ ys,Pv i ys H2∧H2 D=some (.lst ys),⟨xs.length,by simp,Nat.zero_le _,[],h0,upd_same⟩,?_⟩
  rintro i m H2 ⟨rfl,hi,ys,p,hD⟩
  have q:=hl i ys H2 hi p
  by_cases hlt:i<xs.length
  · refine .inr ⟨⟨xs,xs[i],q,by simp [hlt]⟩,fun H'=>∃ ys,Pv (i+1) ys H'∧H' D=some (.lst ys),fun H' p'=>⟨xs.length - (i+1),by omega,rfl,hlt,p'⟩,fun x H' y=>?_⟩
    obtain ⟨e,y⟩:=y
    subst e
    exact hs i x ys _ (y xs q) p hD
  · have e:i=xs.length:=by omega
    subst e
    exact .inl ⟨⟨xs,q,Nat.le_refl _⟩,hd ys H2 p hD⟩
theorem comp_range {lo:Int} {n:Nat} {g:TG} {tt:TT} {te:TE} {nv:Nat} {ix:List Nat} {σ:St} {D:Addr} {H:Hp} {Q:VK} (Pv:Nat→List V→Hp→Prop) (h0:Pv 0 [] (upd H D (.lst [])))
    (hs:∀ i ys H,i<n→Pv i ys H→H D=some (.lst ys)→g (.int (lo+i)) (capσ nv ix σ) H fun σ2 H3=>σ2.drop nv=(capσ nv ix σ).drop nv∧tt σ2 H3 fun b H4 =>
      if b=true then te σ2 H4 fun v H5=>∃ zs,H5 D=some (.lst zs)∧zs.length<sizeLine∧(∃ ys',Pv (i+1) ys' (upd H5 D (.lst (zs++[v])))∧(upd H5 D (.lst (zs++[v]))) D=some (.lst ys')) else ∃ ys',Pv (i+1) ys' H4∧H4 D=some (.lst ys'))
    (hd:∀ ys H,Pv n ys H→H D=some (.lst ys)→Q (.ref D) H) :
    CompAt (Itr lo n) g tt te nv ix σ Q H D:=by
  refine ⟨fun i m H2=>m=n - i∧i≤n∧∃ ys,Pv i ys H2∧H2 D=some (.lst ys),⟨n,by simp,Nat.zero_le _,[],h0,upd_same⟩,?_⟩
  rintro i m H2 ⟨rfl,hi,ys,p,hD⟩
  by_cases hlt:i<n
  · refine .inr ⟨hlt,fun H'=>∃ ys,Pv (i+1) ys H'∧H' D=some (.lst ys),fun H' p'=>⟨n - (i+1),by omega,rfl,hlt,p'⟩,fun x H' y=>?_⟩
    obtain ⟨e,y⟩:=y
    subst e y
    exact hs i ys _ hlt p hD
  · have e:i=n:=by omega
    subst e
    exact .inl ⟨Nat.le_refl _,hd ys H2 p hD⟩
end L2
namespace L2
open PySem PySem.Spec PyProof.Rows
def eqL:List V→List V→Bool
  | [],[]=>true
  | x::xs,y::ys=>eqV x y && eqL xs ys
  | _,_=>false
def eqJ (xs ys:List V) (j:Nat):Bool:=match xs[j]?,ys[j]? with
  | some a,some b=>eqV a b
  | _,_=>false
theorem all_eqJ:∀ (xs ys:List V),xs.length=ys.length→(List.range xs.length).all (eqJ xs ys)=eqL xs ys
  | [],[],_=>rfl
  | x::xs,y::ys,h=>by
    have ih:=all_eqJ xs ys (Nat.succ.inj h)
    rw [List.length_cons,List.range_succ_eq_map,List.all_cons,List.all_map]
    show (eqV x y && (List.range xs.length).all (eqJ xs ys))=(eqV x y && eqL xs ys)
    rw [ih]
theorem eqL_len:∀ {xs ys:List V},¬ xs.length=ys.length→eqL xs ys=false
  | [],[],h=>absurd rfl h
  | [],_::_,_=>rfl
  | _::_,[],_=>rfl
  | x::xs,y::ys,h=>by
    unfold eqL
    rw [eqL_len (fun e=>h (congrArg (·+1) e)),Bool.and_false]
section
variable {X:Cx}
def rEqL (K:PySem.W.Frag) (neg:Bool):R2:=fun x y H Q=>∃ a b xs ys,x=.ref a∧y=.ref b∧SqL K H a xs∧SqL K H b ys∧xs.all flatV=true∧ys.all flatV=true∧Q (.bl (if neg then !eqL xs ys else eqL xs ys)) H
theorem eqL_at {A:Around} {s:Shared} {xs ys:List V} {us ws:List Value} (r:Vals xs us) (r':Vals ys ws) (f:xs.all flatV=true) (f':ys.all flatV=true) :
    ∀ j (h1:j<us.toArray.size) (h2:j<ws.toArray.size),SeqAt.EqAt A s us.toArray[j] ws.toArray[j] (eqJ xs ys j):=fun j h1 h2=>by
  have l1:=r.length
  have l2:=r'.length
  simp only [List.size_toArray] at h1 h2
  have e1:xs[j]?=some xs[j]:=List.getElem?_eq_getElem (by omega)
  have e2:ys[j]?=some ys[j]:=List.getElem?_eq_getElem (by omega)
  obtain ⟨u,hu,ru⟩:=r.get e1
  obtain ⟨v,hv,rv⟩:=r'.get e2
  have fu:=List.all_eq_true.mp f _ (List.mem_of_getElem? e1)
  have fv:=List.all_eq_true.mp f' _ (List.mem_of_getElem? e2)
  have eu:us.toArray[j]=u:=by
    have:us[j]?=some us[j]:=List.getElem?_eq_getElem h1
    rw [this] at hu
    exact Option.some.inj hu
  have ev:ws.toArray[j]=v:=by
    have:ws[j]?=some ws[j]:=List.getElem?_eq_getElem h2
    rw [this] at hv
    exact Option.some.inj hv
  rw [eu,ev]
  unfold eqJ
  rw [e1,e2]
  exact eqAt_V ru rv fu fv
theorem op_eqL (hu:X.A.units<cLine):OpR X (compareOp .Eq) (rEqL X.K false):=by
  intro pins s σ H x y v u Q I rx ry h
  obtain ⟨a,b,xs,ys,rfl,rfl,ha,hb,fa,fb,q⟩:=h
  cases rx
  cases ry
  obtain ⟨us,r1,p1,_⟩:=I.list ha
  obtain ⟨ws,r2,p2,_⟩:=I.list hb
  have l1:=r1.length
  have l2:=r2.length
  by_cases hl:xs.length=ys.length
  · refine SeqAt.eq_listAt p1.isList p2.isList (by simp only [List.size_toArray]; omega) hu (eqL_at r1 r2 fa fb) ⟨.bl (eqL xs ys),H,I,?_,q⟩
    show Value.bool _=Value.bool _
    rw [List.size_toArray,← l1,all_eqJ _ _ hl]
  · refine SeqAt.eq_list_lengthsAt p1.isList p2.isList (by simp only [List.size_toArray,bne_iff_ne]; omega) hu ⟨.bl (eqL xs ys),H,I,?_,q⟩
    show Value.bool _=Value.bool _
    rw [eqL_len hl]
theorem op_neL (hu:X.A.units<cLine):OpR X (compareOp .NotEq) (rEqL X.K true):=by
  intro pins s σ H x y v u Q I rx ry h
  obtain ⟨a,b,xs,ys,rfl,rfl,ha,hb,fa,fb,q⟩:=h
  cases rx
  cases ry
  obtain ⟨us,r1,p1,_⟩:=I.list ha
  obtain ⟨ws,r2,p2,_⟩:=I.list hb
  have l1:=r1.length
  have l2:=r2.length
  by_cases hl:xs.length=ys.length
  · refine SeqAt.RcNeAt.lists p1.isList p2.isList (by simp only [List.size_toArray]; omega) hu (eqL_at r1 r2 fa fb) _ _ _ _ ⟨.bl (!eqL xs ys),H,I,?_,q⟩
    show Value.bool _=Value.bool _
    rw [List.size_toArray,← l1,all_eqJ _ _ hl]
  · refine SeqAt.RcNeAt.lists_lengths p1.isList p2.isList (by simp only [List.size_toArray,bne_iff_ne]; omega) hu _ _ _ _ ⟨.bl (!eqL xs ys),H,I,?_,q⟩
    show Value.bool _=Value.bool _
    rw [eqL_len hl]
    rfl
theorem call_sorted:CallR X (.builtin "sorted") (fun xs H Q=>∃ (p:Addr) (ns:List Int),xs=[.ref p]∧SqL X.K H p (ns.map V.int)∧ns.length<64∧∀ (l:Addr) (ns':List Int),H l=none→ns'.Perm ns→ns'.Pairwise (·≤·)→Q (.ref l) (upd H l (.lst (ns'.map V.int)))):=by
  intro pins s σ H xs us Q I r h
  obtain ⟨p,ns,rfl,hp,hl,q⟩:=h
  obtain ⟨u,rfl,ru⟩:=vals1 r
  cases ru
  obtain ⟨its,rv,pl,hz⟩:=I.list hp
  have hlen:=rv.length
  rw [List.length_map] at hlen
  refine sorted_ints pl.isList (intsAre_of rv) (by omega) fun out ns' a1 a2 a3=>?_
  obtain ⟨e,he⟩:=sortedAll_at s.heap its out
  have hn:H (s.heap.objs.size+1)=none:=I.hok.fresh (Nat.le_succ _)
  refine ⟨.ref (s.heap.objs.size+1),_,I.laid (t':=s.toks) (o:=.lst (ns'.map V.int)) (fun _ _=>sortedAll_old) (Nat.le_succ _) ?_,rfl,q _ ns' hn a2 a3⟩
  refine ⟨?_,out.toList,e,vals_ints a1,?_⟩
  · rw [List.length_map,a2.length_eq]
    exact small (by omega)
  · simpa using he
theorem call_minL (hc:X.calm=true):CallR X (.builtin "min") (fun xs H Q=>∃ (p:Addr) (ns:List Int),xs=[.ref p]∧SqL X.K H p (ns.map V.int)∧0<ns.length∧∀ M,M∈ns→(∀ a,a∈ns→M≤a)→Q (.int M) H):=by
  intro pins s σ H xs us Q I r h
  obtain ⟨p,ns,rfl,hp,hl,q⟩:=h
  obtain ⟨u,rfl,ru⟩:=vals1 r
  cases ru
  obtain ⟨its,rv,pl,hz⟩:=I.list hp
  have hi:=intsAre_of rv
  obtain ⟨ys,e⟩:=hi.allInts.items
  have hns:ns=ys.toList.map (·.1):=by rw [← hi.numsOf,← nums_intItems,← e]
  have hsz:0<ys.size:=by
    have h3:=hl; rw [hns,List.length_map,Array.length_toList] at h3; exact h3
  have hL:=pl.isList
  rw [e] at hL
  refine min_intList (I.ok.hd hc) hL hsz fun v h' tk hv hk=>?_
  obtain ⟨t,rfl⟩:=intItems_at hv
  obtain ⟨h1,h2⟩:=argBest_lt (numAt ys) (ys.size - 1)
  refine ⟨.int _,H,I.kept hk,⟨t,rfl⟩,q _ ?_ fun a ha=>?_⟩
  · rw [hns,numAt_eq]; exact getD_mem (by rw [List.length_map,Array.length_toList]; omega)
  · rw [hns] at ha
    obtain ⟨j,hj,rfl⟩:=mem_getD ha
    rw [List.length_map,Array.length_toList] at hj
    rw [← numAt_eq]; exact h2 j (by omega)
def rRevL (K:PySem.W.Frag):V→Hp→VK→Prop:=fun x H Q=>∃ a xs,x=.ref a∧SqL K H a xs∧∀ p,H p=none→Q (.ref p) (upd H p (.lst xs.reverse))
def tRev (K:PySem.W.Frag) (te:TE):TE:=fun σ H Q=>te σ H fun x H1=>rRevL K x H1 Q
end
structure ClsFn (K:PySem.W.Frag) (C:Addr) (m:Str) (g:Addr):Prop where
  rd:PySem.W.readsIn K C (.type "type")=true
  at_:PySem.W.findCls K (.ref C) (.type "type") m=some (.val (.ref g))
  sp:PySem.W.specialIn K (.ref C) "__getattribute__"=some (some (.builtin "type.__getattribute__"))
  kp:PySem.W.keepIn K (.ref g)=true
section
variable {X:Cx} {CX:CXT} {k:Nat} {f C:Addr} {fd:FuncData} {ps:List Str} {sp:Sp} {dvs:List V} {ds:List Value} {E:XK} {x m:Str} {p pos apos:Pos} {e:Expr} {es:List Expr} {t:TA}
theorem pe_clsfn {pl:Sem Bool} (hg:Gl X x) (hm:X.mg x=some (.ref C)) (c:ClsFn X.K C m f) (F:FnOk X.prog X.w X.K X.mg X.base CX k f fd ps sp) (hr:Room k X.A) (hb:Binds X.K fd ps ds) (hd:Vals dvs ds) (hx:Passes CX X E) (ha:PA X (e::es) t)
    (hdb:(x == ("__debug__":Str))=false:=by decide) (hst:starEach (e::es) X.env=(false,eval e X.env)::starEach es X.env:=by rfl) (hpl:(backTo pos (starEach es X.env)).any (·.1)=false:=by rfl)
    (ht:eval (.Call (.Attribute (.Name x p) m apos) (e::es) [] pos) X.env=(do
      let ov ← eval (.Name x p) X.env
      standAt apos.atName
      let (f,first) ← holding [ov] (getMethod ov m pl)
      callWith pos f first (backTo pos (starEach (e::es) X.env)) (backToKw pos (keywordEach [] X.env))):=by rfl) :
    PE X (.Call (.Attribute (.Name x p) m apos) (e::es) [] pos) (tCall sp dvs E t):=by
  intro pins s σ H Q I h
  refine PySem.W.methodCall_KW (pl:=pl) (ld_glob I hg hm ?_ hdb) ht
  refine PySem.W.method_cls I.kIn c.sp (PySem.W.cls_value I.kIn c.rd c.at_ rfl ?_)
  have I1:Inv X pins σ H { s with toks:=s.toks+1 }:=I.tok _
  refine PySem.W.callWith_K (first:=[]) (h₀:=X.base) I.ok.mod.kin c.kp (thn (ha pos pins _ σ H _ I1 h) fun us s2 ⟨vs,H2,I2,r,q2⟩=>⟨I2.kIn,?_⟩) hst hpl
  exact run_fn (us:=us) (vs:=vs) F hr hb hd hx I2 r q2
end
end L2
namespace L2
open PySem PySem.Spec PyProof.Rows
def XAt (B h:Heap) (x:Addr) (C:Value) (d:Option Addr) (vs:Array Value):Prop:=B.get? x=none∧∃ sl,h.get? x=some ⟨C,d,.fields vs,sl⟩
def TAt (B h:Heap) (x:Addr) (vs:Array Value) (fl:Value):Prop:=∃ (T:Addr) (oT:Obj) (ts:Array Value),vs[1]?=some (.ref T)∧T≠x∧B.get? T=none∧h.get? T=some oT∧oT.data=.fields ts∧ts[3]?=some fl
structure Moved (l:List Env) (B h h':Heap):Prop where
  stay:B.StaysIn h'
  funs:h'.FunFrames B l
  slot:∀ b∈frs l,∀ o,h.get? b=some o→∃ sl,h'.get? b=some { o with slots:=sl }
section
variable {M:Model} {A:Around} {E:Value→Shared→Prop} {s:Shared} {B:Heap} {l:List Env} {x:Addr} {C:Value} {d:Option Addr} {vs:Array Value}
end
end L2
namespace L2
open PySem PySem.Spec PyProof.Rows
structure Fly (P:Program) (w:World) (outer:List Env) (H H':Hp) (g B:Heap) (x C:Addr) (d:Option Addr) (h':Heap):Prop where
  un:Un (frs outer) [] H H' g h'
  hok:HOk P w H' h'
  stay:B.StaysIn h'
  funs:h'.FunFrames B outer
  cov:∀ b o,g.get? b=some o→b∉frs outer→∃ o',B.get? b=some o'
  covT:∀ b o,H' b=some o→∃ o',B.get? b=some o'
  exc:∃ vs,XAt B h' x (.ref C) d vs∧TAt B h' x vs .none
def CXE (P:Program) (w:World):CXT:=fun outer H s E e s'=>∃ (x C:Addr) (d:Option Addr) (H':Hp) (B:Heap),e=.ref x∧s'.os=s.os∧AllBare s'.gens∧Fly P w outer H H' s.heap B x C d s'.heap∧E (.ref C) d H'
section
variable {P:Program} {w:World} {outer:List Env} {H H':Hp} {g B h h':Heap} {x C:Addr} {d:Option Addr}
end
def Starts (X:Cx) (E:XK):Prop:=∀ (pins:List (Addr×Obj)) (σ:St) (H:Hp) (s:Shared) (h':Heap) (x C:Addr) (sl:Array (Option Value)) (vs:Array Value),Inv X pins σ H s→(∀ b o,s.heap.get? b=some o→h'.get? b=some o)→
  s.heap.get? x=none→h'.get? x=some ⟨.ref C,none,.fields vs,sl⟩→vs[1]?=some .none→E (.ref C) none H→X.xe (.ref x) { s with heap:=h' }
section
variable {P:Program} {w:World} {K:PySem.W.Frag} {mg:Str→Option Value} {base:Heap} {N:List Str} {qual:Str} {scope:Scope} {f:Addr} {cd:Value} {A:Around} {outer:List Env} {s₀:Shared} {H₀:Hp} {E:XK}
end
end L2
namespace L2
open PySem PySem.Spec PyProof.Rows
section
variable {P:Program} {w:World} {K:PySem.W.Frag} {mg:Str→Option Value} {base:Heap} {k:Nat} {f:Addr} {fd:FuncData} {ps:List Str} {sp:Sp}
end
structure CalX (P:Program) (w:World) (K:PySem.W.Frag) (mg:Str→Option Value) (base:Heap) (k:Nat) (x:Str) (ps:List Str) (sp:Sp):Prop where
  ex:∃ f fd,FnOk P w K mg base (CXE P w) k f fd ps sp∧Binds K fd ps []∧PySem.W.keepIn K (.ref f)=true∧mg x=some (.ref f)
abbrev TX:=St→Hp→VK→XK→Prop
def FX (X:Cx) (pins:List (Addr×Obj)) (σ:St) (E:XK) (v:Value) (s':Shared):Prop:=∃ H1 s1,Inv X pins σ H1 s1∧CXE X.prog X.w X.stack H1 s1 E v s'
def PX (X:Cx) (e:Expr) (t:TX):Prop :=
  ∀ (pins:List (Addr×Obj)) (s:Shared) (σ:St) (H:Hp) (Q:VK) (E:XK),Inv X pins σ H s→t σ H Q E→wpAny (model X.prog X.w) X.A (eval e X.env) (EP X pins σ Q) (FX X pins σ E) s
section
variable {X:Cx} {k j:Nat} {f:Addr} {fd:FuncData} {ps:List Str} {sp:Sp} {E:XK} {x:Str} {p pos:Pos} {e:Expr} {es:List Expr} {t:TA}
end
def VE:List Value:=[.type "ValueError",.type "Exception",.type "BaseException",.type "object"]
def ExcC (K:PySem.W.Frag) (C:Addr):Prop:=PySem.W.excIn K C VE "ValueError.__new__"=true
def tRaise0 (E:XK) (C:Addr):TS:=fun _ _ H=>E (.ref C) none H
end L2
namespace L2
open PySem PySem.Spec PyProof.Rows
abbrev TSX:=Ends→XK→St→Hp→Prop
def PSX (X:Cx) (st:Stmt) (t:TSX):Prop :=
  ∀ (pins:List (Addr×Obj)) (s:Shared) (σ:St) (H:Hp) (D:Ends) (E:XK),Inv X pins σ H s→t D E σ H→wpAny (model X.prog X.w) X.A (exec st X.env) (SP X pins D) (FX X pins σ E) s
section
variable {X:Cx} {e:Expr} {tx:TX} {pos:Pos}
def sxDrop (tx:TX):TSX:=fun D E σ H=>tx σ H (fun _ H1=>D.nx σ H1) E
def sxRet (tx:TX):TSX:=fun D E σ H=>tx σ H D.rt E
def sxSet (i:Nat) (tx:TX):TSX:=fun D E σ H=>tx σ H (fun v H1=>D.nx (σ.set i (some v)) H1) E
end
def ExO (a C:Addr) (d:Option Addr):HO:=.ext fun h=>∃ vs sl,h.get? a=some ⟨.ref C,d,.fields vs,sl⟩
section
variable {P:Program} {w:World} {outer:List Env} {H H':Hp} {g B h:Heap} {x C:Addr} {d:Option Addr}
end
abbrev Cx.held (X:Cx) (x:Addr):Cx:={ X with A:=X.A.mark (some (.ref x)),calm:=false,xe:=fun _ _=>False }
section
variable {X:Cx} {pins:List (Addr×Obj)} {σ:St} {H:Hp} {s:Shared} {x:Addr}
end
section
variable {X:Cx} {st b0:Stmt} {suite:List Stmt} {c n:Str} {C0:Addr} {np hpos pos:Pos} {tb:TSX} {ts:TS}
def tTry (K:PySem.W.Frag) (C0:Addr) (tb:TSX) (ts:TS):TS:=fun D σ H=>tb D (fun c d H'=>PySem.W.exmOne K c (.ref C0)=some true∧∀ a C,c=.ref C→H' a=none→ts D σ (upd H' a (ExO a C d))) σ H
end
end L2
namespace L2
open PySem PySem.Spec PyProof.Rows
section
variable {X:Cx} {pins:List (Addr×Obj)} {σ:St} {H:Hp} {s:Shared}
end
section
variable {X:Cx} {st b0:Stmt} {suite:List Stmt} {c n:Str} {C0:Addr} {np hpos pos:Pos} {tb:TSX} {ts:TS} {i:Nat}
def Ends.forget (D:Ends) (i:Nat):Ends:={ nx:=fun σ H=>D.nx (σ.set i none) H,rt:=D.rt,bk:=fun σ H=>D.bk (σ.set i none) H,ct:=fun σ H=>D.ct (σ.set i none) H }
def tTryAs (K:PySem.W.Frag) (C0:Addr) (i:Nat) (tb:TSX) (ts:TS):TS:=fun D σ H=>tb D (fun c d H'=>PySem.W.exmOne K c (.ref C0)=some true∧∀ a C,c=.ref C→H' a=none→ts (D.forget i) (σ.set i (some (.ref a))) (upd H' a (ExO a C d))) σ H
end
end L2
namespace L2
open PySem PySem.Spec PyProof.Rows PySem.W
structure XCls (K:PySem.W.Frag) (C:Addr):Prop where
  ga:findIn K (.ref C) "__getattribute__"=some (some (.builtin "BaseException.__getattribute__"))
  gh:findIn K (.ref C) "__getattr__"=some none
  bx:subIn K (.ref C) (.type "BaseException")=some true
  hd:hasDictIn K C=true
  ca:findIn K (.ref C) "__class__"=some (some (.builtin "object.__class__"))
  cg:specialIn K (.builtin "object.__class__") "__get__"=some (some (.builtin "getset_descriptor.__get__"))
  ct:takesIn K (.builtin "object.__class__")=some true
  ob:mroIn K C (.type "object")=some true
section
variable {prog:Program} {w:World} {A:Around} {E:Value→Shared→Prop} {s:Shared} {K:PySem.W.Frag} {x C:Addr} {ox:Obj} {od:Option Obj} {name:Str} {tk:Tok}
end
end L2
namespace L2
open PySem PySem.Spec PyProof.Rows
def XDict (H:Hp) (d:Option Addr):Prop:=d=none∨∃ dx fs,d=some dx∧H dx=some (.xd fs)
section
variable {X:Cx} {pins:List (Addr×Obj)} {σ:St} {H:Hp} {s:Shared}
def rIsX (K:PySem.W.Frag):List V→Hp→VK→Prop:=fun xs H Q=>∃ (a C:Addr) (d:Option Addr) (c:V) (u:Value) (b:Bool),xs=[.ref a,c]∧H a=some (ExO a C d)∧XDict H d∧XCls K C∧(∀ u',RelV c u'→u'=u)∧PySem.W.kitOne K (.ref C) u=some b∧Q (.bl b) H
end
theorem tTrue_ite {σ:St} {H:Hp} {A B:Hp→Prop} (h:A H):tTrue σ H (fun b H4=>if b=true then A H4 else B H4):=iteT (A:=A H) (B:=B H) h
theorem ix_tupC {X:Cx} {K:PySem.W.Frag} (hK:X.K=K):IxR X (rIxT K):=hK▸ix_tup
end L2
namespace L2
open PySem PySem.Spec PyProof.Rows
def notStar:Expr→Bool
  | .Starred ..=>false
  | _=>true
section
variable {X:Cx} {e:Expr} {es:List Expr} {te:TE} {t:TA} {x:Str} {p pos:Pos} {id T:String} {r:List V→Hp→VK→Prop} {k j:Nat} {ps:List Str} {sp:Sp}
end
end L2
namespace L2
open PySem PySem.Spec PyProof.Rows
end L2
namespace L2
open PySem PySem.Spec PyProof.Rows
inductive EqH (K:PySem.W.Frag) (H:Hp):Nat→V→V→Bool→Prop
  | flat {n:Nat} {x y:V} (fx:flatV x=true) (fy:flatV y=true):EqH K H n x y (eqV x y)
  | same {n:Nat} {a:Addr}:EqH K H n (.ref a) (.ref a) true
  | lst {n:Nat} {a b:Addr} {xs ys:List V} (e:Nat→Bool) (hne:a≠b) (ha:SqL K H a xs) (hb:SqL K H b ys) (hl:xs.length=ys.length) (he:∀ (i:Nat) x y,xs[i]?=some x→ys[i]?=some y→EqH K H n x y (e i)):EqH K H (n+1) (.ref a) (.ref b) ((List.range xs.length).all e)
  | len {n:Nat} {a b:Addr} {xs ys:List V} (hne:a≠b) (ha:SqL K H a xs) (hb:SqL K H b ys) (hl:¬ xs.length=ys.length):EqH K H (n+1) (.ref a) (.ref b) false
  | tup {n:Nat} {a b:Addr} {xs ys:List V} (e:Nat→Bool) (hne:a≠b) (ha:SqT K H a xs) (hb:SqT K H b ys) (he:∀ (i:Nat) x y,xs[i]?=some x→ys[i]?=some y→EqH K H n x y (e i)):EqH K H (n+1) (.ref a) (.ref b) ((List.range (min xs.length ys.length)).all e && xs.length == ys.length)
theorem IsTup.tup {h:Heap} {a:Addr} {its:Array Value} (t:IsTup h a its):h.IsTuple a its:=by
  obtain ⟨o,h1,h2,h3⟩:=t
  exact ⟨o,h1,h2,h3⟩
section
variable {X:Cx} {pins:List (Addr×Obj)} {σ:St} {H:Hp} {s:Shared}
theorem each_at {A:Around} {xs ys:List V} {us ws:List Value} {e:Nat→Bool} (r:Vals xs us) (r':Vals ys ws) (he:∀ (i:Nat) x y u v,xs[i]?=some x→ys[i]?=some y→RelV x u→RelV y v→SeqAt.EqAt A s u v (e i)) :
    ∀ j (h1:j<us.toArray.size) (h2:j<ws.toArray.size),SeqAt.EqAt A s us.toArray[j] ws.toArray[j] (e j):=fun j h1 h2=>by
  have l1:=r.length
  have l2:=r'.length
  simp only [List.size_toArray] at h1 h2
  have e1:xs[j]?=some xs[j]:=List.getElem?_eq_getElem (by omega)
  have e2:ys[j]?=some ys[j]:=List.getElem?_eq_getElem (by omega)
  obtain ⟨u,hu,ru⟩:=r.get e1
  obtain ⟨v,hv,rv⟩:=r'.get e2
  have eu:us.toArray[j]=u:=by
    have:us[j]?=some us[j]:=List.getElem?_eq_getElem h1
    rw [this] at hu
    exact Option.some.inj hu
  have ev:ws.toArray[j]=v:=by
    have:ws[j]?=some ws[j]:=List.getElem?_eq_getElem h2
    rw [this] at hv
    exact Option.some.inj hv
  rw [eu,ev]
  exact he j _ _ _ _ e1 e2 ru rv
theorem EqH.at (I:Inv X pins σ H s) {n:Nat} {x y:V} {b:Bool} (h:EqH X.K H n x y b):∀ {A:Around} {u v:Value},A.units+n<cLine→RelV x u→RelV y v→SeqAt.EqAt A s u v b:=by
  induction h with
  | flat fx fy=>intro A u v hu rx ry; exact eqAt_V rx ry fx fy
  | same=>intro A u v hu rx ry; cases rx; cases ry; exact SeqAt.EqAt.same _
  | @lst n a b xs ys e hne ha hb hl he ih =>
    intro A u v hu rx ry
    cases rx
    cases ry
    obtain ⟨us,r1,p1,_⟩:=I.list ha
    obtain ⟨ws,r2,p2,_⟩:=I.list hb
    have l1:=r1.length
    have l2:=r2.length
    have:=SeqAt.EqAt.of_refs hne (SeqAt.RcAt.lists p1.isList p2.isList (by simp only [List.size_toArray]; omega) (by omega) (each_at (A:=A.in1) r1 r2 fun i x y u v e1 e2 ru rv=>ih i x y e1 e2 (by show A.units+1+n<cLine; omega) ru rv))
    rw [List.size_toArray,← l1] at this
    exact this
  | @len n a b xs ys hne ha hb hl =>
    intro A u v hu rx ry
    cases rx
    cases ry
    obtain ⟨us,r1,p1,_⟩:=I.list ha
    obtain ⟨ws,r2,p2,_⟩:=I.list hb
    have l1:=r1.length
    have l2:=r2.length
    exact SeqAt.EqAt.of_refs hne (SeqAt.RcAt.lists_lengths p1.isList p2.isList (by simp only [List.size_toArray,bne_iff_ne]; omega) (by omega))
  | @tup n a b xs ys e hne ha hb he ih =>
    intro A u v hu rx ry
    cases rx
    cases ry
    obtain ⟨us,r1,p1,_⟩:=I.tuple ha
    obtain ⟨ws,r2,p2,_⟩:=I.tuple hb
    have l1:=r1.length
    have l2:=r2.length
    have:=SeqAt.EqAt.of_refs hne (SeqAt.RcAt.tuples (e:=e) (IsTup.tup p1) (IsTup.tup p2) (by omega) (each_at (A:=A.in1) r1 r2 fun i x y u v e1 e2 ru rv=>ih i x y e1 e2 (by show A.units+1+n<cLine; omega) ru rv))
    rw [List.size_toArray,List.size_toArray,← l1,← l2] at this
    exact this
def rEqH (K:PySem.W.Frag) (neg:Bool):R2:=fun x y H Q=>∃ (n:Nat) (b:Bool) (p q:Addr),x=.ref p∧y=.ref q∧p≠q∧n≤32∧EqH K H n x y b∧Q (.bl (if neg then !b else b)) H
end
end L2
namespace L2
open PySem PySem.Spec PyProof.Rows
def cutN {α:Type} (l:List α) (lo hi:Option Int):List α:=(l.drop (HT.sIx l.length 0 lo)).take (HT.sIx l.length l.length hi - HT.sIx l.length 0 lo)
theorem clip_str (v:Option Int) (n d:Nat):(match v with | none=>((d:Nat):Int) | some i=>max 0 (min (if i<0 then i+(n:Int) else i) (n:Int)))=((HT.sIx n d v:Nat):Int):=by
  cases v with
  | none=>rfl
  | some i =>
    show max 0 (min (if i<0 then i+(n:Int) else i) (n:Int))=(((if i<0 then (i+(n:Int)).toNat else min i.toNat n):Nat):Int)
    by_cases h:i<0
    · simp only [if_pos h]; omega
    · simp only [if_neg h]; omega
theorem strIdx (lo hi:Option Int) (n:Nat):Builtin.Str.strSliceIndices lo hi 1 n=sliceRange ((HT.sIx n 0 lo:Nat):Int) ((HT.sIx n n hi:Nat):Int) 1:=by
  unfold Builtin.Str.strSliceIndices
  simp only [show (1:Int) > 0 by decide,if_true]
  rw [← clip_str lo n 0,← clip_str hi n n]
  rfl
theorem slice_txt (x:Str) (lo hi:Option Int):(Txt.slice x lo hi).cps.toList=cutN x.cps.toList lo hi:=by
  have hn:x.cps.toList.length=x.length:=by simp [Str.length]
  unfold Txt.slice cutN
  rw [strIdx,sliceRange_one,hn]
  generalize ha:HT.sIx x.length 0 lo=a
  generalize hb:HT.sIx x.length x.length hi=b
  have hb':b≤x.length:=by rw [← hb]; exact HT.sIx_le _ _ (Nat.le_refl _) _
  split
  · rename_i h
    simp only [List.length_map,List.length_range,Bool.and_eq_true,beq_iff_eq] at h
    by_cases hz:x.length=0
    · have e:x.cps.toList=[]:=List.length_eq_zero_iff.mp (by omega)
      rw [e]
      simp
    · have e1:a=0:=by omega
      have e2:b=x.length:=by omega
      subst e1 e2
      rw [List.drop_zero,Nat.sub_zero,List.take_of_length_le (by omega)]
  · rw [pick_run]
theorem tx_len (x:Str):x.cps.toList.length=x.length:=by simp [Str.length]
theorem slice_len (x:Str) (k:Nat):(Txt.slice x none (some (k:Int))).length≤k:=by
  rw [← tx_len,slice_txt]
  unfold cutN
  rw [HT.sIx_nat]
  simp only [HT.sIx_none,List.drop_zero,List.length_take]
  omega
section
variable {X:Cx}
def rSlS:V→Option Int→Option Int→Hp→VK→Prop:=fun x lo hi H Q=>∃ z,x=.str z∧z.length≤sizeLine∧Q (.str (Txt.slice z lo hi)) H
theorem part_of {v:Value} {o:Option Int} (p:IsPart v o):∃ l:Option (Int×Tok),v=partValue l∧l.map (·.1)=o:=by
  cases p with
  | none=>exact ⟨none,rfl,rfl⟩
  | int i t=>exact ⟨some (i,t),rfl,rfl⟩
theorem sl_str:SlR X rSlS:=by
  intro pins s σ H x v vl vu lo hi sl Q I rx hs pl pu h
  obtain ⟨z,rfl,hz,q⟩:=h
  obtain ⟨t,rfl⟩:=rx
  obtain ⟨l,e1,e2⟩:=part_of pl
  obtain ⟨u,e3,e4⟩:=part_of pu
  refine ⟨"str",_,PySem.F.slot_str_getitem.lookup,typeIs_str _ _ _,?_⟩
  obtain ⟨o,h1,h2,h3⟩:=hs
  subst e1 e3 e2 e4
  refine wpAny_getItem_str_slice (l:=l) (u:=u) (st:=none) ⟨o,h1,h2,h3⟩ rfl ?_
  refine post_val_or_str ⟨Nat.le_trans (Txt.slice_le z _ _) hz,fun t' k=>?_⟩
  exact ⟨.str _,H,I.tok _,⟨_,rfl⟩,q⟩
end
end L2
namespace L2
open PySem PySem.Spec PyProof.Rows
section
variable {prog:Program} {w:World} {A:Around} {E:Value→Shared→Prop} {s:Shared}
theorem nxT_item {it t:Addr} {i:Nat} {its:Array Value} {x:Value} {Q:Value→Shared→Prop} (a:s.heap.IsTupleIter it t i) (b:s.heap.IsTuple t its) (c:its[i]?=some x) (d:∀ h',h'.IsTupleIter it t (i+1)→Heap.SameBut it s.heap h'→Q x { s with heap:=h' }):wpAny (model prog w) A (Builtin.SmallTypes.nextOf (.ref it)) Q E s:=by
  obtain ⟨u,e1,e2,e3⟩:=id a
  obtain ⟨v,f1,_,m,f3⟩:=b
  unfold Builtin.SmallTypes.nextOf
  refine wpAny_bind (wpAny_callSpecial?_slot (name:=Str.ofString "__next__") a.typeIs F.slot_tuple_iterator_next (wpAny_call_entry F.slot_tuple_iterator_next a.typeIs F.entry_tuple_iterator_next ?_ (F.args_tuple_iterator_next_1 _)))
  show wpAny _ _ (field (.ref it) 0 >>= _) _ _ s; refine wpAny_bind (wpAny_field e1 e3 (x:=.ref t) rfl ?_)
  show wpAny _ _ (if (Value.ref t == Value.none)=true then _ else _) _ _ s; rw [if_neg (show ¬ ((Value.ref t == Value.none)=true) from Bool.false_ne_true)]
  show wpAny _ _ (field (.ref it) 1 >>= _) _ _ s; refine wpAny_bind (wpAny_field e1 e3 (x:=.int i 0) rfl ?_)
  show wpAny _ _ (seqItems? (.ref t) >>= _) _ _ s; refine wpAny_bind (wpAny_seqItems f1 f3 ?_)
  simp only [Int.toNat_natCast,c]
  refine wpAny_bind (wpAny_setField e1 e3 (by simp) (wpAny_pure ⟨x,rfl,wpAny_pure (d _ ⟨_,Heap.get?_update_self _ e1 (Obj.isFreed_of_fields (Obj.data_mapFields e3 _)),(Obj.cls_mapFields ..).trans e2,?_⟩ (Heap.SameBut.update ..))⟩))
  rw [Obj.data_mapFields e3]; simp [rawInt]
theorem nxT_end {it t:Addr} {i:Nat} {its:Array Value} {Q:Value→Shared→Prop} (hh:A.handled=none) (a:s.heap.IsTupleIter it t i) (b:s.heap.IsTuple t its) (c:its[i]?=none)
    (d:∀ h' e,Heap.ExtBut it s.heap h'→(∃ o,h'.get? e=some o∧o.cls=.type "StopIteration")→E (.ref e) { s with heap:=h' }):wpAny (model prog w) A (Builtin.SmallTypes.nextOf (.ref it)) Q E s:=by
  obtain ⟨u,e1,e2,e3⟩:=id a
  obtain ⟨v,f1,_,m,f3⟩:=b
  unfold Builtin.SmallTypes.nextOf
  refine wpAny_bind (wpAny_callSpecial?_slot (name:=Str.ofString "__next__") a.typeIs F.slot_tuple_iterator_next (wpAny_call_entry F.slot_tuple_iterator_next a.typeIs F.entry_tuple_iterator_next ?_ (F.args_tuple_iterator_next_1 _)))
  show wpAny _ _ (field (.ref it) 0 >>= _) _ _ s; refine wpAny_bind (wpAny_field e1 e3 (x:=.ref t) rfl ?_)
  show wpAny _ _ (if (Value.ref t == Value.none)=true then _ else _) _ _ s; rw [if_neg (show ¬ ((Value.ref t == Value.none)=true) from Bool.false_ne_true)]
  show wpAny _ _ (field (.ref it) 1 >>= _) _ _ s; refine wpAny_bind (wpAny_field e1 e3 (x:=.int i 0) rfl ?_)
  show wpAny _ _ (seqItems? (.ref t) >>= _) _ _ s; refine wpAny_bind (wpAny_seqItems f1 f3 ?_)
  simp only [Int.toNat_natCast,c]
  refine wpAny_bind (wpAny_rule (wpAny_bind (wpAny_setField e1 e3 (by simp) ?_)))
  show wpAny _ _ (newExc (.type "StopIteration") [] >>= _) _ _ _; refine wpAny_bind ?_
  simp only [newExc,newTuple]; refine wpAny_bind (wpAny_newObj_type ?_ (by size_fits))
  refine wpAny_bind (m:=firstArgMember _ _) (wpAny_of_eq (a:=Value.none) (by first | rfl | (simp only [firstArgMember]; rfl)) (wpAny_newObj_type ?_ (by size_fits)))
  simp only [raiseNew]; refine wpAny_bind (wpAny_handled ?_)
  rw [show A.in1.handled=none from hh]
  exact wpAny_bind (wpAny_pure (wpAny_throw (d _ _ (((Heap.SameBut.update ..).extBut.push _).push _) ⟨_,Heap.get?_push_size _ rfl,rfl⟩)))
theorem drawsT (hh:A.handled=none) (it t:Addr) (hne:t≠it) (its:Array Value):Draws prog w A it [it,t] its.size (fun i v=>its[i]?=some v) (fun i h=>h.IsTupleIter it t i∧h.IsTuple t its) where
  live:=fun _ _ st=>by
    obtain ⟨⟨o,e,_⟩,_⟩:=st
    exact ⟨o,e⟩
  frame:=fun _ _ _ st k=>by
    obtain ⟨⟨o,e,r⟩,⟨o2,e2,r2⟩⟩:=st
    exact ⟨⟨o,k it (by simp) o e,r⟩,⟨o2,k t (by simp) o2 e2,r2⟩⟩
  item:=fun i s Q E hi st d=>nxT_item st.1 st.2 (x:=its[i]) (by simp [hi]) fun h' a b=>d _ h' s.toks (by simp [hi]) ⟨a,st.2.extBut b.extBut hne⟩ b
  done:=fun s Q E st d=>nxT_end hh st.1 st.2 (by simp) d
theorem meets_enumT (l:Addr) (its:Array Value) (n:Nat) (dc:Option Addr) (sl:Array (Option Value)) :
    Meets (Builtin.«enumerate.__new__» ⟨[.type "enumerate",.ref l],[]⟩) (fun _ R s=>s.heap.get? l=some { cls:=.type "tuple",dict:=dc,data:=.seq its n,slots:=sl }∧
      R (.ok (.ret (.ref (s.heap.push { cls:=.type "tuple_iterator",data:=.fields #[.ref l,.int 0 0] }).objs.size)))
        { s with heap:=(s.heap.push { cls:=.type "tuple_iterator",data:=.fields #[.ref l,.int 0 0] }).push { cls:=.type "enumerate",data:=.fields #[.none,.bool false,.ref s.heap.objs.size,rawInt 0,.none,.none] } }) :=
  .of_wp fun prog w A R s h=>by
    obtain ⟨hp,g,d,tk,os⟩:=s; obtain ⟨a1,h⟩:=h
    have sb:=sub_enumerate
    have a2:Heap.IsTuple (Shared.heap ⟨hp,g,d,tk,os⟩) l its:=⟨_,a1,rfl,n,rfl⟩
    wp_walk using AutoSeq1.wpAny_loadPart' a1
    refine wpAny_stack_any fun st=>wpAny_pure ?_
    split
    · rename_i c _ _ _ _ _
      cases (c == Value.type "enumerate") <;> (wp_walk using AutoSeq1.wpAny_loadPart' a1,wpAny_pyIter_tuple a2; exact ⟨_,rfl,h⟩)
    · wp_walk using AutoSeq1.wpAny_loadPart' a1,wpAny_pyIter_tuple a2; exact ⟨_,rfl,h⟩
theorem call_enumT {l:Addr} {its:Array Value} {Q:Value→Shared→Prop} (a:s.heap.IsTuple l its)
    (k:∀ h',IsEnum h' (s.heap.objs.size+1) s.heap.objs.size 0 .none→h'.IsTupleIter s.heap.objs.size l 0→h'.objs.size=s.heap.objs.size+2→(∀ b o,s.heap.get? b=some o→h'.get? b=some o)→Q (.ref (s.heap.objs.size+1)) { s with heap:=h' }) :
    wpAny (model prog w) A (call (.type "enumerate") [.ref l]) Q E s:=by
  obtain ⟨⟨c,dc,dt,sl⟩,a1,a2,n,a3⟩:=a
  replace a2:c=.type "tuple":=a2; replace a3:dt=.seq its n:=a3
  subst a2 a3
  refine callType_new F.called_enumerate (by decide) (F.typeCall_enumerate_1 _) (F.newCall_enumerate_1 _) (fun obj=>F.args_object_init_2 obj _) F.entry_enumerate_new (meets_enumT l its n dc sl) ⟨a1,?_⟩
  have z:(s.heap.push { cls:=.type "tuple_iterator",data:=.fields #[.ref l,.int 0 0] }).objs.size=s.heap.objs.size+1:=Heap.size_push ..
  show _∧_; rw [z]
  have e:=Heap.get?_push_size (s.heap.push { cls:=.type "tuple_iterator",data:=.fields #[.ref l,.int 0 0] }) (o:={ cls:=.type "enumerate",data:=.fields #[.none,.bool false,.ref s.heap.objs.size,rawInt 0,.none,.none] }) rfl
  rw [z] at e
  exact ⟨⟨_,e,rfl⟩,k _ e ⟨_,Heap.get?_push_of_some _ (Heap.get?_push_size _ rfl),rfl,rfl⟩ (by rw [Heap.size_push,z]) fun b o x=>Heap.get?_push_of_some _ (Heap.get?_push_of_some _ x)⟩
end
def IteT (K:PySem.W.Frag) (a:Addr):It :=
  ⟨fun i H=>∃ xs x,SqT K H a xs∧xs[i]?=some x,fun i H v H'=>∃ T x,H T=none∧H'=upd H T (.tup [.int (i:Int),x])∧v=.ref T∧∀ xs,SqT K H a xs→xs[i]?=some x,fun i H=>∃ xs,SqT K H a xs∧xs.length=i⟩
theorem turn_enumT {P:Program} {w:World} {K:PySem.W.Frag} {elts:List Expr} {x1:Nat} {tp:Pos} (a e it:Addr) (hei:e≠it) (hea:e≠a) (hai:a≠it) :
    Turn P w K (.Tuple elts x1 tp) (IteT K a) [e,it] e (fun i h=>(∃ old,IsEnum h e it i old)∧h.IsTupleIter it a i) where
  mem:=by simp
  obj:=fun i h st b hb=>by
    obtain ⟨⟨old,he⟩,⟨o,e1,c,d⟩⟩:=st
    rcases List.mem_cons.mp hb with z | z
    · subst z
      exact ⟨_,he,fun v q=>nomatch q⟩
    · have z':b=it:=by simpa using z
      subst z'
      exact ⟨o,e1,fun v q=>by rw [d] at q; cases q⟩
  keep:=fun i h h' st k=>⟨st.1.elim fun old he=>⟨old,k e (by simp) _ he⟩,st.2.elim fun o r=>⟨o,k it (by simp) o r.1,r.2⟩⟩
  item:=by
    intro X hP hw hK hc i pins s σ H E I hf st hg
    subst hP hw hK
    obtain ⟨xs,x,hq,hx⟩:=hg
    obtain ⟨its,rv,p,hz⟩:=I.tuple hq
    obtain ⟨u,hu,ru⟩:=rv.get hx
    obtain ⟨⟨old,he⟩,hit⟩:=st
    have hlen:=rv.length
    have hlt:i<its.toArray.size:=by rw [List.size_toArray,← hlen]; exact (List.getElem?_eq_some_iff.mp hx).1
    refine wpAny_pyNext_enum_itemD (drawsT (A:=X.A.in1) (show X.A.in1.handled=none from I.ok.hd hc) it a hai its.toArray) he ⟨hit,IsTup.tup p⟩ hlt hei (by simp [hei,hea]) fun v h' tk hv ho hst hT hsz hk=>?_
    obtain rfl:v=u:=by
      have:its[i]?=some v:=by simpa using hv
      rw [hu] at this
      exact (Option.some.inj this).symm
    have helt:e<s.heap.objs.size:=Heap.lt_size he
    have hilt:it<s.heap.objs.size:=by obtain ⟨_,q,_⟩:=hit; exact Heap.lt_size q
    refine ⟨_,rfl,?_⟩
    refine wpAny_letOwnedTupleGo_enum ho fun h2 he2 hs2=>?_
    have k2:∀ b o,b∉[e,it]→s.heap.get? b=some o→h2.get? b=some o:=fun b o hb q=>by
      have n1:b≠e:=fun z=>hb (by simp [z])
      have n2:b≠it:=fun z=>hb (by simp [z])
      exact (hs2.2 b n1).trans (hk b o n1 n2 q)
    have t2:h2.get? s.heap.objs.size=some { cls:=.type "tuple",data:=.seq #[.int i tk,v] }:=(hs2.2 _ (Nat.ne_of_gt helt)).trans hT
    have hn:H s.heap.objs.size=none:=I.hok.fresh (Nat.le_refl _)
    have new:ObjOk X.prog X.w (upd H s.heap.objs.size (.tup [.int (i:Int),x])) h2 s.heap.objs.size (.tup [.int (i:Int),x]) :=
      ⟨by simp only [List.length_cons,List.length_nil]; rw [sizeLine_eq]; decide,[.int i tk,v],.cons ⟨_,rfl⟩ (.cons ru .nil),⟨_,t2,rfl,_,rfl⟩⟩
    have I2:Inv X pins σ (upd H s.heap.objs.size (.tup [.int (i:Int),x])) { s with heap:=h2,toks:=tk+1 }:=I.turnedNew k2 hf (Nat.le_refl _) new
    refine ⟨.ref s.heap.objs.size,_,I2,rfl,⟨s.heap.objs.size,x,hn,rfl,rfl,fun ys hy=>by rw [I.tuple_inj hy hq]; exact hx⟩,⟨⟨v,?_⟩,hst.1.elim fun o r=>⟨o,(hs2.2 it hei.symm).trans r.1,r.2⟩⟩,fun b hb=>?_⟩
    · simpa using he2
    · have hb1:b≠s.heap.objs.size:=by
        rcases List.mem_cons.mp hb with z | z
        · rw [z]; exact Nat.ne_of_lt helt
        · have z':b=it:=by simpa using z
          rw [z']; exact Nat.ne_of_lt hilt
      rw [upd_ne hb1]
      exact (hf b hb).1
  done:=by
    intro X hP hw hK hc i pins s σ H E I hf st hg
    subst hP hw hK
    obtain ⟨xs,hq,hx⟩:=hg
    obtain ⟨its,rv,p,hz⟩:=I.tuple hq
    obtain ⟨⟨old,he⟩,hit⟩:=st
    have e:i=its.toArray.size:=by rw [List.size_toArray,← rv.length]; exact hx.symm
    subst e
    refine wpAny_pyNext_enum_endD (drawsT (A:=X.A.in1) (show X.A.in1.handled=none from I.ok.hd hc) it a hai its.toArray) he ⟨hit,IsTup.tup p⟩ fun h' eb=>⟨rfl,?_⟩
    exact I.turnedL (t':=s.toks) (fun b o hb q=>eb b o (fun z=>hb (by simp [z])) q) hf
  self:=fun _ _ _ _ _ st h=>by
    obtain ⟨⟨old,he⟩,_⟩:=st
    exact wpAny_pyIter_enum he h
section
variable {X:Cx}
def iEnumT (K:PySem.W.Frag) (ta:TA):TI:=fun σ H R=>ta σ H fun vs H1=>∃ a,vs=[.ref a]∧(∃ xs,SqT K H1 a xs)∧R (IteT K a) H1
theorem pi_enumT {a:Expr} {ta:TA} {p pos tp:Pos} {elts:List Expr} {x1:Nat} (hg:Gl X "enumerate") (hm:X.mg "enumerate"=none) (ha:PA X [a] ta) (hs:starEach [a] X.env=[(false,eval a X.env)]:=by rfl) :
    PI X (.Tuple elts x1 tp) (.Call (.Name "enumerate" p) [a] [] pos) (iEnumT X.K ta):=by
  intro pins s σ H R I h
  refine Call_ (ld_blt I hg hm boot_enumerate (PyProof.Rows.callWith_type1 (thn (ha pos pins s σ H _ I h) fun us s1 ⟨vs,H1,I1,r1,q1⟩=>?_) hs rfl))
  obtain ⟨l,e,⟨xs,hx⟩,q⟩:=q1
  subst e
  obtain ⟨u,rfl,ru⟩:=vals1 r1
  cases ru
  obtain ⟨its,rv,pl,hz⟩:=I1.tuple hx
  have hl:l<s1.heap.objs.size:=by obtain ⟨o,z,_⟩:=IsTup.tup pl; exact Heap.lt_size z
  refine call_enumT (IsTup.tup pl) fun h' he hit hsz hk=>?_
  refine wpAny_pyIter_enum he ?_
  have hfp:∀ b∈[s1.heap.objs.size+1,s1.heap.objs.size],FpOk X pins H1 b:=fun b hb=>by
    have hge:s1.heap.objs.size≤b:=by
      rcases List.mem_cons.mp hb with z | z
      · omega
      · have z':b=s1.heap.objs.size:=by simpa using z
        omega
    exact I1.fpOk hge (I1.hok.fresh hge)
  exact ⟨s1.heap.objs.size+1,[s1.heap.objs.size+1,s1.heap.objs.size],_,_,H1,rfl,I1.kept (t':=s1.toks) hk,turn_enumT l _ _ (Nat.succ_ne_self _) (Nat.ne_of_gt (Nat.lt_succ_of_lt hl)) (Nat.ne_of_lt hl),⟨⟨_,he⟩,hit⟩,hfp,q⟩
end
theorem for_enumT {K:PySem.W.Frag} {a:Addr} {xs:List V} {g:TG} {tb:TS} {D:Ends} {σ:St} {H:Hp} (Pv:Nat→St→Hp→Prop) (h0:Pv 0 σ H) (hl:∀ i σ H,i≤xs.length→Pv i σ H→SqT K H a xs)
    (hs:∀ i x σ H T,xs[i]?=some x→Pv i σ H→H T=none→g (.ref T) σ (upd H T (.tup [.int (i:Int),x])) fun σ2 H2=>tb { D with nx:=Pv (i+1),ct:=Pv (i+1),bk:=D.nx } σ2 H2) (hd:∀ σ H,Pv xs.length σ H→D.nx σ H) :
    ∃ W:Nat→Nat→St→Hp→Prop,(∃ m,W 0 m σ H)∧∀ i m σ H,W i m σ H→
      ((IteT K a).stop i H∧D.nx σ H)∨((IteT K a).go i H∧∃ N:St→Hp→Prop,(∀ σ' H',N σ' H'→∃ m',m'<m∧W (i+1) m' σ' H')∧∀ x H',(IteT K a).yld i H x H'→g x σ H' fun σ2 H2=>tb { D with nx:=N,ct:=N,bk:=D.nx } σ2 H2):=by
  refine ⟨fun i m σ H=>m=xs.length - i∧i≤xs.length∧Pv i σ H,⟨xs.length,by simp,Nat.zero_le _,h0⟩,?_⟩
  rintro i m σ H ⟨rfl,hi,p⟩
  have q:=hl i σ H hi p
  by_cases hlt:i<xs.length
  · refine .inr ⟨⟨xs,xs[i],q,by simp [hlt]⟩,Pv (i+1),fun σ' H' p'=>⟨xs.length - (i+1),by omega,rfl,hlt,p'⟩,fun v H' y=>?_⟩
    obtain ⟨T,x,hT,e1,e2,y⟩:=y
    subst e1 e2
    exact hs i x σ H T (y xs q) p hT
  · have e:i=xs.length:=by omega
    subst e
    exact .inl ⟨⟨xs,q,rfl⟩,hd σ H p⟩
end L2
namespace L2
open PySem PySem.Spec PyProof.Rows
def sgn (c:Nat):V:=.str ⟨#[c]⟩
def ItS (z:Str):It:=⟨fun i _=>i<z.cps.size,fun i H x H'=>H'=H∧∃ c,z.cps[i]?=some c∧x=sgn c,fun i _=>i=z.cps.size⟩
theorem nxS_item {prog:Program} {w:World} {A:Around} {E:Value→Shared→Prop} {s:Shared} {it:Addr} {z:Str} {t:Tok} {i c:Nat} {Q:Option Value→Shared→Prop} (a:s.heap.IsStrIter it (strIterType z) z t i) (b:z.cps[i]?=some c)
    (k:∀ h',h'.IsStrIter it (strIterType z) z t (i+1)→Heap.SameBut it s.heap h'→Q (some (.str ⟨#[c]⟩ s.toks)) { s with heap:=h',toks:=s.toks+1 }):wpAny (model prog w) A (pyNext (.ref it)) Q E s:=by
  unfold strIterType at a k
  split at a
  · rename_i e
    rw [if_pos e] at k
    exact wpAny_pyNext_ascii_item a b k
  · rename_i e
    rw [if_neg e] at k
    exact wpAny_pyNext_wide_item a b k
theorem nxS_end {prog:Program} {w:World} {A:Around} {E:Value→Shared→Prop} {s:Shared} {it:Addr} {z:Str} {t:Tok} {i:Nat} {Q:Option Value→Shared→Prop} (hh:A.handled=none) (a:s.heap.IsStrIter it (strIterType z) z t i) (b:z.cps[i]?=none)
    (k:∀ h',Heap.ExtBut it s.heap h'→Q none { s with heap:=h' }):wpAny (model prog w) A (pyNext (.ref it)) Q E s:=by
  unfold strIterType at a
  split at a
  · exact wpAny_pyNext_ascii_end hh a b k
  · exact wpAny_pyNext_wide_end hh a b k
theorem ty_no (z:Str):["enumerate","zip","dict_itemiterator","dict_reverseitemiterator","odict_iterator","itertools.zip_longest","itertools.pairwise"].contains (strIterType z)=false:=by
  unfold strIterType
  split <;> decide
theorem turn_str {P:Program} {w:World} {K:PySem.W.Frag} {tg:Expr} (z:Str) (t:Tok) (it:Addr):Turn P w K tg (ItS z) [it] it (fun i h=>h.IsStrIter it (strIterType z) z t i) where
  mem:=by simp
  obj:=fun i h st b hb=>by
    have e:b=it:=by simpa using hb
    subst e
    obtain ⟨o,e,c,d⟩:=st
    exact ⟨o,e,fun v q=>by rw [d] at q; cases q⟩
  keep:=fun i h h' st k=>st.elim fun o r=>⟨o,k it (by simp) o r.1,r.2⟩
  item:=by
    intro X hP hw hK hc i pins s σ H E I hf st hg
    subst hP hw hK
    have hg':i<z.cps.size:=hg
    have hx:z.cps[i]?=some z.cps[i]:=Array.getElem?_eq_getElem hg'
    obtain ⟨f0,f1,f2,f3,f4,f5⟩:=hf it (by simp)
    refine nxS_item st hx fun h' st' sb=>?_
    have I1:Inv X pins σ H { s with heap:=h',toks:=s.toks+1 }:=I.turned (t':=s.toks+1) (fun b o hb e=>(sb.2 b hb).trans e) f0 f1 f3 f4 f5
    obtain ⟨o,e,c,d⟩:=id st'
    exact ⟨_,rfl,go_of (s:={ s with heap:=h',toks:=s.toks+1 }) e c d (ty_no z) ⟨sgn z.cps[i],H,I1,⟨_,rfl⟩,⟨rfl,_,hx,rfl⟩,st',fun b hb=>(hf b hb).1⟩⟩
  done:=by
    intro X hP hw hK hc i pins s σ H E I hf st hg
    subst hP hw hK
    obtain ⟨f0,f1,f2,f3,f4,f5⟩:=hf it (by simp)
    have hx:z.cps[i]?=none:=by simp [show i=z.cps.size from hg]
    exact nxS_end (I.ok.hd hc) st hx fun h' eb=>⟨rfl,I.turned (t':=s.toks) (fun b o hb e=>eb b o hb e) f0 f1 f3 f4 f5⟩
  self:=fun _ _ _ _ _ st h=>by
    unfold strIterType at st
    split at st
    · exact wpAny_pyIter_striter_ascii st h
    · exact wpAny_pyIter_striter_wide st h
section
variable {X:Cx} {tg:Expr}
def iStr (tl:TE):TI:=fun σ H R=>tl σ H fun x H1=>∃ z,x=.str z∧R (ItS z) H1
theorem pi_str {l:Expr} {tl:TE} (hl:PE X l tl):PI X tg l (iStr tl):=by
  intro pins s σ H R I h
  refine thn (hl pins s σ H _ I h) fun v s1 ⟨x,H1,I1,r1,q1⟩=>?_
  obtain ⟨z,rfl,q⟩:=q1
  obtain ⟨t,rfl⟩:=r1
  refine wpAny_pyIter_strU ?_
  refine ⟨s1.heap.objs.size,[s1.heap.objs.size],_,_,H1,rfl,I1.kept (t':=s1.toks) fun b o e=>Heap.get?_push_of_some _ e,turn_str z t _,⟨_,Heap.get?_push_size _ rfl,rfl,rfl⟩,fun b hb=>?_,q⟩
  have e:b=s1.heap.objs.size:=by simpa using hb
  subst e
  exact I1.fpOk (Nat.le_refl _) (I1.hok.fresh (Nat.le_refl _))
end
theorem comp_str {z:Str} {g:TG} {tt:TT} {te:TE} {nv:Nat} {ix:List Nat} {σ:St} {D:Addr} {H:Hp} {Q:VK} (Pv:Nat→List V→Hp→Prop) (h0:Pv 0 [] (upd H D (.lst [])))
    (hs:∀ i c ys H,z.cps[i]?=some c→Pv i ys H→H D=some (.lst ys)→g (sgn c) (capσ nv ix σ) H fun σ2 H3=>σ2.drop nv=(capσ nv ix σ).drop nv∧tt σ2 H3 fun b H4 =>
      if b=true then te σ2 H4 fun v H5=>∃ zs,H5 D=some (.lst zs)∧zs.length<sizeLine∧(∃ ys',Pv (i+1) ys' (upd H5 D (.lst (zs++[v])))∧(upd H5 D (.lst (zs++[v]))) D=some (.lst ys')) else ∃ ys',Pv (i+1) ys' H4∧H4 D=some (.lst ys'))
    (hd:∀ ys H,Pv z.cps.size ys H→H D=some (.lst ys)→Q (.ref D) H) :
    CompAt (ItS z) g tt te nv ix σ Q H D:=by
  refine ⟨fun i m H2=>m=z.cps.size - i∧i≤z.cps.size∧∃ ys,Pv i ys H2∧H2 D=some (.lst ys),⟨z.cps.size,by simp,Nat.zero_le _,[],h0,upd_same⟩,?_⟩
  rintro i m H2 ⟨rfl,hi,ys,p,hD⟩
  by_cases hlt:i<z.cps.size
  · refine .inr ⟨hlt,fun H'=>∃ ys,Pv (i+1) ys H'∧H' D=some (.lst ys),fun H' p'=>⟨z.cps.size - (i+1),by omega,rfl,hlt,p'⟩,fun x H' y=>?_⟩
    obtain ⟨e,c,hc,e2⟩:=y
    subst e e2
    exact hs i c ys _ hc p hD
  · have e:i=z.cps.size:=by omega
    subst e
    exact .inl ⟨rfl,hd ys H2 p hD⟩
theorem comp_tup {K:PySem.W.Frag} {a:Addr} {xs:List V} {g:TG} {tt:TT} {te:TE} {nv:Nat} {ix:List Nat} {σ:St} {D:Addr} {H:Hp} {Q:VK} (Pv:Nat→List V→Hp→Prop) (h0:Pv 0 [] (upd H D (.lst []))) (hl:∀ i ys H,i≤xs.length→Pv i ys H→SqT K H a xs)
    (hs:∀ i x ys H,xs[i]?=some x→Pv i ys H→H D=some (.lst ys)→g x (capσ nv ix σ) H fun σ2 H3=>σ2.drop nv=(capσ nv ix σ).drop nv∧tt σ2 H3 fun b H4 =>
      if b=true then te σ2 H4 fun v H5=>∃ zs,H5 D=some (.lst zs)∧zs.length<sizeLine∧(∃ ys',Pv (i+1) ys' (upd H5 D (.lst (zs++[v])))∧(upd H5 D (.lst (zs++[v]))) D=some (.lst ys')) else ∃ ys',Pv (i+1) ys' H4∧H4 D=some (.lst ys'))
    (hd:∀ ys H,Pv xs.length ys H→H D=some (.lst ys)→Q (.ref D) H) :
    CompAt (Itt K a) g tt te nv ix σ Q H D:=by
  refine ⟨fun i m H2=>m=xs.length - i∧i≤xs.length∧∃ ys,Pv i ys H2∧H2 D=some (.lst ys),⟨xs.length,by simp,Nat.zero_le _,[],h0,upd_same⟩,?_⟩
  rintro i m H2 ⟨rfl,hi,ys,p,hD⟩
  have q:=hl i ys H2 hi p
  by_cases hlt:i<xs.length
  · refine .inr ⟨⟨xs,xs[i],q,by simp [hlt]⟩,fun H'=>∃ ys,Pv (i+1) ys H'∧H' D=some (.lst ys),fun H' p'=>⟨xs.length - (i+1),by omega,rfl,hlt,p'⟩,fun x H' y=>?_⟩
    obtain ⟨e,y⟩:=y
    subst e
    exact hs i x ys _ (y xs q) p hD
  · have e:i=xs.length:=by omega
    subst e
    exact .inl ⟨⟨xs,q,Nat.le_refl _⟩,hd ys H2 p hD⟩
theorem op_notIn_seqC {X:Cx} {K:PySem.W.Frag} (hK:X.K=K):OpR X (compareOp .NotIn) (rIn K true):=hK▸op_notIn_seq
theorem str_size1 (c:Nat):(⟨#[c]⟩:Str).length=1:=rfl
theorem str_app_len (a b:Str):(a++b).length=a.length+b.length:=by
  show (a.cps++b.cps).size=a.cps.size+b.cps.size
  simp
theorem nodup_sub {α:Type} [DecidableEq α]:∀ {l m:List α},l.Nodup→(∀ x∈l,x∈m)→l.length≤m.length
  | [],_,_,_=>Nat.zero_le _
  | x::r,m,hn,hs=>by
    have hx:=hs x List.mem_cons_self
    rw [List.nodup_cons] at hn
    have h2:=nodup_sub (l:=r) (m:=m.erase x) hn.2 fun y hy=>(List.mem_erase_of_ne (fun (e:y=x)=>hn.1 (e▸hy))).mpr (hs y (List.mem_cons_of_mem _ hy))
    rw [List.length_erase_of_mem hx] at h2
    have:=List.length_pos_of_mem hx
    rw [List.length_cons]
    omega
theorem inV_str (z:Str) (l:List Str):inV (.str z) (l.map V.str)=decide (z∈l):=by
  unfold inV
  induction l with
  | nil=>rfl
  | cons x r ih =>
    rw [List.map_cons,List.any_cons,ih]
    show ((x == z) || _)=_
    by_cases h:x=z
    · subst h
      simp
    · have h':¬ z=x:=fun e=>h e.symm
      simp [h,h']
theorem strs_flat (l:List Str):(l.map V.str).all flatV=true:=by
  rw [List.all_eq_true]
  intro x hx
  obtain ⟨o,_,rfl⟩:=List.mem_map.mp hx
  rfl
end L2
namespace L2
open PySem PySem.Spec PyProof.Rows
section
variable {X:Cx} {CX:CXT} {k:Nat} {f:Addr} {fd:FuncData} {ps:List Str} {sp:Sp} {dvs:List V} {ds:List Value} {E:XK} {m:Str} {pos apos:Pos} {e o:Expr} {es:List Expr} {ta:TE} {t:TA}
def tMethD (K:PySem.W.Frag) (f:Addr) (m:Str) (sp:Sp) (dvs:List V) (E:XK) (ta:TE) (t:TA):TE:=fun σ H Q=>ta σ H fun x H1=>∃ C a dx fs,x=.ref a∧H1 a=some (.ins C dx fs)∧Cls K C∧Meth K C m f∧fs.lookup m=none∧t σ H1 fun vs H2=>sp (x::(vs++dvs)) H2 Q E
theorem pe_methD {pl:Sem Bool} (he:PE X o ta) (F:FnOk X.prog X.w X.K X.mg X.base CX k f fd ps sp) (hr:Room k X.A) (hb:Binds X.K fd ps ds) (hd:Vals dvs ds) (hx:Passes CX X E) (ha:PA X (e::es) t)
    (hst:starEach (e::es) X.env=(false,eval e X.env)::starEach es X.env:=by rfl) (hpl:(backTo pos (starEach es X.env)).any (·.1)=false:=by rfl)
    (ht:eval (.Call (.Attribute o m apos) (e::es) [] pos) X.env=(do let ov ← eval o X.env; standAt apos.atName; let (f,first) ← holding [ov] (getMethod ov m pl); callWith pos f first (backTo pos (starEach (e::es) X.env)) (backToKw pos (keywordEach [] X.env))):=by rfl) :
    PE X (.Call (.Attribute o m apos) (e::es) [] pos) (tMethD X.K f m sp dvs E ta t):=by
  intro pins s σ H Q I h
  refine PySem.W.methodCall_KW (pl:=pl) (thn (he pins s σ H _ I h) fun u s1 ⟨x,H1,I1,rx,C,a,dx,fs,ex,ea,c,hm,l,q⟩=>?_) ht
  subst ex; obtain rfl:u=Value.ref a:=rx
  refine getmeth_ok I1 ea c hm l ?_
  refine PySem.W.callWith_K (first:=[.ref a]) (h₀:=X.base) I.ok.mod.kin hm.kp (thn (ha pos pins s1 σ H1 _ I1 q) fun us s2 ⟨vs,H2,I2,r,q2⟩=>⟨I2.kIn,?_⟩) hst hpl
  exact run_fn (us:=.ref a::us) (vs:=.ref a::vs) F hr hb hd hx I2 (.cons rfl r) q2
end
end L2
namespace L2
open PySem PySem.Spec PyProof.Rows
def ItAt (tp:Bool) (h:Heap) (i l:Addr) (k:Nat) (xs:Array Value):Prop:=match tp with
  | false=>h.IsListIter i l k∧h.IsList l xs
  | true=>h.IsTupleIter i l k∧h.IsTuple l xs
theorem ItAt.at {tp:Bool} {h h':Heap} {i l:Addr} {k:Nat} {xs:Array Value} (a:ItAt tp h i l k xs) (k1:∀ o,h.get? i=some o→h'.get? i=some o) (k2:∀ o,h.get? l=some o→h'.get? l=some o):ItAt tp h' i l k xs:=by
  cases tp with
  | false=>exact ⟨a.1.at k1,a.2.at k2⟩
  | true=>obtain ⟨⟨o,e,r⟩,⟨o2,e2,r2⟩⟩:=a; exact ⟨⟨o,k1 o e,r⟩,⟨o2,k2 o2 e2,r2⟩⟩
theorem ItAt.ext {tp:Bool} {h h':Heap} {i l b:Addr} {k:Nat} {xs:Array Value} (a:ItAt tp h i l k xs) (x:Heap.ExtBut b h h') (n1:i≠b) (n2:l≠b):ItAt tp h' i l k xs:=a.at (fun o e=>x i o n1 e) (fun o e=>x l o n2 e)
section
variable {prog:Program} {w:World} {A:Around} {E:Value→Shared→Prop} {s:Shared}
theorem ItAt.nx {tp:Bool} {i l:Addr} {k:Nat} {xs:Array Value} {x:Value} {Q:Value→Shared→Prop} (a:ItAt tp s.heap i l k xs) (hne:l≠i) (c:xs[k]?=some x) (d:∀ h',ItAt tp h' i l (k+1) xs→Heap.SameBut i s.heap h'→Q x { s with heap:=h' }):wpAny (model prog w) A (Builtin.SmallTypes.nextOf (.ref i)) Q E s:=by
  cases tp with
  | false=>exact wpAny_nextOf_list_item a.1 a.2 c fun h' b sb=>d h' ⟨b,a.2.extBut sb.extBut hne⟩ sb
  | true=>exact nxT_item a.1 a.2 c fun h' b sb=>d h' ⟨b,a.2.extBut sb.extBut hne⟩ sb
theorem ItAt.nxE {tp:Bool} {i l:Addr} {k:Nat} {xs:Array Value} {Q:Value→Shared→Prop} (hh:A.handled=none) (a:ItAt tp s.heap i l k xs) (c:xs[k]?=none) (d:∀ h' e,Heap.ExtBut i s.heap h'→(∃ o,h'.get? e=some o∧o.cls=.type "StopIteration")→E (.ref e) { s with heap:=h' }):wpAny (model prog w) A (Builtin.SmallTypes.nextOf (.ref i)) Q E s:=by
  cases tp with
  | false=>exact wpAny_nextOf_list_end hh a.1 a.2 c d
  | true=>exact nxT_end hh a.1 a.2 c d
theorem zipX_item {t1 t2:Bool} {z TI TO i1 i2 l1 l2:Addr} {k1 k2:Nat} {xs ys:Array Value} {x y a b:Value} {Q:Value→Shared→Prop} (D:ZipApart z TI TO i1 i2 l1 l2) (gz:IsZip s.heap z TI TO .none) (gI:IsPair s.heap TI (.ref i1) (.ref i2)) (gO:IsPair s.heap TO a b)
    (g1:ItAt t1 s.heap i1 l1 k1 xs) (g2:ItAt t2 s.heap i2 l2 k2 ys) (hx:xs[k1]?=some x) (hy:ys[k2]?=some y) (d:∀ h',IsZip h' z TI TO (rawInt s.heap.objs.size)→IsPair h' TO x y→ItAt t1 h' i1 l1 (k1+1) xs→ItAt t2 h' i2 l2 (k2+1) ys→IsPair h' s.heap.objs.size x y→h'.objs.size=s.heap.objs.size+1→
      (∀ c o,c≠z→c≠TO→c≠i1→c≠i2→s.heap.get? c=some o→h'.get? c=some o)→Q (.ref s.heap.objs.size) { s with heap:=h' }):wpAny (model prog w) A (Builtin.«zip.__next__» ⟨[.ref z],[]⟩) (fun fin s'=>∃ v,fin=.done (.ret v)∧Q v s') E s:=by
  show wpAny _ _ (field (.ref z) 2 >>= _) _ _ _; refine wpAny_bind (wpAny_field gz rfl (x:=.bool false) rfl ?_)
  show wpAny _ _ (field (.ref z) 3 >>= _) _ _ _; refine wpAny_bind (wpAny_field gz rfl (x:=.ref TI) rfl ?_)
  refine wpAny_bind (wpAny_seqItems gI rfl ?_)
  show wpAny _ _ (Builtin.SmallTypes.ownedTupleIsFree (.ref z) >>= _) _ _ _; refine wpAny_bind ?_; unfold Builtin.SmallTypes.ownedTupleIsFree
  refine wpAny_bind (wpAny_field gz rfl (x:=.none) rfl (wpAny_pure ?_)); simp only [if_true]
  refine wpAny_bind (wpAny_rule ?_); refine wpAny_bind (wpAny_field gz rfl (x:=.ref TO) rfl ?_)
  refine wpAny_bind (wpAny_setField_rec gz (by simp) fun u1 gz1 s1=>?_); replace gz1:IsZip u1 z TI TO .ellipsis:=gz1
  refine wpAny_bind ?_; simp only [List.zipIdx_cons,List.zipIdx_nil,List.forIn_cons,List.forIn_nil]
  refine wpAny_bind (wpAny_bind (wpAny_onRaise ?_)); show wpAny _ _ (Builtin.SmallTypes.nextOf (.ref i1) >>= _) _ _ _
  refine wpAny_bind ((g1.ext s1.extBut D.i1z D.l1z).nx D.l1i1 hx fun u2 g12 s2=>wpAny_pure ?_)
  have gO2:IsPair u2 TO a b:=s2.extBut _ _ D.TOi1 (s1.extBut _ _ D.TOz gO)
  refine wpAny_bind (wpAny_seqItems gO2 rfl ?_); refine wpAny_bind (wpAny_updateSeq_pair gO2 fun u3 gO3 s3=>?_); replace gO3:IsPair u3 TO x b:=gO3
  refine wpAny_bind (wpAny_letGo (wpAny_pure ?_))
  refine wpAny_bind (wpAny_bind (wpAny_onRaise ?_)); show wpAny _ _ (Builtin.SmallTypes.nextOf (.ref i2) >>= _) _ _ _
  refine wpAny_bind ((((g2.ext s1.extBut D.i2z D.l2z).ext s2.extBut D.i12.symm D.l2i1).ext s3.extBut D.TOi2.symm D.l2TO).nx D.l2i2 hy fun u4 g24 s4=>wpAny_pure ?_)
  have gO4:IsPair u4 TO x b:=s4.extBut _ _ D.TOi2 gO3
  refine wpAny_bind (wpAny_seqItems gO4 rfl ?_); refine wpAny_bind (wpAny_updateSeq_pair gO4 fun u5 gO5 s5=>?_); replace gO5:IsPair u5 TO x y:=gO5
  refine wpAny_bind (wpAny_letGo (wpAny_pure (wpAny_pure ?_))); refine wpAny_bind (wpAny_seqItems gO5 rfl ?_); refine wpAny_bind (wpAny_newTuple ?_)
  have hsz:u5.objs.size=s.heap.objs.size:=by rw [s5.1,s4.1,s3.1,s2.1,s1.1]
  have gz5:IsZip u5 z TI TO .ellipsis:=s5.extBut _ _ D.TOz.symm (s4.extBut _ _ D.i2z.symm (s3.extBut _ _ D.TOz.symm (s2.extBut _ _ D.i1z.symm gz1)))
  have k5:∀ c o,c≠z→c≠TO→c≠i1→c≠i2→s.heap.get? c=some o→u5.get? c=some o:=fun c o c1 c2 c3 c4 e=>s5.extBut _ _ c2 (s4.extBut _ _ c4 (s3.extBut _ _ c2 (s2.extBut _ _ c3 (s1.extBut _ _ c1 e))))
  have g15:ItAt t1 u5 i1 l1 (k1+1) xs:=((g12.ext s3.extBut D.TOi1.symm D.l1TO).ext s4.extBut D.i12 D.l1i2).ext s5.extBut D.TOi1.symm D.l1TO
  have g25:ItAt t2 u5 i2 l2 (k2+1) ys:=g24.ext s5.extBut D.TOi2.symm D.l2TO
  have zlt:z<u5.objs.size:=Heap.lt_size gz5
  show wpAny _ _ (Builtin.SmallTypes.ownedTupleHandOut (.ref z) (.ref u5.objs.size) >>= _) _ _ _; refine wpAny_bind ?_; unfold Builtin.SmallTypes.ownedTupleHandOut
  have gz6:IsZip (u5.push { cls:=.type "tuple",data:=.seq #[x,y] }) z TI TO .ellipsis:=Heap.get?_push_of_some _ gz5
  refine wpAny_bind (wpAny_setField_rec gz6 (by simp) fun u7 gz7 s7=>?_); replace gz7:IsZip u7 z TI TO (rawInt u5.objs.size):=gz7
  refine wpAny_setField_rec gz7 (by simp) fun u8 gz8 s8=>?_; replace gz8:IsZip u8 z TI TO (rawInt u5.objs.size):=gz8
  have up:∀ c o,c≠z→u5.get? c=some o→u8.get? c=some o:=fun c o c1 e=>s8.extBut _ _ c1 (s7.extBut _ _ c1 (Heap.get?_push_of_some _ e))
  have gT:IsPair u8 u5.objs.size x y:=s8.extBut _ _ (Nat.ne_of_gt zlt) (s7.extBut _ _ (Nat.ne_of_gt zlt) (Heap.get?_push_size _ rfl))
  have z8:u8.objs.size=u5.objs.size+1:=by rw [s8.1,s7.1,Heap.size_push]
  rw [hsz] at gz8 gT z8
  refine wpAny_pure ⟨_,rfl,?_⟩; show Q (.ref u5.objs.size) _; rw [hsz]
  exact d u8 gz8 (up _ _ D.TOz gO5) (g15.at (fun o e=>up _ o D.i1z e) fun o e=>up _ o D.l1z e) (g25.at (fun o e=>up _ o D.i2z e) fun o e=>up _ o D.l2z e) gT z8 fun c o c1 c2 c3 c4 e=>up c o c1 (k5 c o c1 c2 c3 c4 e)
theorem zipX_end {t1 t2:Bool} {z TI TO i1 i2 l1 l2:Addr} {k1 k2:Nat} {xs ys:Array Value} {a b:Value} {Q:Fin→Shared→Prop} (hh:A.handled=none) (D:ZipApart z TI TO i1 i2 l1 l2) (gz:IsZip s.heap z TI TO .none) (gI:IsPair s.heap TI (.ref i1) (.ref i2)) (gO:IsPair s.heap TO a b)
    (g1:ItAt t1 s.heap i1 l1 k1 xs) (g2:ItAt t2 s.heap i2 l2 k2 ys) (hend:xs[k1]?=none∨ys[k2]?=none)
    (d:∀ h' e,(∀ c o,c≠z→c≠TO→c≠i1→c≠i2→s.heap.get? c=some o→h'.get? c=some o)→(∃ o,h'.get? e=some o∧o.cls=.type "StopIteration")→E (.ref e) { s with heap:=h' }):wpAny (model prog w) A (Builtin.«zip.__next__» ⟨[.ref z],[]⟩) Q E s:=by
  show wpAny _ _ (field (.ref z) 2 >>= _) _ _ _; refine wpAny_bind (wpAny_field gz rfl (x:=.bool false) rfl ?_)
  show wpAny _ _ (field (.ref z) 3 >>= _) _ _ _; refine wpAny_bind (wpAny_field gz rfl (x:=.ref TI) rfl ?_)
  refine wpAny_bind (wpAny_seqItems gI rfl ?_)
  show wpAny _ _ (Builtin.SmallTypes.ownedTupleIsFree (.ref z) >>= _) _ _ _; refine wpAny_bind ?_; unfold Builtin.SmallTypes.ownedTupleIsFree
  refine wpAny_bind (wpAny_field gz rfl (x:=.none) rfl (wpAny_pure ?_)); simp only [if_true]
  refine wpAny_bind (wpAny_rule ?_); refine wpAny_bind (wpAny_field gz rfl (x:=.ref TO) rfl ?_)
  refine wpAny_bind (wpAny_setField_rec gz (by simp) fun u1 gz1 s1=>?_); replace gz1:IsZip u1 z TI TO .ellipsis:=gz1
  refine wpAny_bind ?_; simp only [List.zipIdx_cons,List.zipIdx_nil,List.forIn_cons,List.forIn_nil]
  refine wpAny_bind (wpAny_bind (wpAny_onRaise ?_)); show wpAny _ _ (Builtin.SmallTypes.nextOf (.ref i1) >>= _) _ _ _
  cases hx:xs[k1]? with
  | none =>
    refine wpAny_bind ((g1.ext s1.extBut D.i1z D.l1z).nxE hh hx fun u2 e s2 he=>?_)
    obtain ⟨oe,hoe,hce⟩:=he
    have gz2:IsZip u2 z TI TO .ellipsis:=s2 _ _ D.i1z.symm gz1
    have hez:e≠z:=fun x=>by subst x; rw [gz2] at hoe; cases hoe; simp at hce
    refine wpAny_setField_rec gz2 (by simp) fun u3 _ s3=>d u3 e (fun c o c1 _ c3 _ x=>s3.extBut _ _ c1 (s2 _ _ c3 (s1.extBut _ _ c1 x))) ⟨oe,s3.extBut _ _ hez hoe,hce⟩
  | some x =>
    have hy:ys[k2]?=none:=by rcases hend with h | h; rw [hx] at h; cases h; exact h
    refine wpAny_bind ((g1.ext s1.extBut D.i1z D.l1z).nx D.l1i1 hx fun u2 g12 s2=>wpAny_pure ?_)
    have gO2:IsPair u2 TO a b:=s2.extBut _ _ D.TOi1 (s1.extBut _ _ D.TOz gO)
    refine wpAny_bind (wpAny_seqItems gO2 rfl ?_); refine wpAny_bind (wpAny_updateSeq_pair gO2 fun u3 gO3 s3=>?_)
    refine wpAny_bind (wpAny_letGo (wpAny_pure ?_)); refine wpAny_bind (wpAny_bind (wpAny_onRaise ?_)); show wpAny _ _ (Builtin.SmallTypes.nextOf (.ref i2) >>= _) _ _ _
    refine wpAny_bind ((((g2.ext s1.extBut D.i2z D.l2z).ext s2.extBut D.i12.symm D.l2i1).ext s3.extBut D.TOi2.symm D.l2TO).nxE hh hy fun u4 e s4 he=>?_)
    obtain ⟨oe,hoe,hce⟩:=he
    have gz4:IsZip u4 z TI TO .ellipsis:=s4 _ _ D.i2z.symm (s3.extBut _ _ D.TOz.symm (s2.extBut _ _ D.i1z.symm gz1))
    have hez:e≠z:=fun x=>by subst x; rw [gz4] at hoe; cases hoe; simp at hce
    refine wpAny_setField_rec gz4 (by simp) fun u5 _ s5=>d u5 e (fun c o c1 c2 c3 c4 x=>s5.extBut _ _ c1 (s4 _ _ c4 (s3.extBut _ _ c2 (s2.extBut _ _ c3 (s1.extBut _ _ c1 x))))) ⟨oe,s5.extBut _ _ hez hoe,hce⟩
theorem nextZ_item {t1 t2:Bool} {z TI TO i1 i2 l1 l2:Addr} {k1 k2:Nat} {xs ys:Array Value} {x y a b:Value} {Q:Option Value→Shared→Prop} (D:ZipApart z TI TO i1 i2 l1 l2) (gz:IsZip s.heap z TI TO .none) (gI:IsPair s.heap TI (.ref i1) (.ref i2)) (gO:IsPair s.heap TO a b)
    (g1:ItAt t1 s.heap i1 l1 k1 xs) (g2:ItAt t2 s.heap i2 l2 k2 ys) (hx:xs[k1]?=some x) (hy:ys[k2]?=some y) (d:∀ h',IsZip h' z TI TO (rawInt s.heap.objs.size)→IsPair h' TO x y→ItAt t1 h' i1 l1 (k1+1) xs→ItAt t2 h' i2 l2 (k2+1) ys→IsPair h' s.heap.objs.size x y→h'.objs.size=s.heap.objs.size+1→
      (∀ c o,c≠z→c≠TO→c≠i1→c≠i2→s.heap.get? c=some o→h'.get? c=some o)→Q (some (.ref s.heap.objs.size)) { s with heap:=h' }):wpAny (model prog w) A (pyNext (.ref z)) Q E s:=by
  have hT:s.TypeIs (.ref z) "zip":=⟨_,gz,rfl⟩; unfold pyNext
  exact wpAny_bind (wpAny_attempt (wpAny_callSpecial?_slot (name:=Str.ofString "__next__") hT F.slot_zip_next (wpAny_call_entry F.slot_zip_next hT F.entry_zip_next (zipX_item D gz gI gO g1 g2 hx hy fun h' a1 a2 a3 a4 a5 a6 a7=>wpAny_pure (d h' a1 a2 a3 a4 a5 a6 a7)) (F.args_zip_next_1 _))))
theorem nextZ_end {t1 t2:Bool} {z TI TO i1 i2 l1 l2:Addr} {k1 k2:Nat} {xs ys:Array Value} {a b:Value} {Q:Option Value→Shared→Prop} (hh:A.handled=none) (D:ZipApart z TI TO i1 i2 l1 l2) (gz:IsZip s.heap z TI TO .none) (gI:IsPair s.heap TI (.ref i1) (.ref i2)) (gO:IsPair s.heap TO a b)
    (g1:ItAt t1 s.heap i1 l1 k1 xs) (g2:ItAt t2 s.heap i2 l2 k2 ys) (hend:xs[k1]?=none∨ys[k2]?=none) (d:∀ h',(∀ c o,c≠z→c≠TO→c≠i1→c≠i2→s.heap.get? c=some o→h'.get? c=some o)→Q none { s with heap:=h' }):wpAny (model prog w) A (pyNext (.ref z)) Q E s:=by
  have hT:s.TypeIs (.ref z) "zip":=⟨_,gz,rfl⟩; unfold pyNext
  refine wpAny_bind (wpAny_attempt (wpAny_callSpecial?_slot (name:=Str.ofString "__next__") hT F.slot_zip_next (wpAny_call_entry F.slot_zip_next hT F.entry_zip_next (zipX_end hh D gz gI gO g1 g2 hend fun h' e hk he=>?_) (F.args_zip_next_1 _))))
  obtain ⟨o,ho,hc⟩:=he; refine wpAny_bind (wpAny_isInstance (T:="StopIteration") (b:=true) ⟨o,ho,hc⟩ isSubtype_stop ?_); exact wpAny_pure (d _ hk)
abbrev itCls (tp:Bool):String:=if tp then "tuple_iterator" else "list_iterator"
def SeqOf (tp:Bool) (h:Heap) (l:Addr) (xs:Array Value):Prop:=match tp with
  | false=>h.IsList l xs
  | true=>h.IsTuple l xs
abbrev zP (h:Heap) (tp:Bool) (l:Addr):Heap:=h.push { cls:=.type (itCls tp),data:=.fields #[.ref l,.int 0 0] }
abbrev zQ (h:Heap) (t1 t2:Bool) (l1 l2:Addr):Heap:=(zP (zP h t1 l1) t2 l2).push { cls:=.type "tuple",data:=.seq #[.ref h.objs.size,.ref (zP h t1 l1).objs.size] }
abbrev zR (h:Heap) (t1 t2:Bool) (l1 l2:Addr):Heap:=(zQ h t1 t2 l1 l2).push { cls:=.type "tuple",data:=.seq #[.none,.none] }
abbrev zS (h:Heap) (t1 t2:Bool) (l1 l2:Addr):Heap:=(zR h t1 t2 l1 l2).push { cls:=.type "zip",data:=.fields #[.none,.bool false,.bool false,.ref (zP (zP h t1 l1) t2 l2).objs.size,.ref (zQ h t1 t2 l1 l2).objs.size] }
theorem meets_zipX (t1 t2:Bool) (l1 l2:Addr) (xs ys:Array Value):Meets (Builtin.«zip.__new__» ⟨[.type "zip",.ref l1,.ref l2],[]⟩) (fun _ R s=>SeqOf t1 s.heap l1 xs∧SeqOf t2 s.heap l2 ys∧R (.ok (.ret (.ref (zR s.heap t1 t2 l1 l2).objs.size))) { s with heap:=zS s.heap t1 t2 l1 l2 }) :=
  .of_wp fun prog w A R s h=>by
    obtain ⟨hp,g,d,tk,os⟩:=s; obtain ⟨g1,g2,h⟩:=h
    have sb:=sub_zip
    cases t1 <;> cases t2
    · have a1:Heap.IsList (Shared.heap ⟨hp,g,d,tk,os⟩) l1 xs:=g1
      have a2:Heap.IsList (Shared.heap ⟨hp.push { cls:=.type "list_iterator",data:=.fields #[.ref l1,.int 0 0] },g,d,tk,os⟩) l2 ys:=Heap.IsList.push g2 _
      wp_walk using wpAny_pyIter_list a1,wpAny_pyIter_list a2; exact ⟨_,rfl,h⟩
    · have a1:Heap.IsList (Shared.heap ⟨hp,g,d,tk,os⟩) l1 xs:=g1
      have a2:Heap.IsTuple (Shared.heap ⟨hp.push { cls:=.type "list_iterator",data:=.fields #[.ref l1,.int 0 0] },g,d,tk,os⟩) l2 ys:=by obtain ⟨o,e,r⟩:=g2; exact ⟨o,Heap.get?_push_of_some _ e,r⟩
      wp_walk using wpAny_pyIter_list a1,wpAny_pyIter_tuple a2; exact ⟨_,rfl,h⟩
    · have a1:Heap.IsTuple (Shared.heap ⟨hp,g,d,tk,os⟩) l1 xs:=g1
      have a2:Heap.IsList (Shared.heap ⟨hp.push { cls:=.type "tuple_iterator",data:=.fields #[.ref l1,.int 0 0] },g,d,tk,os⟩) l2 ys:=Heap.IsList.push g2 _
      wp_walk using wpAny_pyIter_tuple a1,wpAny_pyIter_list a2; exact ⟨_,rfl,h⟩
    · have a1:Heap.IsTuple (Shared.heap ⟨hp,g,d,tk,os⟩) l1 xs:=g1
      have a2:Heap.IsTuple (Shared.heap ⟨hp.push { cls:=.type "tuple_iterator",data:=.fields #[.ref l1,.int 0 0] },g,d,tk,os⟩) l2 ys:=by obtain ⟨o,e,r⟩:=g2; exact ⟨o,Heap.get?_push_of_some _ e,r⟩
      wp_walk using wpAny_pyIter_tuple a1,wpAny_pyIter_tuple a2; exact ⟨_,rfl,h⟩
theorem itAt_new {tp:Bool} {h h':Heap} {i l:Addr} {xs:Array Value} (g:SeqOf tp h l xs) (e:h'.get? i=some { cls:=.type (itCls tp),data:=.fields #[.ref l,.int 0 0] }) (k:∀ c o,h.get? c=some o→h'.get? c=some o):ItAt tp h' i l 0 xs:=by
  cases tp with
  | false=>exact ⟨⟨_,e,rfl,rfl⟩,g.at fun o x=>k _ o x⟩
  | true=>obtain ⟨o,x,r⟩:=g; exact ⟨⟨_,e,rfl,rfl⟩,⟨o,k _ o x,r⟩⟩
theorem call_zipX {t1 t2:Bool} {l1 l2:Addr} {xs ys:Array Value} {Q:Value→Shared→Prop} (g1:SeqOf t1 s.heap l1 xs) (g2:SeqOf t2 s.heap l2 ys)
    (k:∀ h',IsZip h' (s.heap.objs.size+4) (s.heap.objs.size+2) (s.heap.objs.size+3) .none→IsPair h' (s.heap.objs.size+2) (.ref s.heap.objs.size) (.ref (s.heap.objs.size+1))→IsPair h' (s.heap.objs.size+3) .none .none→ItAt t1 h' s.heap.objs.size l1 0 xs→ItAt t2 h' (s.heap.objs.size+1) l2 0 ys→
      (∀ c o,s.heap.get? c=some o→h'.get? c=some o)→Q (.ref (s.heap.objs.size+4)) { s with heap:=h' }):wpAny (model prog w) A (call (.type "zip") [.ref l1,.ref l2]) Q E s:=by
  refine callType_new F.called_zip (by decide) (F.typeCall_zip_2 _ _) (F.newCall_zip_2 _ _) (fun obj=>F.args_object_init_3 obj _ _) F.entry_zip_new (meets_zipX t1 t2 l1 l2 xs ys) ⟨g1,g2,?_⟩
  have z1:(zP s.heap t1 l1).objs.size=s.heap.objs.size+1:=Heap.size_push ..
  have z2:(zP (zP s.heap t1 l1) t2 l2).objs.size=s.heap.objs.size+2:=by rw [Heap.size_push,z1]
  have z3:(zQ s.heap t1 t2 l1 l2).objs.size=s.heap.objs.size+3:=by rw [Heap.size_push,z2]
  have z4:(zR s.heap t1 t2 l1 l2).objs.size=s.heap.objs.size+4:=by rw [Heap.size_push,z3]
  have e5:(zS s.heap t1 t2 l1 l2).get? (zR s.heap t1 t2 l1 l2).objs.size=some _:=Heap.get?_push_size _ rfl
  have e4:(zS s.heap t1 t2 l1 l2).get? (zQ s.heap t1 t2 l1 l2).objs.size=some _:=Heap.get?_push_of_some _ (Heap.get?_push_size _ rfl)
  have e3:(zS s.heap t1 t2 l1 l2).get? (zP (zP s.heap t1 l1) t2 l2).objs.size=some _:=Heap.get?_push_of_some _ (Heap.get?_push_of_some _ (Heap.get?_push_size _ rfl))
  have e2:(zS s.heap t1 t2 l1 l2).get? (zP s.heap t1 l1).objs.size=some _:=Heap.get?_push_of_some _ (Heap.get?_push_of_some _ (Heap.get?_push_of_some _ (Heap.get?_push_size _ rfl)))
  have e1:(zS s.heap t1 t2 l1 l2).get? s.heap.objs.size=some _:=Heap.get?_push_of_some _ (Heap.get?_push_of_some _ (Heap.get?_push_of_some _ (Heap.get?_push_of_some _ (Heap.get?_push_size _ rfl))))
  show _∧_
  rw [z2,z3,z4] at e5; rw [z1,z2] at e3; rw [z3] at e4; rw [z1] at e2; rw [z4]
  have up:∀ c o,s.heap.get? c=some o→(zS s.heap t1 t2 l1 l2).get? c=some o:=fun c o x=>Heap.get?_push_of_some _ (Heap.get?_push_of_some _ (Heap.get?_push_of_some _ (Heap.get?_push_of_some _ (Heap.get?_push_of_some _ x))))
  exact ⟨⟨_,e5,rfl⟩,k _ e5 e3 e4 (itAt_new g1 e1 up) (itAt_new g2 e2 up) up⟩
end
end L2
namespace L2
open PySem PySem.Spec PyProof.Rows
def SqX (tp:Bool) (K:PySem.W.Frag) (H:Hp) (a:Addr) (xs:List V):Prop:=match tp with
  | false=>SqL K H a xs
  | true=>SqT K H a xs
theorem Inv.seqX {X:Cx} {pins:List (Addr×Obj)} {σ:St} {H:Hp} {s:Shared} {tp:Bool} {a:Addr} {xs:List V} (I:Inv X pins σ H s) (h:SqX tp X.K H a xs):∃ its:List Value,Vals xs its∧SeqOf tp s.heap a its.toArray:=by
  cases tp with
  | false=>obtain ⟨its,r,p,_⟩:=I.list h; exact ⟨its,r,p.isList⟩
  | true=>obtain ⟨its,r,p,_⟩:=I.tuple h; exact ⟨its,r,IsTup.tup p⟩
def IteZ (K:PySem.W.Frag) (t1 t2:Bool) (a b:Addr):It :=
  ⟨fun i H=>∃ xs ys x y,SqX t1 K H a xs∧SqX t2 K H b ys∧xs[i]?=some x∧ys[i]?=some y,
   fun i H v H'=>∃ T x y,H T=none∧H'=upd H T (.tup [x,y])∧v=.ref T∧∀ xs ys,SqX t1 K H a xs→SqX t2 K H b ys→xs[i]?=some x∧ys[i]?=some y,
   fun i H=>∃ xs ys,SqX t1 K H a xs∧SqX t2 K H b ys∧(xs[i]?=none∨ys[i]?=none)⟩
def IterAt (tp:Bool) (h:Heap) (i l:Addr) (k:Nat):Prop:=match tp with
  | false=>h.IsListIter i l k
  | true=>h.IsTupleIter i l k
theorem IterAt.it {tp:Bool} {h:Heap} {i l:Addr} {k:Nat} {xs:Array Value} (a:IterAt tp h i l k) (b:SeqOf tp h l xs):ItAt tp h i l k xs:=by
  cases tp with
  | false=>exact ⟨a,b⟩
  | true=>exact ⟨a,b⟩
theorem ItAt.iter {tp:Bool} {h:Heap} {i l:Addr} {k:Nat} {xs:Array Value} (a:ItAt tp h i l k xs):IterAt tp h i l k:=by
  cases tp with
  | false=>exact a.1
  | true=>exact a.1
theorem IterAt.at {tp:Bool} {h h':Heap} {i l:Addr} {k:Nat} (a:IterAt tp h i l k) (k1:∀ o,h.get? i=some o→h'.get? i=some o):IterAt tp h' i l k:=by
  cases tp with
  | false=>obtain ⟨o,e,r⟩:=a; exact ⟨o,k1 o e,r⟩
  | true=>obtain ⟨o,e,r⟩:=a; exact ⟨o,k1 o e,r⟩
theorem IterAt.obj {tp:Bool} {h:Heap} {i l:Addr} {k:Nat} (a:IterAt tp h i l k):∃ o,h.get? i=some o∧∀ v,o.data≠.cell v:=by
  cases tp with
  | false=>obtain ⟨o,e,_,d⟩:=a; exact ⟨o,e,fun v q=>by rw [d] at q; cases q⟩
  | true=>obtain ⟨o,e,_,d⟩:=a; exact ⟨o,e,fun v q=>by rw [d] at q; cases q⟩
theorem sqX_inj {X:Cx} {pins:List (Addr×Obj)} {σ:St} {H:Hp} {s:Shared} {tp:Bool} {a:Addr} {xs ys:List V} (I:Inv X pins σ H s) (h1:SqX tp X.K H a xs) (h2:SqX tp X.K H a ys):xs=ys:=by
  cases tp with
  | false=>exact I.list_inj h1 h2
  | true=>exact I.tuple_inj h1 h2
theorem turn_zip {P:Program} {w:World} {K:PySem.W.Frag} {elts:List Expr} {x1:Nat} {tp:Pos} {t1 t2:Bool} {a b z TI TO i1 i2:Addr} (D:ZipApart z TI TO i1 i2 a b) :
    Turn P w K (.Tuple elts x1 tp) (IteZ K t1 t2 a b) [z,TI,TO,i1,i2] z (fun i h=>IsZip h z TI TO .none∧IsPair h TI (.ref i1) (.ref i2)∧(∃ u v,IsPair h TO u v)∧IterAt t1 h i1 a i∧IterAt t2 h i2 b i) where
  mem:=by simp
  obj:=fun i h st c hc=>by
    obtain ⟨h1,h2,⟨u,v,h3⟩,h4,h5⟩:=st
    simp only [List.mem_cons,List.not_mem_nil,or_false] at hc
    rcases hc with rfl | rfl | rfl | rfl | rfl
    · exact ⟨_,h1,fun v q=>nomatch q⟩
    · exact ⟨_,h2,fun v q=>nomatch q⟩
    · exact ⟨_,h3,fun v q=>nomatch q⟩
    · exact h4.obj
    · exact h5.obj
  keep:=fun i h h' st k=>by
    obtain ⟨h1,h2,⟨u,v,h3⟩,h4,h5⟩:=st
    exact ⟨k z (by simp) _ h1,k TI (by simp) _ h2,⟨u,v,k TO (by simp) _ h3⟩,h4.at fun o e=>k i1 (by simp) o e,h5.at fun o e=>k i2 (by simp) o e⟩
  item:=by
    intro X hP hw hK hc i pins s σ H E I hf st hg
    subst hP hw hK
    obtain ⟨xs,ys,x,y,hxs,hys,hx,hy⟩:=hg
    obtain ⟨us,r1,q1⟩:=I.seqX hxs
    obtain ⟨ws,r2,q2⟩:=I.seqX hys
    obtain ⟨u,hu,ru⟩:=r1.get hx
    obtain ⟨v,hv,rv⟩:=r2.get hy
    obtain ⟨h1,h2,⟨o1,o2,h3⟩,h4,h5⟩:=st
    refine nextZ_item D h1 h2 h3 (h4.it q1) (h5.it q2) (x:=u) (y:=v) (by simpa using hu) (by simpa using hv) fun h' b1 b2 b3 b4 b5 b6 b7=>?_
    refine ⟨_,rfl,?_⟩
    refine wpAny_letOwnedTupleGo_zip b1 fun h6 c1 c2=>?_
    have lt:∀ {c o},s.heap.get? c=some o→c≠s.heap.objs.size:=fun e=>Nat.ne_of_lt (Heap.lt_size e)
    have zlt:s.heap.objs.size≠z:=Ne.symm (lt h1)
    have k2:∀ c o,c∉[z,TI,TO,i1,i2]→s.heap.get? c=some o→h6.get? c=some o:=fun c o hc' q=>by
      have n1:c≠z:=fun e=>hc' (by simp [e])
      exact (c2.2 c n1).trans (b7 c o n1 (fun e=>hc' (by simp [e])) (fun e=>hc' (by simp [e])) (fun e=>hc' (by simp [e])) q)
    have t2:h6.get? s.heap.objs.size=some { cls:=.type "tuple",data:=.seq #[u,v] }:=(c2.2 _ zlt).trans b5
    have hn:H s.heap.objs.size=none:=I.hok.fresh (Nat.le_refl _)
    have new:ObjOk X.prog X.w (upd H s.heap.objs.size (.tup [x,y])) h6 s.heap.objs.size (.tup [x,y]):=⟨by simp only [List.length_cons,List.length_nil]; rw [sizeLine_eq]; decide,[u,v],.cons ru (.cons rv .nil),⟨_,t2,rfl,_,rfl⟩⟩
    have I2:Inv X pins σ (upd H s.heap.objs.size (.tup [x,y])) { s with heap:=h6,toks:=s.toks }:=I.turnedNew k2 hf (Nat.le_refl _) new
    refine ⟨.ref s.heap.objs.size,_,I2,rfl,⟨s.heap.objs.size,x,y,hn,rfl,rfl,fun xs' ys' hx' hy'=>⟨by rw [sqX_inj I hx' hxs]; exact hx,by rw [sqX_inj I hy' hys]; exact hy⟩⟩,⟨c1,(c2.2 _ D.TIz).trans (b7 _ _ D.TIz D.TITO D.TIi1 D.TIi2 h2),⟨_,_,(c2.2 _ D.TOz).trans b2⟩,b3.iter.at fun o e=>(c2.2 _ D.i1z).trans e,b4.iter.at fun o e=>(c2.2 _ D.i2z).trans e⟩,fun c hc'=>?_⟩
    have hne:c≠s.heap.objs.size:=by
      simp only [List.mem_cons,List.not_mem_nil,or_false] at hc'
      rcases hc' with rfl | rfl | rfl | rfl | rfl
      · exact lt h1
      · exact lt h2
      · exact lt h3
      · obtain ⟨o,e,_⟩:=h4.obj; exact lt e
      · obtain ⟨o,e,_⟩:=h5.obj; exact lt e
    rw [upd_ne hne]
    exact (hf c hc').1
  done:=by
    intro X hP hw hK hc i pins s σ H E I hf st hg
    subst hP hw hK
    obtain ⟨xs,ys,hxs,hys,hend⟩:=hg
    obtain ⟨us,r1,q1⟩:=I.seqX hxs
    obtain ⟨ws,r2,q2⟩:=I.seqX hys
    obtain ⟨h1,h2,⟨o1,o2,h3⟩,h4,h5⟩:=st
    have e1:=r1.length
    have e2:=r2.length
    refine nextZ_end (show X.A.handled=none from I.ok.hd hc) D h1 h2 h3 (h4.it q1) (h5.it q2) ?_ fun h' k=>⟨rfl,?_⟩
    · rcases hend with h | h
      · refine .inl ?_
        have:=List.getElem?_eq_none_iff.mp h
        simp
        omega
      · refine .inr ?_
        have:=List.getElem?_eq_none_iff.mp h
        simp
        omega
    · exact I.turnedL (t':=s.toks) (fun c o hc' q=>k c o (fun e=>hc' (by simp [e])) (fun e=>hc' (by simp [e])) (fun e=>hc' (by simp [e])) (fun e=>hc' (by simp [e])) q) hf
  self:=fun _ _ _ _ _ st h=>wpAny_pyIter_zip st.1 h
section
variable {X:Cx}
def iZip (K:PySem.W.Frag) (t1 t2:Bool) (ta:TA):TI:=fun σ H R=>ta σ H fun vs H1=>∃ a b,vs=[.ref a,.ref b]∧(∃ xs,SqX t1 K H1 a xs)∧(∃ ys,SqX t2 K H1 b ys)∧R (IteZ K t1 t2 a b) H1
theorem pi_zip (t1 t2:Bool) {a b:Expr} {ta:TA} {p pos tp:Pos} {elts:List Expr} {x1:Nat} (hg:Gl X "zip") (hm:X.mg "zip"=none) (ha:PA X [a,b] ta) (hs:starEach [a,b] X.env=(false,eval a X.env)::starEach [b] X.env:=by rfl) (hpl:(backTo pos (starEach [b] X.env)).any (·.1)=false:=by rfl) :
    PI X (.Tuple elts x1 tp) (.Call (.Name "zip" p) [a,b] [] pos) (iZip X.K t1 t2 ta):=by
  intro pins s σ H R I h
  refine Call_ (ld_blt I hg hm PyProof.Rows.boot_zip (PyProof.Rows.callWith_type1 (thn (ha pos pins s σ H _ I h) fun us s1 ⟨vs,H1,I1,r1,q1⟩=>?_) hs hpl))
  obtain ⟨l1,l2,e,⟨xs,hx⟩,⟨ys,hy⟩,q⟩:=q1
  subst e
  obtain ⟨u,v,rfl,ru,rv⟩:=vals2 r1
  cases ru
  cases rv
  obtain ⟨us,_,g1⟩:=I1.seqX hx
  obtain ⟨ws,_,g2⟩:=I1.seqX hy
  have lt:∀ {tp:Bool} {l:Addr} {zs:Array Value},SeqOf tp s1.heap l zs→l<s1.heap.objs.size:=fun {tp} {l} {zs} g=>by
    cases tp with
    | false=>obtain ⟨o,z,_⟩:=g; exact Heap.lt_size z
    | true=>obtain ⟨o,z,_⟩:=g; exact Heap.lt_size z
  refine call_zipX g1 g2 fun h' b1 b2 b3 b4 b5 hk=>?_
  refine wpAny_pyIter_zip b1 ?_
  have hfp:∀ c∈[s1.heap.objs.size+4,s1.heap.objs.size+2,s1.heap.objs.size+3,s1.heap.objs.size,s1.heap.objs.size+1],FpOk X pins H1 c:=fun c hc=>by
    have hge:s1.heap.objs.size≤c:=by
      simp only [List.mem_cons,List.not_mem_nil,or_false] at hc
      omega
    exact I1.fpOk hge (I1.hok.fresh hge)
  exact ⟨s1.heap.objs.size+4,_,_,_,H1,rfl,I1.kept (t':=s1.toks) hk,turn_zip (zipApart_new (lt g1) (lt g2)),⟨b1,b2,⟨_,_,b3⟩,b4.iter,b5.iter⟩,hfp,q⟩
end
theorem for_zip {K:PySem.W.Frag} {t1 t2:Bool} {a b:Addr} {xs ys:List V} {g:TG} {tb:TS} {D:Ends} {σ:St} {H:Hp} (Pv:Nat→St→Hp→Prop) (h0:Pv 0 σ H) (hl:∀ i σ H,i≤min xs.length ys.length→Pv i σ H→SqX t1 K H a xs∧SqX t2 K H b ys)
    (hs:∀ i x y σ H T,xs[i]?=some x→ys[i]?=some y→Pv i σ H→H T=none→g (.ref T) σ (upd H T (.tup [x,y])) fun σ2 H2=>tb { D with nx:=Pv (i+1),ct:=Pv (i+1),bk:=D.nx } σ2 H2) (hd:∀ σ H,Pv (min xs.length ys.length) σ H→D.nx σ H) :
    ∃ W:Nat→Nat→St→Hp→Prop,(∃ m,W 0 m σ H)∧∀ i m σ H,W i m σ H→((IteZ K t1 t2 a b).stop i H∧D.nx σ H)∨((IteZ K t1 t2 a b).go i H∧∃ N:St→Hp→Prop,(∀ σ' H',N σ' H'→∃ m',m'<m∧W (i+1) m' σ' H')∧∀ x H',(IteZ K t1 t2 a b).yld i H x H'→g x σ H' fun σ2 H2=>tb { D with nx:=N,ct:=N,bk:=D.nx } σ2 H2):=by
  refine ⟨fun i m σ H=>m=min xs.length ys.length - i∧i≤min xs.length ys.length∧Pv i σ H,⟨min xs.length ys.length,by simp,Nat.zero_le _,h0⟩,?_⟩
  rintro i m σ H ⟨rfl,hi,p⟩
  obtain ⟨q1,q2⟩:=hl i σ H hi p
  by_cases hlt:i<min xs.length ys.length
  · have e1:=List.getElem?_eq_getElem (show i<xs.length by omega)
    have e2:=List.getElem?_eq_getElem (show i<ys.length by omega)
    refine .inr ⟨⟨xs,ys,_,_,q1,q2,e1,e2⟩,Pv (i+1),fun σ' H' p'=>⟨min xs.length ys.length - (i+1),by omega,rfl,hlt,p'⟩,fun v H' y=>?_⟩
    obtain ⟨T,x,y,hT,z1,z2,z3⟩:=y
    subst z1 z2
    obtain ⟨z4,z5⟩:=z3 xs ys q1 q2
    exact hs i x y σ H T z4 z5 p hT
  · have e:i=min xs.length ys.length:=by omega
    refine .inl ⟨⟨xs,ys,q1,q2,?_⟩,hd σ H (by rw [← e]; exact p)⟩
    by_cases hx:i<xs.length
    · exact .inr (List.getElem?_eq_none (by omega))
    · exact .inl (List.getElem?_eq_none (by omega))
end L2
namespace L2
open PySem PySem.Spec PyProof.Rows
def tJoin (t u:TS):TS:=fun D σ H=>∃ Pv:St→Hp→Prop,t { D with nx:=Pv } σ H∧∀ σ' H',Pv σ' H'→u D σ' H'
theorem pss_join {X:Cx} {st:Stmt} {rest:List Stmt} {t u:TS} (h1:PS X st t) (h2:PSs X rest u):PSs X (st::rest) (tJoin t u):=by
  intro pins s σ H D I ⟨Pv,h,k⟩
  refine wpAny_execs_cons (thn (h1 pins s σ H { D with nx:=Pv } I h) fun f s1 q=>?_)
  cases f with
  | next=>obtain ⟨σ',H',I',q⟩:=q; exact h2 pins s1 σ' H' D I' (k σ' H' q)
  | ret v=>exact q
  | brk=>exact q
  | cont=>exact q
section
variable {X:Cx}
end
end L2
namespace HT
open PySem PySem.Spec PyProof PyProof.Rows
section
variable {prog:Program} {w:World} {A:Around} {E:Value→Shared→Prop} {s:Shared}
end
end HT
namespace L2
open PySem PySem.Spec PyProof.Rows
section
variable {X:Cx}
def rSlTS:V→Option Int→Option Int→Hp→VK→Prop:=fun x lo hi H Q=>∃ a xs,x=.ref a∧H a=some (.tup xs)∧∀ p H',Same H H'→H' p=some (.tup (cutV xs lo hi))→Q (.ref p) H'
def rCatS:R2:=fun x y H Q=>∃ a b xs ys,x=.ref a∧y=.ref b∧H a=some (.tup xs)∧H b=some (.tup ys)∧xs≠[]∧xs.length+ys.length≤sizeLine∧∀ p H',Same H H'→H' p=some (.tup (xs++ys))→Q (.ref p) H'
def tJoinT (t:TT):TT:=fun σ H Q=>∃ R:Bool→Hp→Prop,t σ H R∧∀ b H',R b H'→Q b H'
theorem pt_join {c:Expr} {t:TT} (h:PT X c t):PT X c (tJoinT t):=fun pins s σ H Q I hq=>by
  obtain ⟨R,hR,k⟩:=hq
  exact thn (h pins s σ H R I hR) fun b s1 ⟨H1,I1,q⟩=>⟨H1,I1,k b H1 q⟩
theorem len1 {α:Type} {l:List α} (h:l.length=1):∃ a,l=[a]:=by
  match l,h with
  | [a],_=>exact ⟨a,rfl⟩
theorem len2 {α:Type} {l:List α} (h:l.length=2):∃ a b,l=[a,b]:=by
  match l,h with
  | [a,b],_=>exact ⟨a,b,rfl⟩
theorem len3 {α:Type} {l:List α} (h:l.length=3):∃ a b c,l=[a,b,c]:=by
  match l,h with
  | [a,b,c],_=>exact ⟨a,b,c,rfl⟩
theorem len4 {α:Type} {l:List α} (h:l.length=4):∃ a b c d,l=[a,b,c,d]:=by
  match l,h with
  | [a,b,c,d],_=>exact ⟨a,b,c,d,rfl⟩
end
end L2
namespace L2
open PySem PySem.Spec PyProof.Rows PySem.W Builtin Builtin.ObjectAttr
def underVE:List Value→Bool
  | .ref _::r=>underVE r
  | l=>l == [.type "ValueError",.type "Exception",.type "BaseException",.type "object"]
def overX (K:Frag) (C:Addr):Bool:=(clsIn K C).any fun cd=>underVE cd.mro
section
variable {prog:Program} {w:World} {A:Around} {s:Shared} {K:Frag} {x C:Addr} {R:Result→Shared→Prop}
end
end L2
namespace L2
open PySem PySem.Spec PyProof.Rows
section
variable {prog:Program} {w:World} {A:Around} {E:Value→Shared→Prop} {s:Shared} {K:PySem.W.Frag} {x C:Addr} {name:Str} {v:Value}
end
end L2
namespace L2
open PySem PySem.Spec PyProof.Rows
def excInF (K:PySem.W.Frag) (C f:Addr):Bool :=
  match K.lookup C with
  | some ⟨.type "type",_,.cls cd,sl⟩ =>
    match cd.mro,sl.toList with
    | .ref C'::bm,[_,_,_,_,some (.builtin n),_]=>((C' == C && n == "ValueError.__new__") && (!cd.hasDel && PySem.W.tailIn K VE bm)) && (PySem.W.nsOkIn K cd.ns && PySem.W.nsIn K cd.ns "__init__" == some (some (.ref f)))
    | _,_=>false
  | _=>false
section
variable {prog:Program} {w:World} {A:Around} {h:Heap} {g:Array GenState} {d:Drawn} {t:Nat} {os:OsState} {R:Result→Shared→Prop}
variable {nm q:Str} {C N:Addr} {bs bm:List Value} {hdct:Bool} {sn:List Str} {sub:List Value} {ab:Bool} {col:Option Bool} {dd:Option Addr} {k0 k1 k2 k3 k5:Option Value}
end
end L2
namespace L2
open PySem PySem.Spec PyProof.Rows
def ExN (a C:Addr) (d:Option Addr):HO:=.ext fun h=>∃ vs sl,h.get? a=some ⟨.ref C,d,.fields vs,sl⟩∧vs[1]?=some .none
structure XSet (K:PySem.W.Frag) (C:Addr) (f:Str):Prop where
  sa:PySem.W.findIn K (.ref C) "__setattr__"=some (some (.builtin "object.__setattr__"))
  po:overX K C=true
  tk:PySem.W.takerIn K C f=some none
  hd:PySem.W.hasDictIn K C=true
structure MkX (K:PySem.W.Frag) (C f:Addr):Prop where
  ex:excInF K C f=true
  fn:PySem.W.isFn K (.ref f)=true
  kp:PySem.W.keepIn K (.ref C)=true
section
variable {X:Cx} {pins:List (Addr×Obj)} {σ:St} {H:Hp} {s:Shared} {A:Around} {E:Value→Shared→Prop}
def sXFld (K:PySem.W.Frag) (ta tv:TE) (f:Str):TS:=fun D σ H=>tv σ H fun y H1=>ta σ H1 fun x H2=>∃ a C,x=.ref a∧H2 a=some (ExN a C none)∧XSet K C f∧∀ dx,H2 dx=none→dx≠a→D.nx σ (upd (upd H2 dx (.xd [(f,y)])) a (ExN a C (some dx)))
def tXMake (C:Addr) (sp:Sp) (E:XK) (t:TA):TE:=fun σ H Q=>t σ H fun vs H1=>vs.length≤sizeLine∧∀ x,H1 x=none→sp (.ref x::vs) (upd H1 x (ExN x C none)) (fun v H2=>v=.non∧Q (.ref x) H2) E
section
variable {CX:CXT} {k:Nat} {f C:Addr} {fd:FuncData} {ps:List Str} {sp:Sp} {E:XK} {x:Str} {p pos:Pos} {e:Expr} {es:List Expr} {t:TA}
end
end
end L2
namespace L2
open PySem PySem.Spec PyProof.Rows
def drop (H:Hp) (x:Addr):Hp:=fun b=>if b=x then none else H b
section
variable {M:Model} {A:Around} {E:Value→Shared→Prop} {env:Env} {nm q:Str} {C N:Addr} {bs bm:List Value} {hdct:Bool} {sn:List Str} {sub:List Value} {ab:Bool} {col:Option Bool} {dd:Option Addr} {k0 k1 k2 k3 k5:Option Value} {newId:String}
end
def StartsD (X:Cx) (E:XK):Prop:=∀ (pins:List (Addr×Obj)) (σ:St) (H:Hp) (s:Shared) (x C:Addr) (d:Option Addr),Inv X pins σ H s→H x=some (ExN x C d)→X.H₀ x=none→E (.ref C) d (drop H x)→X.xe (.ref x) s
def tRaiseV (X:Cx) (E:XK) (C:Addr) (te:TE):TS:=fun _ σ H=>te σ H fun v H1=>∃ a d,v=.ref a∧H1 a=some (ExN a C d)∧X.H₀ a=none∧E (.ref C) d (drop H1 a)
section
variable {P:Program} {w:World} {K:PySem.W.Frag} {mg:Str→Option Value} {base:Heap} {N:List Str} {qual:Str} {scope:Scope} {f:Addr} {cd:Value} {A:Around} {outer:List Env} {s₀:Shared} {H₀:Hp} {E:XK}
end
end L2
namespace L2
open PySem PySem.Spec PyProof.Rows
def tXGet (K:PySem.W.Frag) (ta:TE) (f:Str):TE:=fun σ H Q=>ta σ H fun x H1=>∃ a C dx fs l,x=.ref a∧H1 a=some (ExO a C (some dx))∧H1 dx=some (.xd fs)∧XCls K C∧PySem.W.findIn K (.ref C) f=some none∧fs.lookup f=some (.ref l)∧Q (.ref l) H1
end L2
namespace L2
open PySem PySem.Spec PyProof.Rows
def rJoin:V→List V→Hp→VK→Prop:=fun x vs H Q=>∃ sep l ss,x=.str sep∧vs=[.ref l]∧H l=some (.lst (ss.map V.str))∧JoinOk sep ss=true∧Q (.str (Txt.join sep ss)) H
section
variable {X:Cx}
end
def tXGetV (K:PySem.W.Frag) (ta:TE) (f:Str):TE:=fun σ H Q=>ta σ H fun x H1=>∃ a C dx fs v,x=.ref a∧H1 a=some (ExO a C (some dx))∧H1 dx=some (.xd fs)∧XCls K C∧PySem.W.findIn K (.ref C) f=some none∧fs.lookup f=some v∧Q v H1
end L2
namespace L2
open PySem PySem.Spec PyProof.Rows
section
variable {X:Cx}
def rCatA:R2:=fun x y H Q=>∃ a b xs ys,x=.ref a∧y=.ref b∧H a=some (.tup xs)∧H b=some (.tup ys)∧xs.length+ys.length≤sizeLine∧∀ p H',Same H H'→H' p=some (.tup (xs++ys))→Q (.ref p) H'
end
end L2
namespace L2
open PySem PySem.Spec PyProof.Rows
section
variable {X:Cx}
def rRepT:R2:=fun x y H Q=>∃ (a:Addr) (xs:List V) (k:Nat),x=.ref a∧y=.int k∧H a=some (.tup xs)∧xs≠[]∧2≤k∧xs.length * k≤1000∧∀ p,H p=none→Q (.ref p) (upd H p (.tup (List.replicate k xs).flatten))
end
end L2
namespace L2
open PySem PySem.Spec PyProof.Rows
def rIndexS:V→List V→Hp→VK→Prop:=fun x vs H Q=>∃ (l:Addr) (z:Str) (zs:List Str) (j:Nat),x=.ref l∧vs=[.str z]∧H l=some (.lst (zs.map V.str))∧zs.length≤1000∧zs[j]?=some z∧(∀ i,i<j→zs[i]?≠some z)∧Q (.int j) H
def isStrV (z:Str):Value→Bool
  | .str x _=>x.cps.toList == z.cps.toList
  | _=>false
section
variable {X:Cx}
end
end L2
namespace L2
open PySem PySem.Spec PyProof.Rows
section
variable {X:Cx} {K:PySem.W.Frag} {o e:Expr} {es:List Expr} {to:TE} {t:TA} {name:Str} {apos cpos:Pos} {T id:String} {r:V→List V→Hp→VK→Prop}
end
end L2
namespace L2
open PySem PySem.Spec PyProof.Rows
@[reducible] def IsZipG (h:Heap) (z TI TO:Addr) (m:Value) (f:Bool):Prop:=h.get? z=some { cls:=.type "zip",data:=.fields #[m,.bool f,.bool false,.ref TI,.ref TO] }
inductive Mark:Value→Prop where
  | none:Mark .none
  | at (a:Int):Mark (rawInt a)
section
variable {prog:Program} {w:World} {A:Around} {E:Value→Shared→Prop} {s:Shared}
end
end L2
namespace L2
open PySem PySem.Spec PyProof.Rows
section
variable {prog:Program} {w:World} {A:Around} {E:Value→Shared→Prop} {s:Shared}
end
def IteEZ (K:PySem.W.Frag) (t1 t2:Bool) (a b:Addr):It :=
  ⟨fun i H=>∃ xs ys x y,SqX t1 K H a xs∧SqX t2 K H b ys∧xs[i]?=some x∧ys[i]?=some y,
   fun i H v H'=>∃ T2 T x y,H T2=none∧(upd H T2 (.tup [x,y])) T=none∧H'=upd (upd H T2 (.tup [x,y])) T (.tup [.int (i:Int),.ref T2])∧v=.ref T∧∀ xs ys,SqX t1 K H a xs→SqX t2 K H b ys→xs[i]?=some x∧ys[i]?=some y,
   fun i H=>∃ xs ys,SqX t1 K H a xs∧SqX t2 K H b ys∧(xs[i]?=none∨ys[i]?=none)⟩
section
variable {X:Cx}
def iEnumZ (K:PySem.W.Frag) (t1 t2:Bool) (ta:TA):TI:=fun σ H R=>ta σ H fun vs H1=>∃ a b,vs=[.ref a,.ref b]∧(∃ xs,SqX t1 K H1 a xs)∧(∃ ys,SqX t2 K H1 b ys)∧R (IteEZ K t1 t2 a b) H1
end
end L2
namespace L2
open PySem PySem.Spec PyProof.Rows
def kasRun {α:Type} (c:Nat→Nat→Bool):W.KasT α→α
  | .ret a=>a
  | .ask i j k=>kasRun c (k (c i j))
def KGood {α:Type} (n:Nat) (R:α→Prop):W.KasT α→Prop
  | .ret a=>R a
  | .ask i j k=>i<n∧j<n∧∀ b,KGood n R (k b)
def Low (n:Nat) (p:Array Nat):Prop:=p.size=n∧∀ i,p.getD i 0<n
theorem Low.swap {n:Nat} {p:Array Nat} (h:Low n p) (i j:Nat):Low n (p.swapIfInBounds i j):=by
  refine ⟨by rw [Array.size_swapIfInBounds]; exact h.1,fun k=>?_⟩
  replace h:=h.2
  have g:∀ i (hi:i<p.size),p[i]<n:=fun i hi=>by
    have:=h i
    rw [Array.getD,dif_pos hi] at this
    exact this
  have h0:0<n:=Nat.lt_of_le_of_lt (Nat.zero_le _) (h 0)
  unfold Array.swapIfInBounds
  split
  · split
    · rw [Array.getD]
      split
      · rename_i hk
        show (p.swap i j)[k]<n
        rw [Array.getElem_swap]
        split
        · exact g _ _
        · split
          · exact g _ _
          · exact g _ _
      · exact h0
    · exact h k
  · exact h k
theorem Low.fold {n:Nat} {f:Array Nat→Nat→Array Nat} (hf:∀ a k,Low n a→Low n (f a k)):∀ {l:List Nat} {p:Array Nat},Low n p→Low n (l.foldl f p)
  | [],_,h=>h
  | x::l,p,h=>Low.fold hf (l:=l) (hf p x h)
theorem Low.rev {n:Nat} {p:Array Nat} (h:Low n p) (i j:Nat):Low n (W.kas_rev p i j):=by
  unfold W.kas_rev mirror
  exact Low.fold (fun a k ha=>ha.swap _ _) h
theorem Low.bubble {n:Nat} {p:Array Nat} (h:Low n p) (i j:Nat):Low n (bubble p i j):=by
  unfold PyProof.Rows.bubble
  exact Low.fold (fun a k ha=>ha.swap _ _) h
section
variable {prog:Program} {w:World} {A:Around} {E:Value→Shared→Prop} {s:Shared}
structure SortTo (prog:Program) (w:World) (A:Around) (a:Addr) (vs out:List Value) (h:Heap):Prop where
  few:vs.length<2→out=vs
  many:2≤vs.length→∀ s1:Shared,(∀ b o,b≠a→h.get? b=some o→s1.heap.get? b=some o)→∃ (κ:SortKind) (c:Nat→Nat→Bool),(∀ (Q:SortKind→Shared→Prop) (E:Value→Shared→Prop),Q κ s1→wpAny (model prog w) A (keyKind' vs.toArray) Q E s1)∧
    (∀ i j (C:Bool→Shared→Prop),i<vs.length→j<vs.length→C (c i j) s1→W.kas_ask prog w A κ vs i j C s1)∧out=(kasRun c (W.kas_sort vs.length)).toList.map fun i=>vs.getD i .none
end
end L2
namespace L2
open PySem PySem.Spec PyProof.Rows
abbrev D3:=Int×Str×Int
def d3V (d:D3):List V:=[.int d.1,.str d.2.1,.int d.2.2]
def D3At (H:Hp) (v:V) (d:D3):Prop:=∃ a,v=.ref a∧H a=some (.tup (d3V d))
def d3Lt (d e:D3):Bool:=if eqV (.int d.1) (.int e.1)=true then (if eqV (.str d.2.1) (.str e.2.1)=true then (if eqV (.int d.2.2) (.int e.2.2)=true then false else decide (d.2.2<e.2.2)) else decide (d.2.1.cps.toList<e.2.1.cps.toList)) else decide (d.1<e.1)
def d0:D3:=(0,Str.empty,0)
def d3Ord (ds:List D3):List Nat:=(kasRun (fun i j=>d3Lt (ds.getD i d0) (ds.getD j d0)) (W.kas_sort ds.length)).toList
def sortD (ds:List D3):List D3:=if ds.length<2 then ds else (d3Ord ds).map fun i=>ds.getD i d0
def Raw3 (h:Heap) (v:Value) (d:D3):Prop:=∃ a o n i t x u j r,v=.ref a∧h.get? a=some o∧o.cls=.type "tuple"∧o.data=.seq #[.int i t,.str x u,.int j r] n∧d=(i,x,j)
theorem Raw3.keep {h h':Heap} {v:Value} {d:D3} (r:Raw3 h v d) (k:∀ b o,h.get? b=some o→h'.get? b=some o):Raw3 h' v d:=by
  obtain ⟨a,o,n,i,t,x,u,j,r,e,g,c⟩:=r
  exact ⟨a,o,n,i,t,x,u,j,r,e,k _ _ g,c⟩
section
variable {prog:Program} {w:World} {A:Around} {s:Shared}
theorem raw3_lt {v v':Value} {d d':D3} {C:Bool→Shared→Prop} {E:Value→Shared→Prop} (r:Raw3 s.heap v d) (r':Raw3 s.heap v' d') (q:C (d3Lt d d') s):wpAny (model prog w) A (keyLt' (tuples' true) v v') C E s:=by
  obtain ⟨a,o,n,i,t,x,u,j,r,rfl,g,gc,gd,rfl⟩:=r
  obtain ⟨a',o',n',i',t',x',u',j',r',rfl,g',gc',gd',rfl⟩:=r'
  refine W.kat_lt g gd g' gd' ?_
  show W.KatLex prog w A true false C [(.int i t,.int i' t'),(.str x u,.str x' u'),(.int j r,.int j' r')] 0 s
  unfold d3Lt at q
  refine W.kat_cons (eqAt_V (y:=.int i) (x:=.int i') ⟨t,rfl⟩ ⟨t',rfl⟩ rfl rfl _ _ _ _ ?_)
  refine W.kat_go (fun h1=>?_) (fun h1=>?_)
  rotate_left
  · rw [if_neg (by rw [h1]; exact Bool.false_ne_true)] at q
    exact W.kat_no (W.kat_lt_int q)
  rw [if_pos h1] at q
  refine W.kat_yes (W.kat_cons (eqAt_V (y:=.str x) (x:=.str x') ⟨u,rfl⟩ ⟨u',rfl⟩ rfl rfl _ _ _ _ ?_))
  refine W.kat_go (fun h2=>?_) (fun h2=>?_)
  rotate_left
  · rw [if_neg (by rw [h2]; exact Bool.false_ne_true)] at q
    exact W.kat_no (W.kat_one _ _ (PyProof.Rows.lt_str q))
  rw [if_pos h2] at q
  refine W.kat_yes (W.kat_cons (eqAt_V (y:=.int j) (x:=.int j') ⟨r,rfl⟩ ⟨r',rfl⟩ rfl rfl _ _ _ _ ?_))
  refine W.kat_go (fun h3=>?_) (fun h3=>?_)
  rotate_left
  · rw [if_neg (by rw [h3]; exact Bool.false_ne_true)] at q
    exact W.kat_no (W.kat_one _ _ (PyProof.Rows.lt_int q))
  rw [if_pos h3] at q
  exact W.kat_yes (W.kat_nil q)
theorem raw3_kind {M:Model} {vs:List Value} {ds:List D3} {Q:SortKind→Shared→Prop} {E:Value→Shared→Prop} (p:Paired (Raw3 s.heap) vs ds) (h:0<vs.length) (q:Q (tuples' true) s):wpAny M A (keyKind' vs.toArray) Q E s:=by
  have ex:∀ {vs:List Value} {ds:List D3},Paired (Raw3 s.heap) vs ds→∃ fs:List Value,W.KatTups s.heap vs fs∧fs.length=vs.length∧∀ v∈fs,∃ i t,v=Value.int i t:=by
    intro vs ds p
    induction p with
    | nil=>exact ⟨[],trivial,rfl,fun _ h=>(nomatch h)⟩
    | cons r _ ih =>
      obtain ⟨fs,f1,f2,f3⟩:=ih
      obtain ⟨a,o,n,i,t,x,u,j,r,rfl,g,gc,gd,rfl⟩:=r
      refine ⟨.int i t::fs,⟨⟨a,o,_,n,rfl,g,gc,gd,rfl⟩,f1⟩,congrArg (·+1) f2,fun v hv=>?_⟩
      rcases List.mem_cons.mp hv with rfl | h
      · exact ⟨i,t,rfl⟩
      · exact f3 v h
  obtain ⟨fs,f1,f2,f3⟩:=ex p
  refine W.kat_kind f1 (by omega) (T:=.type "int") (fun v hv=>?_) (by decide) q
  obtain ⟨i,t,rfl⟩:=f3 v hv
  exact fun A Q E s _ q=>wpAny_pure q
end
theorem pd_imp {α β:Type} {F G:α→β→Prop} (f:∀ a b,F a b→G a b):∀ {xs:List α} {ys:List β},Paired F xs ys→Paired G xs ys
  | _,_,.nil=>.nil
  | _,_,.cons r t=>.cons (f _ _ r) (pd_imp f t)
theorem pd_len {α β:Type} {F:α→β→Prop}:∀ {xs:List α} {ys:List β},Paired F xs ys→xs.length=ys.length
  | _,_,.nil=>rfl
  | _,_,.cons _ t=>congrArg (·+1) (pd_len t)
theorem pd_getD {α β:Type} {F:α→β→Prop} {x0:α} {y0:β}:∀ {xs:List α} {ys:List β} {i:Nat},Paired F xs ys→i<xs.length→F (xs.getD i x0) (ys.getD i y0)
  | _,_,_,.nil,h=>absurd h (Nat.not_lt_zero _)
  | _,_,0,.cons r _,_=>r
  | _,_,i+1,.cons _ t,h=>pd_getD (i:=i) t (Nat.lt_of_succ_lt_succ h)
theorem pd_pick {α β:Type} {F:α→β→Prop} {x0:α} {y0:β} {xs:List α} {ys:List β} (p:Paired F xs ys):∀ l:List Nat,(∀ i∈l,i<xs.length)→Paired F (l.map fun i=>xs.getD i x0) (l.map fun i=>ys.getD i y0)
  | [],_=>.nil
  | i::l,h=>.cons (pd_getD p (h i List.mem_cons_self)) (pd_pick p l fun j hj=>h j (List.mem_cons_of_mem _ hj))
theorem vals_getD {x0:V} {y0:Value}:∀ {xs:List V} {ys:List Value} {i:Nat},Vals xs ys→i<xs.length→RelV (xs.getD i x0) (ys.getD i y0)
  | _,_,_,.nil,h=>absurd h (Nat.not_lt_zero _)
  | _,_,0,.cons r _,_=>r
  | _,_,i+1,.cons _ t,h=>vals_getD (i:=i) t (Nat.lt_of_succ_lt_succ h)
theorem vals_pick {x0:V} {y0:Value} {xs:List V} {ys:List Value} (p:Vals xs ys):∀ l:List Nat,(∀ i∈l,i<xs.length)→Vals (l.map fun i=>xs.getD i x0) (l.map fun i=>ys.getD i y0)
  | [],_=>.nil
  | i::l,h=>.cons (vals_getD p (h i List.mem_cons_self)) (vals_pick p l fun j hj=>h j (List.mem_cons_of_mem _ hj))
section
variable {X:Cx}
theorem vals_d3 {d:D3} {us:List Value} (r:Vals (d3V d) us):∃ i t x u j r',us=[.int i t,.str x u,.int j r']∧d=(i,x,j):=by
  obtain ⟨d1,d2,d3⟩:=d
  cases r with
  | cons r1 r =>
    cases r with
    | cons r2 r =>
      cases r with
      | cons r3 r =>
        cases r
        obtain ⟨t,rfl⟩:=r1
        obtain ⟨u,rfl⟩:=r2
        obtain ⟨t',rfl⟩:=r3
        exact ⟨_,_,_,_,_,_,rfl,rfl⟩
end
end L2
namespace L2
open PySem PySem.Spec PySem.W PyProof.Rows
abbrev Ix:=Array Nat×Array (Nat×Nat×Nat)×Nat
abbrev Dt:=SortKind×Array Keyed
def stI (d:Dt) (x:Ix):SortSt:=SortSt.mk' d.1 (x.1.map (kas_item d.2)) x.2.1 x.2.2 none
structure Asks (prog:Program) (w:World) (A:Around) (d:Dt) (n:Nat) (c:Nat→Nat→Bool) (s:Shared):Prop where
  size:d.2.size=n
  ask:∀ i j (C:Bool→Shared→Prop),i<n→j<n→C (c i j) s→kas_cmp prog w A d.1 d.2 i j C s
def Uf (n:Nat) (c:Nat→Nat→Bool) {α β:Type} (m:Dt→StateT SortSt Sem β) (cv:Dt→α→β) (x:Ix) (R:α→Ix→Prop):Prop :=
  ∃ a x',R a x'∧∀ (prog:Program) (w:World) (A:Around) (E:Value→Shared→Prop) (d:Dt) (Q:β→SortSt→Shared→Prop) (s:Shared),Asks prog w A d n c s→Q (cv d a) (stI d x') s→kasC (model prog w) A E (m d) Q (stI d x) s
section
variable {n:Nat} {c:Nat→Nat→Bool} {α β γ δ:Type} {x:Ix}
theorem Uf.ret' {cv:Dt→α→β} {v:Dt→β} {R:α→Ix→Prop} (a:α) (e:∀ d,v d=cv d a) (h:R a x):Uf n c (fun d=>pure (v d)) cv x R:=⟨a,x,h,fun _ _ _ _ d _ _ _ q=>kasC_pure (by rw [e d]; exact q)⟩
theorem Uf.bind {m:Dt→StateT SortSt Sem β} {f:Dt→β→StateT SortSt Sem δ} (cv1:Dt→α→β) {cv:Dt→γ→δ} {R:γ→Ix→Prop} (R1:α→Ix→Prop) (h1:Uf n c m cv1 x R1) (h2:∀ a x',R1 a x'→Uf n c (fun d=>f d (cv1 d a)) cv x' R):Uf n c (fun d=>m d >>= f d) cv x R:=by
  obtain ⟨a,x',r,h⟩:=h1
  obtain ⟨b,x2,r2,h'⟩:=h2 a x' r
  exact ⟨b,x2,r2,fun prog w A E d Q s hs q=>kasC_bind (h prog w A E d _ s hs (h' prog w A E d Q s hs q))⟩
theorem Uf.mono {m:Dt→StateT SortSt Sem β} {cv:Dt→α→β} {R R':α→Ix→Prop} (h:Uf n c m cv x R) (hR:∀ a x',R a x'→R' a x'):Uf n c m cv x R':=by
  obtain ⟨a,x',r,h⟩:=h
  exact ⟨a,x',hR a x' r,h⟩
theorem Uf.eq {m m':Dt→StateT SortSt Sem β} {cv:Dt→α→β} {R:α→Ix→Prop} (e:∀ d,m' d=m d) (h:Uf n c m cv x R):Uf n c m' cv x R:=by rw [funext e]; exact h
theorem Uf.get_:Uf n c (fun _=>(get:StateT SortSt Sem SortSt)) stI x (fun a x'=>a=x∧x'=x):=⟨x,x,⟨rfl,rfl⟩,fun _ _ _ _ _ _ _ _ q=>kasC_get q⟩
theorem Uf.modify_ {f:Dt→SortSt→SortSt} {R:Unit→Ix→Prop} (x':Ix) (e:∀ d,f d (stI d x)=stI d x') (h:R () x'):Uf n c (fun d=>(modify (f d):StateT SortSt Sem Unit)) (fun _ u=>u) x R:=⟨(),x',h,fun _ _ _ _ d _ _ _ q=>kasC_modify (by rw [e d]; exact q)⟩
theorem Uf.set_ {v:Dt→SortSt} {R:Unit→Ix→Prop} (x':Ix) (e:∀ d,v d=stI d x') (h:R () x'):Uf n c (fun d=>(set (v d):StateT SortSt Sem PUnit)) (fun _ u=>u) x R:=⟨(),x',h,fun prog w A E d Q s _ q=>by
  unfold kasC
  rw [StateT.run_set]
  exact wpAny_pure (by rw [e d]; exact q)⟩
theorem Uf.rule_ {r:String} {R:Unit→Ix→Prop} (h:R () x):Uf n c (fun _=>(liftM (rule r):StateT SortSt Sem Unit)) (fun _ u=>u) x R:=⟨(),x,h,fun _ _ _ _ _ _ _ _ q=>kasC_lift (wpAny_rule q)⟩
theorem Uf.lt_ {i j:Nat} (hi:i<n) (hj:j<n):Uf n c (fun d=>lt' (kas_item d.2 i) (kas_item d.2 j)) (fun _ (b:Bool)=>some b) x (fun b x'=>b=c i j∧x'=x):=⟨c i j,x,⟨rfl,rfl⟩,fun prog w A E d Q s hs q=>by
  dsimp only
  rw [lt'_eq]
  refine kasC_bind (kasC_get ?_)
  refine kasC_bind (kasC_lift (wpAny_attempt (wpAny_mono (hs.ask i j (fun b s'=>b=c i j∧s'=s) hi hj ⟨rfl,rfl⟩) (fun b s' hb=>?_) fun _ _ hF=>hF.elim)))
  obtain ⟨rfl,rfl⟩:=hb
  exact kasC_pure q⟩
theorem map_at {d:Dt} {p:Array Nat} {i:Nat} (hi:i<p.size):(p.map (kas_item d.2))[i]?=some (kas_item d.2 (p.getD i 0)):=by
  have e:p.getD i 0=p[i]:=by simp [Array.getD,hi]
  rw [e]
  simp [hi]
theorem Uf.elem_ {p:Array Nat} {i:Nat} (hi:i<p.size):Uf n c (fun d=>elem' (p.map (kas_item d.2)) i) (fun d k=>kas_item d.2 k) x (fun k x'=>k=p.getD i 0∧x'=x):=⟨p.getD i 0,x,⟨rfl,rfl⟩,fun prog w A E d Q s hs q=>by
  dsimp only
  rw [elem'_eq,map_at hi]
  exact kasC_pure q⟩
def cvS (cv:Dt→α→β) (d:Dt):ForInStep α→ForInStep β
  | .yield a=>.yield (cv d a)
  | .done a=>.done (cv d a)
def stepR (inv:α→Ix→Prop) (fin:α→Ix→Prop):ForInStep α→Ix→Prop
  | .yield a,x=>inv a x
  | .done a,x=>fin a x
theorem Uf.list_ {body:Dt→Nat→β→StateT SortSt Sem (ForInStep β)} (cv:Dt→α→β) (inv:Nat→α→Ix→Prop) (fin:α→Ix→Prop):∀ (m k:Nat) (a:α) (x:Ix),inv k a x→
    (∀ i a x,k≤i→i<k+m→inv i a x→Uf n c (fun d=>body d i (cv d a)) (cvS cv) x (stepR (inv (i+1)) fin))→(∀ a x,inv (k+m) a x→fin a x)→Uf n c (fun d=>forIn (List.range' k m) (cv d a) (body d)) cv x fin
  | 0,k,a,x,h0,_,hd=>⟨a,x,hd a x h0,fun _ _ _ _ _ _ _ _ q=>kasC_nil q⟩
  | m+1,k,a,x,h0,hs,hd=>by
    obtain ⟨r,x',hr,h⟩:=hs k a x (Nat.le_refl _) (by omega) h0
    cases r with
    | done a'=>exact ⟨a',x',hr,fun prog w A E d Q s hq q=>kasC_cons (h prog w A E d _ s hq q)⟩
    | yield a' =>
      obtain ⟨b,x2,hb,h'⟩:=Uf.list_ cv inv fin m (k+1) a' x' hr (fun i a x h1 h2=>hs i a x (by omega) (by omega)) fun a x h=>hd a x (by rw [show k+(m+1)=k+1+m by omega]; exact h)
      exact ⟨b,x2,hb,fun prog w A E d Q s hq q=>kasC_cons (h prog w A E d _ s hq (h' prog w A E d Q s hq q))⟩
theorem Uf.range_ {body:Dt→Nat→β→StateT SortSt Sem (ForInStep β)} (cv:Dt→α→β) (inv:Nat→α→Ix→Prop) (fin:α→Ix→Prop) {lo hi:Nat} (a:α) {v:Dt→β} (e:∀ d,v d=cv d a) (h0:inv lo a x)
    (hs:∀ i a x,lo≤i→i<hi→inv i a x→Uf n c (fun d=>body d i (cv d a)) (cvS cv) x (stepR (inv (i+1)) fin)) (hd:∀ a x,inv (lo+(hi - lo)) a x→fin a x):Uf n c (fun d=>forIn [lo:hi] (v d) (body d)) cv x fin:=by
  rw [funext e]
  obtain ⟨b,x',hb,h⟩:=Uf.list_ (n:=n) (c:=c) cv inv fin (hi - lo) lo a x h0 (fun i a x h1 h2=>hs i a x h1 (by omega)) hd
  exact ⟨b,x',hb,fun prog w A E d Q s hq q=>kasC_range (h prog w A E d Q s hq q)⟩
end
end L2
namespace L2
open PySem PySem.Spec PySem.W PyProof.Rows
section
variable {n:Nat} {c:Nat→Nat→Bool} {α β γ δ:Type} {x:Ix}
theorem Uf.ite {b:Prop} [Decidable b] {m1 m2:Dt→StateT SortSt Sem β} {cv:Dt→α→β} {R:α→Ix→Prop} (h1:b→Uf n c m1 cv x R) (h2:¬ b→Uf n c m2 cv x R):Uf n c (fun d=>if b then m1 d else m2 d) cv x R:=by
  by_cases h:b
  · exact Uf.eq (fun d=>if_pos h) (h1 h)
  · exact Uf.eq (fun d=>if_neg h) (h2 h)
def LowP (n:Nat) (p:Array Nat):Prop:=∀ v∈p,v<n
theorem LowP.at {p:Array Nat} (h:LowP n p) (i:Nat) (hi:i<p.size):p.getD i 0<n:=by
  have e:p.getD i 0=p[i]:=by simp [Array.getD,hi]
  rw [e]
  exact h _ (Array.getElem_mem hi)
theorem LowP.push {p:Array Nat} (h:LowP n p) {k:Nat} (hk:k<n):LowP n (p.push k):=fun v hv=>by
  rcases Array.mem_push.mp hv with h' | h'
  · exact h v h'
  · rw [h']; exact hk
theorem LowP.append {p q:Array Nat} (h:LowP n p) (h':LowP n q):LowP n (p++q):=fun v hv=>by
  rcases Array.mem_append.mp hv with z | z
  · exact h v z
  · exact h' v z
theorem LowP.ext {p:Array Nat} (h:LowP n p) (i j:Nat):LowP n (p.extract i j):=fun v hv=>by
  obtain ⟨k,hk,e⟩:=Array.mem_extract_iff_getElem.mp hv
  rw [← e]
  exact h _ (Array.getElem_mem _)
theorem LowP.rev {p:Array Nat} (h:LowP n p):LowP n p.reverse:=fun v hv=>h v (Array.mem_reverse.mp hv)
theorem LowP.one {k:Nat} (h:k<n):LowP n #[k]:=fun v hv=>by
  have e:v=k:=by simpa using hv
  rw [e]; exact h
theorem Uf.iteD {b:Dt→Prop} [∀ d,Decidable (b d)] {m1 m2:Dt→StateT SortSt Sem β} {cv:Dt→α→β} {R:α→Ix→Prop} (b0:Prop) (e:∀ d,b d↔b0) (h1:b0→Uf n c m1 cv x R) (h2:¬ b0→Uf n c m2 cv x R):Uf n c (fun d=>if b d then m1 d else m2 d) cv x R:=by
  by_cases h:b0
  · exact Uf.eq (fun d=>if_pos ((e d).mpr h)) (h1 h)
  · exact Uf.eq (fun d=>if_neg fun z=>h ((e d).mp z)) (h2 h)
theorem Uf.rangeD {body:Dt→Nat→β→StateT SortSt Sem (ForInStep β)} (cv:Dt→α→β) (inv:Nat→α→Ix→Prop) (fin:α→Ix→Prop) {hi:Dt→Nat} (hi0:Nat) (eh:∀ d,hi d=hi0) (a:α) {v:Dt→β} (e:∀ d,v d=cv d a) (h0:inv 0 a x)
    (hs:∀ i a x,i<hi0→inv i a x→Uf n c (fun d=>body d i (cv d a)) (cvS cv) x (stepR (inv (i+1)) fin)) (hd:∀ a x,inv hi0 a x→fin a x):Uf n c (fun d=>forIn [0:hi d] (v d) (body d)) cv x fin:=by
  rw [funext eh]
  exact Uf.range_ cv inv fin a e h0 (fun i a x _ h2=>hs i a x h2) (fun a x h=>hd a x (by rw [Nat.sub_zero,Nat.zero_add] at h; exact h))
theorem Uf.beyond {left:Bool} {key:Nat} {p:Array Nat} {k:Nat} (hk:key<n) (hp:LowP n p) (hi:k<p.size) :
    Uf n c (fun d=>elem' (p.map (kas_item d.2)) k >>= fun y=>if left=true then lt' y (kas_item d.2 key) else lt' (kas_item d.2 key) y >>= fun o=>pure (o.map fun b=>!b)) (fun _ (b:Bool)=>some b) x (fun _ x'=>x'=x):=by
  refine Uf.bind (fun d i=>kas_item d.2 i) (fun i x'=>i<n∧x'=x) ((Uf.elem_ hi).mono fun i x' h=>⟨by rw [h.1]; exact hp.at k hi,h.2⟩) (fun i x' h=>?_)
  obtain ⟨h,rfl⟩:=h
  refine Uf.ite (fun _=>?_) (fun _=>?_)
  · exact (Uf.lt_ h hk).mono fun _ _ z=>z.2
  · refine Uf.bind (fun _ (b:Bool)=>some b) (fun _ y=>y=x') ((Uf.lt_ hk h).mono fun _ _ z=>z.2) (fun b y h=>?_)
    subst h
    exact Uf.ret' (!b) (fun _=>rfl) rfl
abbrev gal:Bool→Keyed→Array Keyed→Nat→Nat→Nat→StateT SortSt Sem (Option Nat):=sortPriv% PySem.Builtin.gallop
theorem Uf.gal_ {left:Bool} {key:Nat} {p:Array Nat} {base m hint:Nat} (hk:key<n) (hp:LowP n p) (hb:base+m≤p.size) (hh:hint<m):Uf n c (fun d=>gal left (kas_item d.2 key) (p.map (kas_item d.2)) base m hint) (fun _ (k:Nat)=>some k) x (fun k x'=>k≤m∧x'=x):=by
  refine Uf.bind (fun _ (b:Bool)=>some b) (fun _ x'=>x'=x) (Uf.beyond (key:=key) (k:=base+hint) hk hp (by omega)) (fun b x' e=>?_)
  subst e
  refine Uf.ite (fun _=>?_) (fun _=>?_)
  · refine Uf.bind (fun _ (a:Option (Option Nat)×Nat×Nat)=>a) (fun a y=>(a.1=none∧a.2.1<m - hint)∧y=x') (Uf.range_ (fun _ (a:Option (Option Nat)×Nat×Nat)=>a) (fun _ a y=>(a.1=none∧a.2.1<m - hint)∧y=x') _ (none,0,1) (fun _=>rfl) ⟨⟨rfl,by show 0<m - hint; omega⟩,rfl⟩ (fun i a y _ _ h=>?_) (fun a y h=>h)) (fun a y h=>?_)
    · obtain ⟨⟨ha,hl⟩,rfl⟩:=h
      obtain ⟨r,last,ofs⟩:=a
      cases ha
      refine Uf.ite (fun _=>?_) (fun no=>?_)
      · exact Uf.ret' (.done (none,last,ofs)) (fun _=>rfl) ⟨⟨rfl,hl⟩,rfl⟩
      · refine Uf.bind (fun _ (b:Bool)=>some b) (fun _ x'=>x'=y) (Uf.beyond (key:=key) (k:=base+(hint+ofs)) hk hp (by dsimp only at no; omega)) (fun b z e=>?_)
        subst e
        refine Uf.ite (fun _=>?_) (fun _=>?_)
        · exact Uf.ret' (.done (none,last,ofs)) (fun _=>rfl) ⟨⟨rfl,hl⟩,rfl⟩
        · exact Uf.ret' (.yield (none,ofs,2 * ofs+1)) (fun _=>rfl) ⟨⟨rfl,by dsimp only at no ⊢; omega⟩,rfl⟩
    · obtain ⟨⟨ha,hl⟩,e2⟩:=h
      subst e2
      obtain ⟨r,last,ofs⟩:=a
      cases ha
      refine Uf.bind (fun _ (a:Option (Option Nat)×Nat×Nat)=>a) (fun a u=>(a.1=none∧a.2.2≤m)∧u=y) (Uf.range_ (fun _ (a:Option (Option Nat)×Nat×Nat)=>a) (fun _ a u=>(a.1=none∧a.2.2≤m)∧u=y) _ (none,hint+last+1,hint+min ofs (m - hint)) (fun _=>rfl) ⟨⟨rfl,by dsimp only at hl ⊢; omega⟩,rfl⟩ (fun i a y _ _ h=>?_) (fun a y h=>h)) (fun a y h=>?_)
      · obtain ⟨⟨ha,hl⟩,rfl⟩:=h
        obtain ⟨r,lo,hi⟩:=a
        cases ha
        refine Uf.ite (fun _=>?_) (fun no=>?_)
        · exact Uf.ret' (.done (none,lo,hi)) (fun _=>rfl) ⟨⟨rfl,hl⟩,rfl⟩
        · dsimp only at no hl
          refine Uf.bind (fun _ (b:Bool)=>some b) (fun _ x'=>x'=y) (Uf.beyond (key:=key) (k:=base+(lo+(hi - lo) / 2)) hk hp (by omega)) (fun b z e=>?_)
          subst e
          refine Uf.ite (fun _=>?_) (fun _=>?_)
          · exact Uf.ret' (.yield (none,lo+(hi - lo) / 2+1,hi)) (fun _=>rfl) ⟨⟨rfl,hl⟩,rfl⟩
          · exact Uf.ret' (.yield (none,lo,lo+(hi - lo) / 2)) (fun _=>rfl) ⟨⟨rfl,by dsimp only; omega⟩,rfl⟩
      · obtain ⟨⟨ha,hl⟩,rfl⟩:=h
        obtain ⟨r,lo,hi⟩:=a
        cases ha
        exact Uf.ret' hi (fun _=>rfl) ⟨hl,rfl⟩
  · refine Uf.bind (fun _ (a:Option (Option Nat)×Nat×Nat)=>a) (fun a y=>(a.1=none∧a.2.1<hint+1)∧y=x') (Uf.range_ (fun _ (a:Option (Option Nat)×Nat×Nat)=>a) (fun _ a y=>(a.1=none∧a.2.1<hint+1)∧y=x') _ (none,0,1) (fun _=>rfl) ⟨⟨rfl,by show 0<hint+1; omega⟩,rfl⟩ (fun i a y _ _ h=>?_) (fun a y h=>h)) (fun a y h=>?_)
    · obtain ⟨⟨ha,hl⟩,rfl⟩:=h
      obtain ⟨r,last,ofs⟩:=a
      cases ha
      refine Uf.ite (fun _=>?_) (fun no=>?_)
      · exact Uf.ret' (.done (none,last,ofs)) (fun _=>rfl) ⟨⟨rfl,hl⟩,rfl⟩
      · refine Uf.bind (fun _ (b:Bool)=>some b) (fun _ x'=>x'=y) (Uf.beyond (key:=key) (k:=base+(hint - ofs)) hk hp (by dsimp only at no; omega)) (fun b z e=>?_)
        subst e
        refine Uf.ite (fun _=>?_) (fun _=>?_)
        · exact Uf.ret' (.done (none,last,ofs)) (fun _=>rfl) ⟨⟨rfl,hl⟩,rfl⟩
        · exact Uf.ret' (.yield (none,ofs,2 * ofs+1)) (fun _=>rfl) ⟨⟨rfl,by dsimp only at no ⊢; omega⟩,rfl⟩
    · obtain ⟨⟨ha,hl⟩,e2⟩:=h
      subst e2
      obtain ⟨r,last,ofs⟩:=a
      cases ha
      refine Uf.bind (fun _ (a:Option (Option Nat)×Nat×Nat)=>a) (fun a u=>(a.1=none∧a.2.2≤m)∧u=y) (Uf.range_ (fun _ (a:Option (Option Nat)×Nat×Nat)=>a) (fun _ a u=>(a.1=none∧a.2.2≤m)∧u=y) _ (none,hint+1 - min ofs (hint+1),hint - last) (fun _=>rfl) ⟨⟨rfl,by dsimp only at hl ⊢; omega⟩,rfl⟩ (fun i a y _ _ h=>?_) (fun a y h=>h)) (fun a y h=>?_)
      · obtain ⟨⟨ha,hl⟩,rfl⟩:=h
        obtain ⟨r,lo,hi⟩:=a
        cases ha
        refine Uf.ite (fun _=>?_) (fun no=>?_)
        · exact Uf.ret' (.done (none,lo,hi)) (fun _=>rfl) ⟨⟨rfl,hl⟩,rfl⟩
        · dsimp only at no hl
          refine Uf.bind (fun _ (b:Bool)=>some b) (fun _ x'=>x'=y) (Uf.beyond (key:=key) (k:=base+(lo+(hi - lo) / 2)) hk hp (by omega)) (fun b z e=>?_)
          subst e
          refine Uf.ite (fun _=>?_) (fun _=>?_)
          · exact Uf.ret' (.yield (none,lo+(hi - lo) / 2+1,hi)) (fun _=>rfl) ⟨⟨rfl,hl⟩,rfl⟩
          · exact Uf.ret' (.yield (none,lo,lo+(hi - lo) / 2)) (fun _=>rfl) ⟨⟨rfl,by dsimp only; omega⟩,rfl⟩
      · obtain ⟨⟨ha,hl⟩,rfl⟩:=h
        obtain ⟨r,lo,hi⟩:=a
        cases ha
        exact Uf.ret' hi (fun _=>rfl) ⟨hl,rfl⟩
theorem Uf.galD {left:Bool} {key:Nat} {p:Array Nat} {base hint:Nat} {m h:Dt→Nat} (m0 h0:Nat) (em:∀ d,m d=m0) (eh:∀ d,h d=h0) (hk:key<n) (hp:LowP n p) (hb:base+m0≤p.size) (hh:h0<m0):Uf n c (fun d=>gal left (kas_item d.2 key) (p.map (kas_item d.2)) base (m d) (h d)) (fun _ (k:Nat)=>some k) x (fun k x'=>k≤m0∧x'=x):=by
  rw [funext em,funext eh]
  exact Uf.gal_ hk hp hb hh
end
end L2
namespace L2
open PySem PySem.Spec PySem.W PyProof.Rows
section
variable {n:Nat} {c:Nat→Nat→Bool} {x:Ix}
abbrev mLo:Array Keyed→Array Keyed→StateT SortSt Sem (Array Keyed):=sortPriv% PySem.Builtin.mergeLo
def Sx (x y:Ix):Prop:=y.1=x.1∧y.2.1=x.2.1
theorem Sx.refl (x:Ix):Sx x x:=⟨rfl,rfl⟩
theorem Sx.trans {x y z:Ix} (h:Sx x y) (h':Sx y z):Sx x z:=⟨h'.1.trans h.1,h'.2.trans h.2⟩
def mapK (d:Dt) (p:Array Nat):Array Keyed:=p.map (kas_item d.2)
theorem mapK_app (d:Dt) (p q:Array Nat):mapK d (p++q)=mapK d p++mapK d q:=Array.map_append
theorem mapK_ext (d:Dt) (p:Array Nat) (i j:Nat):(mapK d p).extract i j=mapK d (p.extract i j):=by unfold mapK; rw [Array.map_extract]
theorem mapK_push (d:Dt) (p:Array Nat) (k:Nat):mapK d (p.push k)=(mapK d p).push (kas_item d.2 k):=Array.map_push
theorem mapK_rev (d:Dt) (p:Array Nat):mapK d p.reverse=(mapK d p).reverse:=Array.map_reverse
theorem mapK_size (d:Dt) (p:Array Nat):(mapK d p).size=p.size:=Array.size_map
theorem mapK_one (d:Dt) (k:Nat):mapK d #[k]=#[kas_item d.2 k]:=by simp [mapK]
abbrev L5:=Option (Array Nat)×Array Nat×Nat×Nat×Nat
abbrev L6:=Option (Array Nat)×Array Nat×Nat×Nat×Nat×Nat
abbrev L7:=Option (Array Nat)×Array Nat×Nat×Nat×Nat×Nat×Nat
def cvL {σ:Type} (d:Dt) (a:Option (Array Nat)×Array Nat×σ):Option (Array Keyed)×Array Keyed×σ:=(a.1.map (mapK d),mapK d a.2.1,a.2.2)
def outL (n:Nat) (r:Option (Array Nat)):Prop:=∀ z,r=some z→LowP n z
theorem Uf.elemK {p:Array Nat} {i:Nat} (hp:LowP n p) (hi:i<p.size):Uf n c (fun d=>elem' (mapK d p) i) (fun d k=>kas_item d.2 k) x (fun k x'=>k<n∧x'=x):=(Uf.elem_ hi).mono fun k x' h=>⟨by rw [h.1]; exact hp.at i hi,h.2⟩
theorem Uf.galK {left:Bool} {key:Nat} {p:Array Nat} {base:Nat} {m h:Dt→Nat} (m0 h0:Nat) (em:∀ d,m d=m0) (eh:∀ d,h d=h0) (hk:key<n) (hp:LowP n p) (hb:base+m0≤p.size) (hh:h0<m0):Uf n c (fun d=>gal left (kas_item d.2 key) (mapK d p) base (m d) (h d)) (fun _ (k:Nat)=>some k) x (fun k x'=>k≤m0∧x'=x):=Uf.galD (hint:=0) m0 h0 em eh hk hp hb hh
abbrev setMG:Nat→StateT SortSt Sem Unit:=sortPriv% PySem.Builtin.setMinGallop
theorem Uf.smgD {g:Dt→Nat} (g0:Nat) (e:∀ d,g d=g0):Uf n c (fun d=>setMG (g d)) (fun _ u=>u) x (fun _ x'=>Sx x x'):=by
  rw [funext e]
  exact Uf.modify_ (x.1,x.2.1,g0) (fun _=>rfl) ⟨rfl,rfl⟩
theorem Uf.mLo_ {p q:Array Nat} (hp:LowP n p) (hq:LowP n q) (p1:1≤p.size) (q1:1≤q.size):Uf n c (fun d=>mLo (mapK d p) (mapK d q)) mapK x (fun r x'=>LowP n r∧Sx x x'):=by
  refine Uf.bind (fun _ u=>u) (fun _ y=>y=x) (Uf.rule_ rfl) (fun _ y e=>?_)
  subst e
  refine Uf.bind (fun d k=>kas_item d.2 k) _ (Uf.elemK hq q1) (fun k0 y h=>?_)
  obtain ⟨k0n,rfl⟩:=h
  refine Uf.iteD (1=q.size) (fun d=>by rw [mapK_size]; exact beq_iff_eq) (fun _=>?_) (fun q2=>?_)
  · exact Uf.ret' (#[k0]++p.extract 0 p.size++q.extract 1 q.size) (fun d=>by rw [mapK_app,mapK_app,mapK_one,← mapK_ext,← mapK_ext,mapK_size,mapK_size]) ⟨((LowP.one k0n).append (hp.ext _ _)).append (hq.ext _ _),Sx.refl _⟩
  refine Uf.iteD (0+1=p.size) (fun d=>by rw [mapK_size]; exact beq_iff_eq) (fun _=>?_) (fun p2=>?_)
  · exact Uf.ret' (#[k0]++q.extract 1 q.size++p.extract 0 p.size) (fun d=>by rw [mapK_app,mapK_app,mapK_one,← mapK_ext,← mapK_ext,mapK_size,mapK_size]) ⟨((LowP.one k0n).append (hq.ext _ _)).append (hp.ext _ _),Sx.refl _⟩
  refine Uf.bind stI _ Uf.get_ (fun a x' h=>?_)
  obtain ⟨rfl,rfl⟩:=h
  refine Uf.bind (cvL (σ:=Nat×Nat×Nat)) (fun (a:L5) y=>(a.1≠none∧outL n a.1)∧Sx x' y)
    (Uf.rangeD (cvL (σ:=Nat×Nat×Nat)) (fun i (a:L5) y=>(a.1=none∧LowP n a.2.1∧a.2.2.1+1<p.size∧a.2.2.2.1<q.size∧i+1≤a.2.2.1+a.2.2.2.1)∧Sx x' y) _ (p.size+q.size) (fun d=>by rw [mapK_size,mapK_size]) (none,#[k0],0,1,x'.2.2) (fun d=>?_) ⟨⟨rfl,LowP.one k0n,by show 0+1<p.size; omega,by show 1<q.size; omega,by show 0+1≤0+1; omega⟩,Sx.refl _⟩ (fun i a y hi h=>?_) (fun a y h=>?_)) (fun a y h=>?_)
  · show (none,#[kas_item d.2 k0],0,1,x'.2.2)=(none,mapK d #[k0],0,1,x'.2.2)
    rw [mapK_one]
  · obtain ⟨⟨ha,lo,b1,b2,b3⟩,sx⟩:=h
    obtain ⟨r,o,ia,ib,g⟩:=a
    cases ha
    dsimp only at lo b1 b2 b3
    refine Uf.bind (cvL (σ:=Nat×Nat×Nat×Nat)) (fun (a:L6) y=>(outL n a.1∧(a.1=none→LowP n a.2.1∧a.2.2.1+1<p.size∧a.2.2.2.1<q.size∧i+2≤a.2.2.1+a.2.2.2.1))∧Sx x' y) (Uf.rangeD (cvL (σ:=Nat×Nat×Nat×Nat)) (fun j (a:L6) y=>(a.1=none∧LowP n a.2.1∧a.2.2.1+1<p.size∧a.2.2.2.1<q.size∧i+1+min j 1≤a.2.2.1+a.2.2.2.1)∧Sx x' y) _ (p.size+q.size) (fun d=>by rw [mapK_size,mapK_size]) (none,o,ia,ib,0,0) (fun _=>rfl) ⟨⟨rfl,lo,b1,b2,by show i+1+min 0 1≤ia+ib; omega⟩,sx⟩ (fun j a y hj h=>?_) (fun a y h=>?_)) (fun a y h=>?_)
    · obtain ⟨⟨ha,lo,b1,b2,b3⟩,sx⟩:=h
      obtain ⟨r,o,ia,ib,ac,bc⟩:=a
      cases ha
      dsimp only at lo b1 b2 b3
      refine Uf.bind (fun d k=>kas_item d.2 k) _ (Uf.elemK hq b2) (fun k1 y1 h=>?_)
      obtain ⟨k1n,rfl⟩:=h
      refine Uf.bind (fun d k=>kas_item d.2 k) _ (Uf.elemK hp (i:=ia) (by omega)) (fun k2 y2 h=>?_)
      obtain ⟨k2n,rfl⟩:=h
      refine Uf.bind (fun _ (b:Bool)=>some b) _ (Uf.lt_ k1n k2n) (fun b y3 h=>?_)
      obtain ⟨_,rfl⟩:=h
      refine Uf.ite (fun _=>?_) (fun _=>?_)
      · refine Uf.bind (fun d k=>kas_item d.2 k) _ (Uf.elemK hq b2) (fun k3 y4 h=>?_)
        obtain ⟨k3n,rfl⟩:=h
        refine Uf.iteD (ib+1=q.size) (fun d=>by rw [mapK_size]; exact beq_iff_eq) (fun _=>?_) (fun ne=>?_)
        · exact Uf.ret' (.done (some (o.push k3++p.extract ia p.size++q.extract (ib+1) q.size),o.push k3,ia,ib+1,0,bc+1)) (fun d=>by simp only [cvS,cvL,Option.map_some,Option.map_none,mapK_app,mapK_push,mapK_ext,mapK_size]) ⟨⟨fun z e=>(by cases e; exact ((lo.push k3n).append (hp.ext _ _)).append (hq.ext _ _)),fun e=>(by cases e)⟩,sx⟩
        refine Uf.iteD (bc+1 ≥ g) (fun _=>Iff.rfl) (fun _=>?_) (fun _=>?_)
        · exact Uf.ret' (.done (none,o.push k3,ia,ib+1,0,bc+1)) (fun d=>by simp only [cvS,cvL,Option.map_some,Option.map_none,mapK_app,mapK_push,mapK_ext,mapK_size]) ⟨⟨fun z e=>(by cases e),fun _=>⟨lo.push k3n,b1,by show ib+1<q.size; omega,by show i+2≤ia+(ib+1); omega⟩⟩,sx⟩
        · exact Uf.ret' (.yield (none,o.push k3,ia,ib+1,0,bc+1)) (fun d=>by simp only [cvS,cvL,Option.map_some,Option.map_none,mapK_app,mapK_push,mapK_ext,mapK_size]) ⟨⟨rfl,lo.push k3n,b1,by show ib+1<q.size; omega,by show i+1+min (j+1) 1≤ia+(ib+1); omega⟩,sx⟩
      · refine Uf.bind (fun d k=>kas_item d.2 k) _ (Uf.elemK hp (i:=ia) (by omega)) (fun k3 y4 h=>?_)
        obtain ⟨k3n,rfl⟩:=h
        refine Uf.iteD (ia+1+1=p.size) (fun d=>by rw [mapK_size]; exact beq_iff_eq) (fun _=>?_) (fun ne=>?_)
        · exact Uf.ret' (.done (some (o.push k3++q.extract ib q.size++p.extract (ia+1) p.size),o.push k3,ia+1,ib,ac+1,0)) (fun d=>by simp only [cvS,cvL,Option.map_some,Option.map_none,mapK_app,mapK_push,mapK_ext,mapK_size]) ⟨⟨fun z e=>(by cases e; exact ((lo.push k3n).append (hq.ext _ _)).append (hp.ext _ _)),fun e=>(by cases e)⟩,sx⟩
        refine Uf.iteD (ac+1 ≥ g) (fun _=>Iff.rfl) (fun _=>?_) (fun _=>?_)
        · exact Uf.ret' (.done (none,o.push k3,ia+1,ib,ac+1,0)) (fun d=>by simp only [cvS,cvL,Option.map_some,Option.map_none,mapK_app,mapK_push,mapK_ext,mapK_size]) ⟨⟨fun z e=>(by cases e),fun _=>⟨lo.push k3n,by show ia+1+1<p.size; omega,b2,by show i+2≤ia+1+ib; omega⟩⟩,sx⟩
        · exact Uf.ret' (.yield (none,o.push k3,ia+1,ib,ac+1,0)) (fun d=>by simp only [cvS,cvL,Option.map_some,Option.map_none,mapK_app,mapK_push,mapK_ext,mapK_size]) ⟨⟨rfl,lo.push k3n,by show ia+1+1<p.size; omega,b2,by show i+1+min (j+1) 1≤ia+1+ib; omega⟩,sx⟩
    · obtain ⟨⟨h1,h2,h3,h4,h5⟩,h6⟩:=h
      exact ⟨⟨fun z e=>(by rw [h1] at e; cases e),fun _=>⟨h2,h3,h4,by omega⟩⟩,h6⟩
    obtain ⟨⟨h1,h2⟩,sx⟩:=h
    obtain ⟨r,o,ia,ib,ac,bc⟩:=a
    cases r with
    | some r=>exact Uf.ret' (.done (some r,o,ia,ib,g)) (fun d=>by simp only [cvS,cvL,Option.map_some,Option.map_none,mapK_app,mapK_push,mapK_ext,mapK_size]) ⟨⟨fun e=>(by cases e),h1⟩,sx⟩
    | none =>
    obtain ⟨lo,b1,b2,b3⟩:=h2 rfl
    clear h1 h2
    dsimp only at lo b1 b2 b3
    refine Uf.bind (fun _ u=>u) (fun _ z=>z=y) (Uf.rule_ rfl) (fun _ z e=>?_)
    subst e
    refine Uf.bind (cvL (σ:=Nat×Nat×Nat×Nat×Nat)) (fun (a:L7) y=>(outL n a.1∧(a.1=none→LowP n a.2.1∧a.2.2.1+1<p.size∧a.2.2.2.1<q.size∧i+2≤a.2.2.1+a.2.2.2.1))∧Sx x' y) (Uf.rangeD (cvL (σ:=Nat×Nat×Nat×Nat×Nat)) (fun _ (a:L7) y=>(a.1=none∧LowP n a.2.1∧a.2.2.1+1<p.size∧a.2.2.2.1<q.size∧i+2≤a.2.2.1+a.2.2.2.1)∧Sx x' y) _ (p.size+q.size) (fun d=>by rw [mapK_size,mapK_size]) (none,o,ia,ib,g+1,ac,bc) (fun _=>rfl) ⟨⟨rfl,lo,b1,b2,b3⟩,sx⟩ (fun j a y hj h=>?_) (fun a y h=>?_)) (fun a y h=>?_)
    · obtain ⟨⟨ha,lo,b1,b2,b3⟩,sx⟩:=h
      obtain ⟨r,o,ia,ib,g,ac,bc⟩:=a
      cases ha
      dsimp only at lo b1 b2 b3
      refine Uf.iteD (g > 1) (fun _=>Iff.rfl) (fun _=>?_) (fun _=>?_)
      · skip
        refine Uf.bind (fun _ u=>u) _ (Uf.smgD (g - 1) (fun _=>rfl)) (fun _ z e=>?_)
        have sx2:=sx.trans e
        clear e
        refine Uf.bind (fun d k=>kas_item d.2 k) _ (Uf.elemK hq b2) (fun k1 y1 h=>?_)
        obtain ⟨k1n,rfl⟩:=h
        refine Uf.bind (fun _ (k:Nat)=>some k) _ (Uf.galK (base:=ia) (p.size - ia) 0 (fun d=>by rw [mapK_size]; rfl) (fun _=>rfl) k1n hp (by omega) (by omega)) (fun k y2 h=>?_)
        obtain ⟨kle,rfl⟩:=h
        refine Uf.ite (fun k00=>?_) (fun k00=>?_)
        · refine Uf.iteD (ia+k+1=p.size) (fun d=>by rw [mapK_size]; exact beq_iff_eq) (fun _=>?_) (fun n1=>?_)
          · exact Uf.ret' (.done (some ((o++p.extract ia (ia+k))++q.extract ib q.size++p.extract (ia+k) p.size),o++p.extract ia (ia+k),ia+k,ib,g - 1,k,bc)) (fun d=>by simp only [cvS,cvL,Option.map_some,Option.map_none,mapK_app,mapK_push,mapK_ext,mapK_size]) ⟨⟨fun z e=>(by cases e; exact ((lo.append (hp.ext ia (ia+k))).append (hq.ext _ _)).append (hp.ext _ _)),fun e=>(by cases e)⟩,sx2⟩
          refine Uf.iteD (ia+k=p.size) (fun d=>by rw [mapK_size]; exact beq_iff_eq) (fun _=>?_) (fun n2=>?_)
          · exact Uf.ret' (.done (some ((o++p.extract ia (ia+k))++p.extract (ia+k) p.size++q.extract ib q.size),o++p.extract ia (ia+k),ia+k,ib,g - 1,k,bc)) (fun d=>by simp only [cvS,cvL,Option.map_some,Option.map_none,mapK_app,mapK_push,mapK_ext,mapK_size]) ⟨⟨fun z e=>(by cases e; exact ((lo.append (hp.ext ia (ia+k))).append (hp.ext _ _)).append (hq.ext _ _)),fun e=>(by cases e)⟩,sx2⟩
          refine Uf.bind (fun d k=>kas_item d.2 k) _ (Uf.elemK hq b2) (fun k3 y3 h=>?_)
          obtain ⟨k3n,rfl⟩:=h
          refine Uf.iteD (ib+1=q.size) (fun d=>by rw [mapK_size]; exact beq_iff_eq) (fun _=>?_) (fun n3=>?_)
          · exact Uf.ret' (.done (some ((o++p.extract ia (ia+k)).push k3++p.extract (ia+k) p.size++q.extract (ib+1) q.size),(o++p.extract ia (ia+k)).push k3,ia+k,ib+1,g - 1,k,bc)) (fun d=>by simp only [cvS,cvL,Option.map_some,Option.map_none,mapK_app,mapK_push,mapK_ext,mapK_size]) ⟨⟨fun z e=>(by cases e; exact (((lo.append (hp.ext ia (ia+k))).push k3n).append (hp.ext _ _)).append (hq.ext _ _)),fun e=>(by cases e)⟩,sx2⟩
          refine Uf.bind (fun d k=>kas_item d.2 k) _ (Uf.elemK hp (i:=ia+k) (by omega)) (fun k4 y4 h=>?_)
          obtain ⟨k4n,rfl⟩:=h
          refine Uf.bind (fun _ (k:Nat)=>some k) _ (Uf.galK (base:=ib+1) (q.size - (ib+1)) 0 (fun d=>by rw [mapK_size]; rfl) (fun _=>rfl) k4n hq (by omega) (by omega)) (fun k5 y5 h=>?_)
          obtain ⟨k5le,rfl⟩:=h
          refine Uf.ite (fun k50=>?_) (fun k50=>?_)
          · refine Uf.iteD (ib+1+k5=q.size) (fun d=>by rw [mapK_size]; exact beq_iff_eq) (fun _=>?_) (fun n5=>?_)
            · exact Uf.ret' (.done (some (((o++p.extract ia (ia+k)).push k3++q.extract (ib+1) (ib+1+k5))++p.extract (ia+k) p.size++q.extract (ib+1+k5) q.size),(o++p.extract ia (ia+k)).push k3++q.extract (ib+1) (ib+1+k5),ia+k,ib+1+k5,g - 1,k,k5)) (fun d=>by simp only [cvS,cvL,Option.map_some,Option.map_none,mapK_app,mapK_push,mapK_ext,mapK_size]) ⟨⟨fun z e=>(by cases e; exact ((((lo.append (hp.ext ia (ia+k))).push k3n).append (hq.ext (ib+1) (ib+1+k5))).append (hp.ext _ _)).append (hq.ext _ _)),fun e=>(by cases e)⟩,sx2⟩
            refine Uf.bind (fun d k=>kas_item d.2 k) _ (Uf.elemK hp (i:=ia+k) (by omega)) (fun k6 y6 h=>?_)
            obtain ⟨k6n,rfl⟩:=h
            refine Uf.iteD (ia+k+1+1=p.size) (fun d=>by rw [mapK_size]; exact beq_iff_eq) (fun _=>?_) (fun n6=>?_)
            · exact Uf.ret' (.done (some (((o++p.extract ia (ia+k)).push k3++q.extract (ib+1) (ib+1+k5)).push k6++q.extract (ib+1+k5) q.size++p.extract (ia+k+1) p.size),((o++p.extract ia (ia+k)).push k3++q.extract (ib+1) (ib+1+k5)).push k6,ia+k+1,ib+1+k5,g - 1,k,k5)) (fun d=>by simp only [cvS,cvL,Option.map_some,Option.map_none,mapK_app,mapK_push,mapK_ext,mapK_size]) ⟨⟨fun z e=>(by cases e; exact (((((lo.append (hp.ext ia (ia+k))).push k3n).append (hq.ext (ib+1) (ib+1+k5))).push k6n).append (hq.ext _ _)).append (hp.ext _ _)),fun e=>(by cases e)⟩,sx2⟩
            refine Uf.iteD ((decide (k<7) && decide (k5<7))=true) (fun _=>Iff.rfl) (fun _=>?_) (fun _=>?_)
            · exact Uf.ret' (.done (none,((o++p.extract ia (ia+k)).push k3++q.extract (ib+1) (ib+1+k5)).push k6,ia+k+1,ib+1+k5,g - 1,k,k5)) (fun d=>by simp only [cvS,cvL,Option.map_some,Option.map_none,mapK_app,mapK_push,mapK_ext,mapK_size]) ⟨⟨fun z e=>(by cases e),fun _=>⟨(((lo.append (hp.ext ia (ia+k))).push k3n).append (hq.ext (ib+1) (ib+1+k5))).push k6n,by show ia+k+1+1<p.size; omega,by show ib+1+k5<q.size; omega,by show i+2≤ia+k+1+(ib+1+k5); omega⟩⟩,sx2⟩
            · exact Uf.ret' (.yield (none,((o++p.extract ia (ia+k)).push k3++q.extract (ib+1) (ib+1+k5)).push k6,ia+k+1,ib+1+k5,g - 1,k,k5)) (fun d=>by simp only [cvS,cvL,Option.map_some,Option.map_none,mapK_app,mapK_push,mapK_ext,mapK_size]) ⟨⟨rfl,(((lo.append (hp.ext ia (ia+k))).push k3n).append (hq.ext (ib+1) (ib+1+k5))).push k6n,by show ia+k+1+1<p.size; omega,by show ib+1+k5<q.size; omega,by show i+2≤ia+k+1+(ib+1+k5); omega⟩,sx2⟩
          · skip
            refine Uf.bind (fun d k=>kas_item d.2 k) _ (Uf.elemK hp (i:=ia+k) (by omega)) (fun k6 y6 h=>?_)
            obtain ⟨k6n,rfl⟩:=h
            refine Uf.iteD (ia+k+1+1=p.size) (fun d=>by rw [mapK_size]; exact beq_iff_eq) (fun _=>?_) (fun n6=>?_)
            · exact Uf.ret' (.done (some (((o++p.extract ia (ia+k)).push k3).push k6++q.extract (ib+1) q.size++p.extract (ia+k+1) p.size),((o++p.extract ia (ia+k)).push k3).push k6,ia+k+1,ib+1,g - 1,k,k5)) (fun d=>by simp only [cvS,cvL,Option.map_some,Option.map_none,mapK_app,mapK_push,mapK_ext,mapK_size]) ⟨⟨fun z e=>(by cases e; exact ((((lo.append (hp.ext ia (ia+k))).push k3n).push k6n).append (hq.ext _ _)).append (hp.ext _ _)),fun e=>(by cases e)⟩,sx2⟩
            refine Uf.iteD ((decide (k<7) && decide (k5<7))=true) (fun _=>Iff.rfl) (fun _=>?_) (fun _=>?_)
            · exact Uf.ret' (.done (none,((o++p.extract ia (ia+k)).push k3).push k6,ia+k+1,ib+1,g - 1,k,k5)) (fun d=>by simp only [cvS,cvL,Option.map_some,Option.map_none,mapK_app,mapK_push,mapK_ext,mapK_size]) ⟨⟨fun z e=>(by cases e),fun _=>⟨((lo.append (hp.ext ia (ia+k))).push k3n).push k6n,by show ia+k+1+1<p.size; omega,by show ib+1<q.size; omega,by show i+2≤ia+k+1+(ib+1); omega⟩⟩,sx2⟩
            · exact Uf.ret' (.yield (none,((o++p.extract ia (ia+k)).push k3).push k6,ia+k+1,ib+1,g - 1,k,k5)) (fun d=>by simp only [cvS,cvL,Option.map_some,Option.map_none,mapK_app,mapK_push,mapK_ext,mapK_size]) ⟨⟨rfl,((lo.append (hp.ext ia (ia+k))).push k3n).push k6n,by show ia+k+1+1<p.size; omega,by show ib+1<q.size; omega,by show i+2≤ia+k+1+(ib+1); omega⟩,sx2⟩
        · skip
          refine Uf.bind (fun d k=>kas_item d.2 k) _ (Uf.elemK hq b2) (fun k3 y3 h=>?_)
          obtain ⟨k3n,rfl⟩:=h
          refine Uf.iteD (ib+1=q.size) (fun d=>by rw [mapK_size]; exact beq_iff_eq) (fun _=>?_) (fun n3=>?_)
          · exact Uf.ret' (.done (some ((o).push k3++p.extract (ia) p.size++q.extract (ib+1) q.size),(o).push k3,ia,ib+1,g - 1,k,bc)) (fun d=>by simp only [cvS,cvL,Option.map_some,Option.map_none,mapK_app,mapK_push,mapK_ext,mapK_size]) ⟨⟨fun z e=>(by cases e; exact ((lo.push k3n).append (hp.ext _ _)).append (hq.ext _ _)),fun e=>(by cases e)⟩,sx2⟩
          refine Uf.bind (fun d k=>kas_item d.2 k) _ (Uf.elemK hp (i:=ia) (by omega)) (fun k4 y4 h=>?_)
          obtain ⟨k4n,rfl⟩:=h
          refine Uf.bind (fun _ (k:Nat)=>some k) _ (Uf.galK (base:=ib+1) (q.size - (ib+1)) 0 (fun d=>by rw [mapK_size]; rfl) (fun _=>rfl) k4n hq (by omega) (by omega)) (fun k5 y5 h=>?_)
          obtain ⟨k5le,rfl⟩:=h
          refine Uf.ite (fun k50=>?_) (fun k50=>?_)
          · refine Uf.iteD (ib+1+k5=q.size) (fun d=>by rw [mapK_size]; exact beq_iff_eq) (fun _=>?_) (fun n5=>?_)
            · exact Uf.ret' (.done (some (((o).push k3++q.extract (ib+1) (ib+1+k5))++p.extract (ia) p.size++q.extract (ib+1+k5) q.size),(o).push k3++q.extract (ib+1) (ib+1+k5),ia,ib+1+k5,g - 1,k,k5)) (fun d=>by simp only [cvS,cvL,Option.map_some,Option.map_none,mapK_app,mapK_push,mapK_ext,mapK_size]) ⟨⟨fun z e=>(by cases e; exact (((lo.push k3n).append (hq.ext (ib+1) (ib+1+k5))).append (hp.ext _ _)).append (hq.ext _ _)),fun e=>(by cases e)⟩,sx2⟩
            refine Uf.bind (fun d k=>kas_item d.2 k) _ (Uf.elemK hp (i:=ia) (by omega)) (fun k6 y6 h=>?_)
            obtain ⟨k6n,rfl⟩:=h
            refine Uf.iteD (ia+1+1=p.size) (fun d=>by rw [mapK_size]; exact beq_iff_eq) (fun _=>?_) (fun n6=>?_)
            · exact Uf.ret' (.done (some (((o).push k3++q.extract (ib+1) (ib+1+k5)).push k6++q.extract (ib+1+k5) q.size++p.extract (ia+1) p.size),((o).push k3++q.extract (ib+1) (ib+1+k5)).push k6,ia+1,ib+1+k5,g - 1,k,k5)) (fun d=>by simp only [cvS,cvL,Option.map_some,Option.map_none,mapK_app,mapK_push,mapK_ext,mapK_size]) ⟨⟨fun z e=>(by cases e; exact ((((lo.push k3n).append (hq.ext (ib+1) (ib+1+k5))).push k6n).append (hq.ext _ _)).append (hp.ext _ _)),fun e=>(by cases e)⟩,sx2⟩
            refine Uf.iteD ((decide (k<7) && decide (k5<7))=true) (fun _=>Iff.rfl) (fun _=>?_) (fun _=>?_)
            · exact Uf.ret' (.done (none,((o).push k3++q.extract (ib+1) (ib+1+k5)).push k6,ia+1,ib+1+k5,g - 1,k,k5)) (fun d=>by simp only [cvS,cvL,Option.map_some,Option.map_none,mapK_app,mapK_push,mapK_ext,mapK_size]) ⟨⟨fun z e=>(by cases e),fun _=>⟨((lo.push k3n).append (hq.ext (ib+1) (ib+1+k5))).push k6n,by show ia+1+1<p.size; omega,by show ib+1+k5<q.size; omega,by show i+2≤ia+1+(ib+1+k5); omega⟩⟩,sx2⟩
            · exact Uf.ret' (.yield (none,((o).push k3++q.extract (ib+1) (ib+1+k5)).push k6,ia+1,ib+1+k5,g - 1,k,k5)) (fun d=>by simp only [cvS,cvL,Option.map_some,Option.map_none,mapK_app,mapK_push,mapK_ext,mapK_size]) ⟨⟨rfl,((lo.push k3n).append (hq.ext (ib+1) (ib+1+k5))).push k6n,by show ia+1+1<p.size; omega,by show ib+1+k5<q.size; omega,by show i+2≤ia+1+(ib+1+k5); omega⟩,sx2⟩
          · skip
            refine Uf.bind (fun d k=>kas_item d.2 k) _ (Uf.elemK hp (i:=ia) (by omega)) (fun k6 y6 h=>?_)
            obtain ⟨k6n,rfl⟩:=h
            refine Uf.iteD (ia+1+1=p.size) (fun d=>by rw [mapK_size]; exact beq_iff_eq) (fun _=>?_) (fun n6=>?_)
            · exact Uf.ret' (.done (some (((o).push k3).push k6++q.extract (ib+1) q.size++p.extract (ia+1) p.size),((o).push k3).push k6,ia+1,ib+1,g - 1,k,k5)) (fun d=>by simp only [cvS,cvL,Option.map_some,Option.map_none,mapK_app,mapK_push,mapK_ext,mapK_size]) ⟨⟨fun z e=>(by cases e; exact (((lo.push k3n).push k6n).append (hq.ext _ _)).append (hp.ext _ _)),fun e=>(by cases e)⟩,sx2⟩
            refine Uf.iteD ((decide (k<7) && decide (k5<7))=true) (fun _=>Iff.rfl) (fun _=>?_) (fun _=>?_)
            · exact Uf.ret' (.done (none,((o).push k3).push k6,ia+1,ib+1,g - 1,k,k5)) (fun d=>by simp only [cvS,cvL,Option.map_some,Option.map_none,mapK_app,mapK_push,mapK_ext,mapK_size]) ⟨⟨fun z e=>(by cases e),fun _=>⟨(lo.push k3n).push k6n,by show ia+1+1<p.size; omega,by show ib+1<q.size; omega,by show i+2≤ia+1+(ib+1); omega⟩⟩,sx2⟩
            · exact Uf.ret' (.yield (none,((o).push k3).push k6,ia+1,ib+1,g - 1,k,k5)) (fun d=>by simp only [cvS,cvL,Option.map_some,Option.map_none,mapK_app,mapK_push,mapK_ext,mapK_size]) ⟨⟨rfl,(lo.push k3n).push k6n,by show ia+1+1<p.size; omega,by show ib+1<q.size; omega,by show i+2≤ia+1+(ib+1); omega⟩,sx2⟩
      · skip
        refine Uf.bind (fun _ u=>u) _ (Uf.smgD (g) (fun _=>rfl)) (fun _ z e=>?_)
        have sx2:=sx.trans e
        clear e
        refine Uf.bind (fun d k=>kas_item d.2 k) _ (Uf.elemK hq b2) (fun k1 y1 h=>?_)
        obtain ⟨k1n,rfl⟩:=h
        refine Uf.bind (fun _ (k:Nat)=>some k) _ (Uf.galK (base:=ia) (p.size - ia) 0 (fun d=>by rw [mapK_size]; rfl) (fun _=>rfl) k1n hp (by omega) (by omega)) (fun k y2 h=>?_)
        obtain ⟨kle,rfl⟩:=h
        refine Uf.ite (fun k00=>?_) (fun k00=>?_)
        · refine Uf.iteD (ia+k+1=p.size) (fun d=>by rw [mapK_size]; exact beq_iff_eq) (fun _=>?_) (fun n1=>?_)
          · exact Uf.ret' (.done (some ((o++p.extract ia (ia+k))++q.extract ib q.size++p.extract (ia+k) p.size),o++p.extract ia (ia+k),ia+k,ib,g,k,bc)) (fun d=>by simp only [cvS,cvL,Option.map_some,Option.map_none,mapK_app,mapK_push,mapK_ext,mapK_size]) ⟨⟨fun z e=>(by cases e; exact ((lo.append (hp.ext ia (ia+k))).append (hq.ext _ _)).append (hp.ext _ _)),fun e=>(by cases e)⟩,sx2⟩
          refine Uf.iteD (ia+k=p.size) (fun d=>by rw [mapK_size]; exact beq_iff_eq) (fun _=>?_) (fun n2=>?_)
          · exact Uf.ret' (.done (some ((o++p.extract ia (ia+k))++p.extract (ia+k) p.size++q.extract ib q.size),o++p.extract ia (ia+k),ia+k,ib,g,k,bc)) (fun d=>by simp only [cvS,cvL,Option.map_some,Option.map_none,mapK_app,mapK_push,mapK_ext,mapK_size]) ⟨⟨fun z e=>(by cases e; exact ((lo.append (hp.ext ia (ia+k))).append (hp.ext _ _)).append (hq.ext _ _)),fun e=>(by cases e)⟩,sx2⟩
          refine Uf.bind (fun d k=>kas_item d.2 k) _ (Uf.elemK hq b2) (fun k3 y3 h=>?_)
          obtain ⟨k3n,rfl⟩:=h
          refine Uf.iteD (ib+1=q.size) (fun d=>by rw [mapK_size]; exact beq_iff_eq) (fun _=>?_) (fun n3=>?_)
          · exact Uf.ret' (.done (some ((o++p.extract ia (ia+k)).push k3++p.extract (ia+k) p.size++q.extract (ib+1) q.size),(o++p.extract ia (ia+k)).push k3,ia+k,ib+1,g,k,bc)) (fun d=>by simp only [cvS,cvL,Option.map_some,Option.map_none,mapK_app,mapK_push,mapK_ext,mapK_size]) ⟨⟨fun z e=>(by cases e; exact (((lo.append (hp.ext ia (ia+k))).push k3n).append (hp.ext _ _)).append (hq.ext _ _)),fun e=>(by cases e)⟩,sx2⟩
          refine Uf.bind (fun d k=>kas_item d.2 k) _ (Uf.elemK hp (i:=ia+k) (by omega)) (fun k4 y4 h=>?_)
          obtain ⟨k4n,rfl⟩:=h
          refine Uf.bind (fun _ (k:Nat)=>some k) _ (Uf.galK (base:=ib+1) (q.size - (ib+1)) 0 (fun d=>by rw [mapK_size]; rfl) (fun _=>rfl) k4n hq (by omega) (by omega)) (fun k5 y5 h=>?_)
          obtain ⟨k5le,rfl⟩:=h
          refine Uf.ite (fun k50=>?_) (fun k50=>?_)
          · refine Uf.iteD (ib+1+k5=q.size) (fun d=>by rw [mapK_size]; exact beq_iff_eq) (fun _=>?_) (fun n5=>?_)
            · exact Uf.ret' (.done (some (((o++p.extract ia (ia+k)).push k3++q.extract (ib+1) (ib+1+k5))++p.extract (ia+k) p.size++q.extract (ib+1+k5) q.size),(o++p.extract ia (ia+k)).push k3++q.extract (ib+1) (ib+1+k5),ia+k,ib+1+k5,g,k,k5)) (fun d=>by simp only [cvS,cvL,Option.map_some,Option.map_none,mapK_app,mapK_push,mapK_ext,mapK_size]) ⟨⟨fun z e=>(by cases e; exact ((((lo.append (hp.ext ia (ia+k))).push k3n).append (hq.ext (ib+1) (ib+1+k5))).append (hp.ext _ _)).append (hq.ext _ _)),fun e=>(by cases e)⟩,sx2⟩
            refine Uf.bind (fun d k=>kas_item d.2 k) _ (Uf.elemK hp (i:=ia+k) (by omega)) (fun k6 y6 h=>?_)
            obtain ⟨k6n,rfl⟩:=h
            refine Uf.iteD (ia+k+1+1=p.size) (fun d=>by rw [mapK_size]; exact beq_iff_eq) (fun _=>?_) (fun n6=>?_)
            · exact Uf.ret' (.done (some (((o++p.extract ia (ia+k)).push k3++q.extract (ib+1) (ib+1+k5)).push k6++q.extract (ib+1+k5) q.size++p.extract (ia+k+1) p.size),((o++p.extract ia (ia+k)).push k3++q.extract (ib+1) (ib+1+k5)).push k6,ia+k+1,ib+1+k5,g,k,k5)) (fun d=>by simp only [cvS,cvL,Option.map_some,Option.map_none,mapK_app,mapK_push,mapK_ext,mapK_size]) ⟨⟨fun z e=>(by cases e; exact (((((lo.append (hp.ext ia (ia+k))).push k3n).append (hq.ext (ib+1) (ib+1+k5))).push k6n).append (hq.ext _ _)).append (hp.ext _ _)),fun e=>(by cases e)⟩,sx2⟩
            refine Uf.iteD ((decide (k<7) && decide (k5<7))=true) (fun _=>Iff.rfl) (fun _=>?_) (fun _=>?_)
            · exact Uf.ret' (.done (none,((o++p.extract ia (ia+k)).push k3++q.extract (ib+1) (ib+1+k5)).push k6,ia+k+1,ib+1+k5,g,k,k5)) (fun d=>by simp only [cvS,cvL,Option.map_some,Option.map_none,mapK_app,mapK_push,mapK_ext,mapK_size]) ⟨⟨fun z e=>(by cases e),fun _=>⟨(((lo.append (hp.ext ia (ia+k))).push k3n).append (hq.ext (ib+1) (ib+1+k5))).push k6n,by show ia+k+1+1<p.size; omega,by show ib+1+k5<q.size; omega,by show i+2≤ia+k+1+(ib+1+k5); omega⟩⟩,sx2⟩
            · exact Uf.ret' (.yield (none,((o++p.extract ia (ia+k)).push k3++q.extract (ib+1) (ib+1+k5)).push k6,ia+k+1,ib+1+k5,g,k,k5)) (fun d=>by simp only [cvS,cvL,Option.map_some,Option.map_none,mapK_app,mapK_push,mapK_ext,mapK_size]) ⟨⟨rfl,(((lo.append (hp.ext ia (ia+k))).push k3n).append (hq.ext (ib+1) (ib+1+k5))).push k6n,by show ia+k+1+1<p.size; omega,by show ib+1+k5<q.size; omega,by show i+2≤ia+k+1+(ib+1+k5); omega⟩,sx2⟩
          · skip
            refine Uf.bind (fun d k=>kas_item d.2 k) _ (Uf.elemK hp (i:=ia+k) (by omega)) (fun k6 y6 h=>?_)
            obtain ⟨k6n,rfl⟩:=h
            refine Uf.iteD (ia+k+1+1=p.size) (fun d=>by rw [mapK_size]; exact beq_iff_eq) (fun _=>?_) (fun n6=>?_)
            · exact Uf.ret' (.done (some (((o++p.extract ia (ia+k)).push k3).push k6++q.extract (ib+1) q.size++p.extract (ia+k+1) p.size),((o++p.extract ia (ia+k)).push k3).push k6,ia+k+1,ib+1,g,k,k5)) (fun d=>by simp only [cvS,cvL,Option.map_some,Option.map_none,mapK_app,mapK_push,mapK_ext,mapK_size]) ⟨⟨fun z e=>(by cases e; exact ((((lo.append (hp.ext ia (ia+k))).push k3n).push k6n).append (hq.ext _ _)).append (hp.ext _ _)),fun e=>(by cases e)⟩,sx2⟩
            refine Uf.iteD ((decide (k<7) && decide (k5<7))=true) (fun _=>Iff.rfl) (fun _=>?_) (fun _=>?_)
            · exact Uf.ret' (.done (none,((o++p.extract ia (ia+k)).push k3).push k6,ia+k+1,ib+1,g,k,k5)) (fun d=>by simp only [cvS,cvL,Option.map_some,Option.map_none,mapK_app,mapK_push,mapK_ext,mapK_size]) ⟨⟨fun z e=>(by cases e),fun _=>⟨((lo.append (hp.ext ia (ia+k))).push k3n).push k6n,by show ia+k+1+1<p.size; omega,by show ib+1<q.size; omega,by show i+2≤ia+k+1+(ib+1); omega⟩⟩,sx2⟩
            · exact Uf.ret' (.yield (none,((o++p.extract ia (ia+k)).push k3).push k6,ia+k+1,ib+1,g,k,k5)) (fun d=>by simp only [cvS,cvL,Option.map_some,Option.map_none,mapK_app,mapK_push,mapK_ext,mapK_size]) ⟨⟨rfl,((lo.append (hp.ext ia (ia+k))).push k3n).push k6n,by show ia+k+1+1<p.size; omega,by show ib+1<q.size; omega,by show i+2≤ia+k+1+(ib+1); omega⟩,sx2⟩
        · skip
          refine Uf.bind (fun d k=>kas_item d.2 k) _ (Uf.elemK hq b2) (fun k3 y3 h=>?_)
          obtain ⟨k3n,rfl⟩:=h
          refine Uf.iteD (ib+1=q.size) (fun d=>by rw [mapK_size]; exact beq_iff_eq) (fun _=>?_) (fun n3=>?_)
          · exact Uf.ret' (.done (some ((o).push k3++p.extract (ia) p.size++q.extract (ib+1) q.size),(o).push k3,ia,ib+1,g,k,bc)) (fun d=>by simp only [cvS,cvL,Option.map_some,Option.map_none,mapK_app,mapK_push,mapK_ext,mapK_size]) ⟨⟨fun z e=>(by cases e; exact ((lo.push k3n).append (hp.ext _ _)).append (hq.ext _ _)),fun e=>(by cases e)⟩,sx2⟩
          refine Uf.bind (fun d k=>kas_item d.2 k) _ (Uf.elemK hp (i:=ia) (by omega)) (fun k4 y4 h=>?_)
          obtain ⟨k4n,rfl⟩:=h
          refine Uf.bind (fun _ (k:Nat)=>some k) _ (Uf.galK (base:=ib+1) (q.size - (ib+1)) 0 (fun d=>by rw [mapK_size]; rfl) (fun _=>rfl) k4n hq (by omega) (by omega)) (fun k5 y5 h=>?_)
          obtain ⟨k5le,rfl⟩:=h
          refine Uf.ite (fun k50=>?_) (fun k50=>?_)
          · refine Uf.iteD (ib+1+k5=q.size) (fun d=>by rw [mapK_size]; exact beq_iff_eq) (fun _=>?_) (fun n5=>?_)
            · exact Uf.ret' (.done (some (((o).push k3++q.extract (ib+1) (ib+1+k5))++p.extract (ia) p.size++q.extract (ib+1+k5) q.size),(o).push k3++q.extract (ib+1) (ib+1+k5),ia,ib+1+k5,g,k,k5)) (fun d=>by simp only [cvS,cvL,Option.map_some,Option.map_none,mapK_app,mapK_push,mapK_ext,mapK_size]) ⟨⟨fun z e=>(by cases e; exact (((lo.push k3n).append (hq.ext (ib+1) (ib+1+k5))).append (hp.ext _ _)).append (hq.ext _ _)),fun e=>(by cases e)⟩,sx2⟩
            refine Uf.bind (fun d k=>kas_item d.2 k) _ (Uf.elemK hp (i:=ia) (by omega)) (fun k6 y6 h=>?_)
            obtain ⟨k6n,rfl⟩:=h
            refine Uf.iteD (ia+1+1=p.size) (fun d=>by rw [mapK_size]; exact beq_iff_eq) (fun _=>?_) (fun n6=>?_)
            · exact Uf.ret' (.done (some (((o).push k3++q.extract (ib+1) (ib+1+k5)).push k6++q.extract (ib+1+k5) q.size++p.extract (ia+1) p.size),((o).push k3++q.extract (ib+1) (ib+1+k5)).push k6,ia+1,ib+1+k5,g,k,k5)) (fun d=>by simp only [cvS,cvL,Option.map_some,Option.map_none,mapK_app,mapK_push,mapK_ext,mapK_size]) ⟨⟨fun z e=>(by cases e; exact ((((lo.push k3n).append (hq.ext (ib+1) (ib+1+k5))).push k6n).append (hq.ext _ _)).append (hp.ext _ _)),fun e=>(by cases e)⟩,sx2⟩
            refine Uf.iteD ((decide (k<7) && decide (k5<7))=true) (fun _=>Iff.rfl) (fun _=>?_) (fun _=>?_)
            · exact Uf.ret' (.done (none,((o).push k3++q.extract (ib+1) (ib+1+k5)).push k6,ia+1,ib+1+k5,g,k,k5)) (fun d=>by simp only [cvS,cvL,Option.map_some,Option.map_none,mapK_app,mapK_push,mapK_ext,mapK_size]) ⟨⟨fun z e=>(by cases e),fun _=>⟨((lo.push k3n).append (hq.ext (ib+1) (ib+1+k5))).push k6n,by show ia+1+1<p.size; omega,by show ib+1+k5<q.size; omega,by show i+2≤ia+1+(ib+1+k5); omega⟩⟩,sx2⟩
            · exact Uf.ret' (.yield (none,((o).push k3++q.extract (ib+1) (ib+1+k5)).push k6,ia+1,ib+1+k5,g,k,k5)) (fun d=>by simp only [cvS,cvL,Option.map_some,Option.map_none,mapK_app,mapK_push,mapK_ext,mapK_size]) ⟨⟨rfl,((lo.push k3n).append (hq.ext (ib+1) (ib+1+k5))).push k6n,by show ia+1+1<p.size; omega,by show ib+1+k5<q.size; omega,by show i+2≤ia+1+(ib+1+k5); omega⟩,sx2⟩
          · skip
            refine Uf.bind (fun d k=>kas_item d.2 k) _ (Uf.elemK hp (i:=ia) (by omega)) (fun k6 y6 h=>?_)
            obtain ⟨k6n,rfl⟩:=h
            refine Uf.iteD (ia+1+1=p.size) (fun d=>by rw [mapK_size]; exact beq_iff_eq) (fun _=>?_) (fun n6=>?_)
            · exact Uf.ret' (.done (some (((o).push k3).push k6++q.extract (ib+1) q.size++p.extract (ia+1) p.size),((o).push k3).push k6,ia+1,ib+1,g,k,k5)) (fun d=>by simp only [cvS,cvL,Option.map_some,Option.map_none,mapK_app,mapK_push,mapK_ext,mapK_size]) ⟨⟨fun z e=>(by cases e; exact (((lo.push k3n).push k6n).append (hq.ext _ _)).append (hp.ext _ _)),fun e=>(by cases e)⟩,sx2⟩
            refine Uf.iteD ((decide (k<7) && decide (k5<7))=true) (fun _=>Iff.rfl) (fun _=>?_) (fun _=>?_)
            · exact Uf.ret' (.done (none,((o).push k3).push k6,ia+1,ib+1,g,k,k5)) (fun d=>by simp only [cvS,cvL,Option.map_some,Option.map_none,mapK_app,mapK_push,mapK_ext,mapK_size]) ⟨⟨fun z e=>(by cases e),fun _=>⟨(lo.push k3n).push k6n,by show ia+1+1<p.size; omega,by show ib+1<q.size; omega,by show i+2≤ia+1+(ib+1); omega⟩⟩,sx2⟩
            · exact Uf.ret' (.yield (none,((o).push k3).push k6,ia+1,ib+1,g,k,k5)) (fun d=>by simp only [cvS,cvL,Option.map_some,Option.map_none,mapK_app,mapK_push,mapK_ext,mapK_size]) ⟨⟨rfl,(lo.push k3n).push k6n,by show ia+1+1<p.size; omega,by show ib+1<q.size; omega,by show i+2≤ia+1+(ib+1); omega⟩,sx2⟩
    · obtain ⟨⟨h1,h2,h3,h4,h5⟩,h6⟩:=h
      exact ⟨⟨fun z e=>(by rw [h1] at e; cases e),fun _=>⟨h2,h3,h4,h5⟩⟩,h6⟩
    obtain ⟨⟨h1,h2⟩,sx⟩:=h
    obtain ⟨r,o,ia,ib,g,ac,bc⟩:=a
    cases r with
    | some r=>exact Uf.ret' (.done (some r,o,ia,ib,g)) (fun d=>by simp only [cvS,cvL,Option.map_some,Option.map_none,mapK_app,mapK_push,mapK_ext,mapK_size]) ⟨⟨fun e=>(by cases e),h1⟩,sx⟩
    | none =>
    obtain ⟨lo,b1,b2,b3⟩:=h2 rfl
    refine Uf.bind (fun _ u=>u) (fun _ z=>Sx y z) (Uf.smgD (g+1) (fun _=>rfl)) (fun _ z e=>?_)
    exact Uf.ret' (.yield (none,o,ia,ib,g+1)) (fun d=>by simp only [cvS,cvL,Option.map_some,Option.map_none,mapK_app,mapK_push,mapK_ext,mapK_size]) ⟨⟨rfl,lo,b1,b2,by show i+1+1≤ia+ib; omega⟩,sx.trans e⟩
  · obtain ⟨⟨_,_,h1,h2,h3⟩,_⟩:=h
    omega
  · obtain ⟨⟨h1,h2⟩,h3⟩:=h
    obtain ⟨r,o,ia,ib,g⟩:=a
    cases r with
    | none=>exact absurd rfl h1
    | some r=>exact Uf.ret' r (fun _=>rfl) ⟨h2 r rfl,h3⟩
end
end L2
namespace L2
open PySem PySem.Spec PySem.W PyProof.Rows
section
variable {n:Nat} {c:Nat→Nat→Bool} {x:Ix}
abbrev mHi:Array Keyed→Array Keyed→StateT SortSt Sem (Array Keyed):=sortPriv% PySem.Builtin.mergeHi
abbrev H5:=Option (Array Nat)×Nat×Nat×Array Nat×Nat
abbrev H6:=Option (Array Nat)×Nat×Nat×Array Nat×Nat×Nat
abbrev H7:=Option (Array Nat)×Nat×Nat×Array Nat×Nat×Nat×Nat
def cvH {σ:Type} (d:Dt) (a:Option (Array Nat)×Nat×Nat×Array Nat×σ):Option (Array Keyed)×Nat×Nat×Array Keyed×σ:=(a.1.map (mapK d),a.2.1,a.2.2.1,mapK d a.2.2.2.1,a.2.2.2.2)
theorem Uf.elemD {p:Array Nat} {i:Dt→Nat} (i0:Nat) (e:∀ d,i d=i0) (hp:LowP n p) (hi:i0<p.size):Uf n c (fun d=>elem' (mapK d p) (i d)) (fun d k=>kas_item d.2 k) x (fun k x'=>k<n∧x'=x):=by
  rw [funext e]
  exact Uf.elemK hp hi
theorem Uf.mHi_ {p q:Array Nat} (hp:LowP n p) (hq:LowP n q) (p1:1≤p.size) (q1:1≤q.size):Uf n c (fun d=>mHi (mapK d p) (mapK d q)) mapK x (fun r x'=>LowP n r∧Sx x x'):=by
  refine Uf.bind (fun _ u=>u) (fun _ y=>y=x) (Uf.rule_ rfl) (fun _ y e=>?_)
  subst e
  refine Uf.bind (fun d k=>kas_item d.2 k) _ (Uf.elemD (p.size - 1) (fun d=>by rw [mapK_size]) hp (by omega)) (fun k0 y h=>?_)
  obtain ⟨k0n,rfl⟩:=h
  refine Uf.iteD (p.size - 1=0) (fun d=>by rw [mapK_size]; exact beq_iff_eq) (fun _=>?_) (fun p2=>?_)
  · exact Uf.ret' (p.extract 0 (p.size - 1)++q.extract 0 (q.size)++(#[k0]).reverse) (fun d=>by rw [mapK_app,mapK_app,mapK_rev,mapK_one,← mapK_ext,← mapK_ext,mapK_size,mapK_size]) ⟨((hp.ext _ _).append (hq.ext _ _)).append (LowP.one k0n).rev,Sx.refl _⟩
  refine Uf.iteD (q.size=1) (fun d=>by rw [mapK_size]; exact beq_iff_eq) (fun _=>?_) (fun q2=>?_)
  · exact Uf.ret' (q.extract 0 (q.size)++p.extract 0 (p.size - 1)++(#[k0]).reverse) (fun d=>by rw [mapK_app,mapK_app,mapK_rev,mapK_one,← mapK_ext,← mapK_ext,mapK_size,mapK_size]) ⟨((hq.ext _ _).append (hp.ext _ _)).append (LowP.one k0n).rev,Sx.refl _⟩
  refine Uf.bind stI _ Uf.get_ (fun a x' h=>?_)
  obtain ⟨rfl,rfl⟩:=h
  refine Uf.bind (cvH (σ:=Nat)) (fun (a:H5) y=>(a.1≠none∧outL n a.1)∧Sx x' y)
    (Uf.rangeD (cvH (σ:=Nat)) (fun i (a:H5) y=>(a.1=none∧LowP n a.2.2.2.1∧(1≤a.2.1∧a.2.1≤p.size)∧(2≤a.2.2.1∧a.2.2.1≤q.size)∧i+1+a.2.1+a.2.2.1≤p.size+q.size)∧Sx x' y) _ (p.size+q.size) (fun d=>by rw [mapK_size,mapK_size]) (none,p.size - 1,q.size,#[k0],x'.2.2) (fun d=>?_) ⟨⟨rfl,LowP.one k0n,⟨by show 1≤p.size - 1; omega,by show p.size - 1≤p.size; omega⟩,⟨by show 2≤q.size; omega,Nat.le_refl _⟩,by show 0+1+(p.size - 1)+q.size≤p.size+q.size; omega⟩,Sx.refl _⟩ (fun i a y hi h=>?_) (fun a y h=>?_)) (fun a y h=>?_)
  · show (none,(mapK d p).size - 1,(mapK d q).size,#[kas_item d.2 k0],x'.2.2)=(none,p.size - 1,q.size,mapK d #[k0],x'.2.2)
    rw [mapK_one,mapK_size,mapK_size]
  · obtain ⟨⟨ha,lo,⟨a1,a2⟩,⟨b1,b2⟩,b3⟩,sx⟩:=h
    obtain ⟨r,na,nb,o,g⟩:=a
    cases ha
    dsimp only at lo a1 a2 b1 b2 b3
    refine Uf.bind (cvH (σ:=Nat×Nat)) (fun (a:H6) y=>(outL n a.1∧(a.1=none→LowP n a.2.2.2.1∧(1≤a.2.1∧a.2.1≤p.size)∧(2≤a.2.2.1∧a.2.2.1≤q.size)∧i+2+a.2.1+a.2.2.1≤p.size+q.size))∧Sx x' y) (Uf.rangeD (cvH (σ:=Nat×Nat)) (fun j (a:H6) y=>(a.1=none∧LowP n a.2.2.2.1∧(1≤a.2.1∧a.2.1≤p.size)∧(2≤a.2.2.1∧a.2.2.1≤q.size)∧i+1+min j 1+a.2.1+a.2.2.1≤p.size+q.size)∧Sx x' y) _ (p.size+q.size) (fun d=>by rw [mapK_size,mapK_size]) (none,na,nb,o,0,0) (fun _=>rfl) ⟨⟨rfl,lo,⟨a1,a2⟩,⟨b1,b2⟩,by show i+1+min 0 1+na+nb≤_; omega⟩,sx⟩ (fun j a y hj h=>?_) (fun a y h=>?_)) (fun a y h=>?_)
    · obtain ⟨⟨ha,lo,⟨a1,a2⟩,⟨b1,b2⟩,b3⟩,sx⟩:=h
      obtain ⟨r,na,nb,o,ac,bc⟩:=a
      cases ha
      dsimp only at lo a1 a2 b1 b2 b3
      refine Uf.bind (fun d k=>kas_item d.2 k) _ (Uf.elemK hq (i:=nb - 1) (by omega)) (fun k1 y1 h=>?_)
      obtain ⟨k1n,rfl⟩:=h
      refine Uf.bind (fun d k=>kas_item d.2 k) _ (Uf.elemK hp (i:=na - 1) (by omega)) (fun k2 y2 h=>?_)
      obtain ⟨k2n,rfl⟩:=h
      refine Uf.bind (fun _ (b:Bool)=>some b) _ (Uf.lt_ k1n k2n) (fun b y3 h=>?_)
      obtain ⟨_,rfl⟩:=h
      refine Uf.ite (fun _=>?_) (fun _=>?_)
      · refine Uf.bind (fun d k=>kas_item d.2 k) _ (Uf.elemK hp (i:=na - 1) (by omega)) (fun k3 y4 h=>?_)
        obtain ⟨k3n,rfl⟩:=h
        refine Uf.iteD (na - 1=0) (fun d=>by exact beq_iff_eq) (fun _=>?_) (fun ne=>?_)
        · exact Uf.ret' (.done (some (p.extract 0 (na - 1)++q.extract 0 (nb)++(o.push k3).reverse),na - 1,nb,o.push k3,ac+1,0)) (fun d=>by simp only [cvS,cvH,Option.map_some,Option.map_none,mapK_app,mapK_push,mapK_ext,mapK_rev,mapK_size]) ⟨⟨fun z e=>(by cases e; exact ((hp.ext _ _).append (hq.ext _ _)).append (lo.push k3n).rev),fun e=>(by cases e)⟩,sx⟩
        refine Uf.iteD (ac+1 ≥ g) (fun _=>Iff.rfl) (fun _=>?_) (fun _=>?_)
        · exact Uf.ret' (.done (none,na - 1,nb,o.push k3,ac+1,0)) (fun d=>by simp only [cvS,cvH,Option.map_some,Option.map_none,mapK_app,mapK_push,mapK_ext,mapK_rev,mapK_size]) ⟨⟨fun z e=>(by cases e),fun _=>⟨lo.push k3n,⟨by show 1≤na - 1; omega,by show na - 1≤p.size; omega⟩,⟨b1,b2⟩,by show i+2+(na - 1)+nb≤_; omega⟩⟩,sx⟩
        · exact Uf.ret' (.yield (none,na - 1,nb,o.push k3,ac+1,0)) (fun d=>by simp only [cvS,cvH,Option.map_some,Option.map_none,mapK_app,mapK_push,mapK_ext,mapK_rev,mapK_size]) ⟨⟨rfl,lo.push k3n,⟨by show 1≤na - 1; omega,by show na - 1≤p.size; omega⟩,⟨b1,b2⟩,by show i+1+min (j+1) 1+(na - 1)+nb≤_; omega⟩,sx⟩
      · refine Uf.bind (fun d k=>kas_item d.2 k) _ (Uf.elemK hq (i:=nb - 1) (by omega)) (fun k3 y4 h=>?_)
        obtain ⟨k3n,rfl⟩:=h
        refine Uf.iteD (nb - 1=1) (fun d=>by exact beq_iff_eq) (fun _=>?_) (fun ne=>?_)
        · exact Uf.ret' (.done (some (q.extract 0 (nb - 1)++p.extract 0 (na)++(o.push k3).reverse),na,nb - 1,o.push k3,0,bc+1)) (fun d=>by simp only [cvS,cvH,Option.map_some,Option.map_none,mapK_app,mapK_push,mapK_ext,mapK_rev,mapK_size]) ⟨⟨fun z e=>(by cases e; exact ((hq.ext _ _).append (hp.ext _ _)).append (lo.push k3n).rev),fun e=>(by cases e)⟩,sx⟩
        refine Uf.iteD (bc+1 ≥ g) (fun _=>Iff.rfl) (fun _=>?_) (fun _=>?_)
        · exact Uf.ret' (.done (none,na,nb - 1,o.push k3,0,bc+1)) (fun d=>by simp only [cvS,cvH,Option.map_some,Option.map_none,mapK_app,mapK_push,mapK_ext,mapK_rev,mapK_size]) ⟨⟨fun z e=>(by cases e),fun _=>⟨lo.push k3n,⟨a1,a2⟩,⟨by show 2≤nb - 1; omega,by show nb - 1≤q.size; omega⟩,by show i+2+na+(nb - 1)≤_; omega⟩⟩,sx⟩
        · exact Uf.ret' (.yield (none,na,nb - 1,o.push k3,0,bc+1)) (fun d=>by simp only [cvS,cvH,Option.map_some,Option.map_none,mapK_app,mapK_push,mapK_ext,mapK_rev,mapK_size]) ⟨⟨rfl,lo.push k3n,⟨a1,a2⟩,⟨by show 2≤nb - 1; omega,by show nb - 1≤q.size; omega⟩,by show i+1+min (j+1) 1+na+(nb - 1)≤_; omega⟩,sx⟩
    · obtain ⟨⟨h1,h2,h3,h4,h5⟩,h6⟩:=h
      exact ⟨⟨fun z e=>(by rw [h1] at e; cases e),fun _=>⟨h2,h3,h4,by omega⟩⟩,h6⟩
    obtain ⟨⟨h1,h2⟩,sx⟩:=h
    obtain ⟨r,na,nb,o,ac,bc⟩:=a
    cases r with
    | some r=>exact Uf.ret' (.done (some r,na,nb,o,g)) (fun d=>by simp only [cvS,cvH,Option.map_some,Option.map_none,mapK_app,mapK_push,mapK_ext,mapK_rev,mapK_size]) ⟨⟨fun e=>(by cases e),h1⟩,sx⟩
    | none =>
    obtain ⟨lo,⟨a1,a2⟩,⟨b1,b2⟩,b3⟩:=h2 rfl
    clear h1 h2
    dsimp only at lo a1 a2 b1 b2 b3
    refine Uf.bind (fun _ u=>u) (fun _ z=>z=y) (Uf.rule_ rfl) (fun _ z e=>?_)
    subst e
    refine Uf.bind (cvH (σ:=Nat×Nat×Nat)) (fun (a:H7) y=>(outL n a.1∧(a.1=none→LowP n a.2.2.2.1∧(1≤a.2.1∧a.2.1≤p.size)∧(2≤a.2.2.1∧a.2.2.1≤q.size)∧i+2+a.2.1+a.2.2.1≤p.size+q.size))∧Sx x' y) (Uf.rangeD (cvH (σ:=Nat×Nat×Nat)) (fun _ (a:H7) y=>(a.1=none∧LowP n a.2.2.2.1∧(1≤a.2.1∧a.2.1≤p.size)∧(2≤a.2.2.1∧a.2.2.1≤q.size)∧i+2+a.2.1+a.2.2.1≤p.size+q.size)∧Sx x' y) _ (p.size+q.size) (fun d=>by rw [mapK_size,mapK_size]) (none,na,nb,o,g+1,ac,bc) (fun _=>rfl) ⟨⟨rfl,lo,⟨a1,a2⟩,⟨b1,b2⟩,b3⟩,sx⟩ (fun j a y hj h=>?_) (fun a y h=>?_)) (fun a y h=>?_)
    · obtain ⟨⟨ha,lo,⟨a1,a2⟩,⟨b1,b2⟩,b3⟩,sx⟩:=h
      obtain ⟨r,na,nb,o,g,ac,bc⟩:=a
      cases ha
      dsimp only at lo a1 a2 b1 b2 b3
      refine Uf.iteD (g > 1) (fun _=>Iff.rfl) (fun _=>?_) (fun _=>?_)
      · skip
        refine Uf.bind (fun _ u=>u) _ (Uf.smgD (g - 1) (fun _=>rfl)) (fun _ z e=>?_)
        have sx2:=sx.trans e
        clear e
        refine Uf.bind (fun d k=>kas_item d.2 k) _ (Uf.elemK hq (i:=nb - 1) (by omega)) (fun k1 y1 h=>?_)
        obtain ⟨k1n,rfl⟩:=h
        refine Uf.bind (fun _ (k:Nat)=>some k) _ (Uf.galK (base:=0) na (na - 1) (fun _=>rfl) (fun _=>rfl) k1n hp (by omega) (by omega)) (fun t y2 h=>?_)
        obtain ⟨tle,rfl⟩:=h
        refine Uf.iteD (na - t > 0) (fun _=>Iff.rfl) (fun k00=>?_) (fun k00=>?_)
        · refine Uf.iteD (t=0) (fun d=>by exact beq_iff_eq) (fun _=>?_) (fun n1=>?_)
          · exact Uf.ret' (.done (some (p.extract 0 (t)++q.extract 0 (nb)++(o++(p.extract t na).reverse).reverse),t,nb,o++(p.extract t na).reverse,g - 1,na - t,bc)) (fun d=>by simp only [cvS,cvH,Option.map_some,Option.map_none,mapK_app,mapK_push,mapK_ext,mapK_rev,mapK_size]) ⟨⟨fun z e=>(by cases e; exact ((hp.ext _ _).append (hq.ext _ _)).append (lo.append (hp.ext t na).rev).rev),fun e=>(by cases e)⟩,sx2⟩
          refine Uf.bind (fun d k=>kas_item d.2 k) _ (Uf.elemK hq (i:=nb - 1) (by omega)) (fun k3 y3 h=>?_)
          obtain ⟨k3n,rfl⟩:=h
          refine Uf.iteD (nb - 1=1) (fun d=>by exact beq_iff_eq) (fun _=>?_) (fun n3=>?_)
          · exact Uf.ret' (.done (some (q.extract 0 (nb - 1)++p.extract 0 (t)++((o++(p.extract t na).reverse).push k3).reverse),t,nb - 1,(o++(p.extract t na).reverse).push k3,g - 1,na - t,bc)) (fun d=>by simp only [cvS,cvH,Option.map_some,Option.map_none,mapK_app,mapK_push,mapK_ext,mapK_rev,mapK_size]) ⟨⟨fun z e=>(by cases e; exact ((hq.ext _ _).append (hp.ext _ _)).append ((lo.append (hp.ext t na).rev).push k3n).rev),fun e=>(by cases e)⟩,sx2⟩
          refine Uf.bind (fun d k=>kas_item d.2 k) _ (Uf.elemK hp (i:=t - 1) (by omega)) (fun k4 y4 h=>?_)
          obtain ⟨k4n,rfl⟩:=h
          refine Uf.bind (fun _ (k:Nat)=>some k) _ (Uf.galK (base:=0) (nb - 1) (nb - 1 - 1) (fun _=>rfl) (fun _=>rfl) k4n hq (by omega) (by omega)) (fun t5 y5 h=>?_)
          obtain ⟨t5le,rfl⟩:=h
          refine Uf.iteD (nb - 1 - t5 > 0) (fun _=>Iff.rfl) (fun k50=>?_) (fun k50=>?_)
          · refine Uf.iteD (t5=1) (fun d=>by exact beq_iff_eq) (fun _=>?_) (fun n5=>?_)
            · exact Uf.ret' (.done (some (q.extract 0 (t5)++p.extract 0 (t)++((o++(p.extract t na).reverse).push k3++(q.extract t5 (nb - 1)).reverse).reverse),t,t5,(o++(p.extract t na).reverse).push k3++(q.extract t5 (nb - 1)).reverse,g - 1,na - t,nb - 1 - t5)) (fun d=>by simp only [cvS,cvH,Option.map_some,Option.map_none,mapK_app,mapK_push,mapK_ext,mapK_rev,mapK_size]) ⟨⟨fun z e=>(by cases e; exact ((hq.ext _ _).append (hp.ext _ _)).append (((lo.append (hp.ext t na).rev).push k3n).append (hq.ext t5 (nb - 1)).rev).rev),fun e=>(by cases e)⟩,sx2⟩
            refine Uf.iteD (t5=0) (fun d=>by exact beq_iff_eq) (fun _=>?_) (fun n7=>?_)
            · exact Uf.ret' (.done (some (p.extract 0 (t)++q.extract 0 (t5)++((o++(p.extract t na).reverse).push k3++(q.extract t5 (nb - 1)).reverse).reverse),t,t5,(o++(p.extract t na).reverse).push k3++(q.extract t5 (nb - 1)).reverse,g - 1,na - t,nb - 1 - t5)) (fun d=>by simp only [cvS,cvH,Option.map_some,Option.map_none,mapK_app,mapK_push,mapK_ext,mapK_rev,mapK_size]) ⟨⟨fun z e=>(by cases e; exact ((hp.ext _ _).append (hq.ext _ _)).append (((lo.append (hp.ext t na).rev).push k3n).append (hq.ext t5 (nb - 1)).rev).rev),fun e=>(by cases e)⟩,sx2⟩
            refine Uf.bind (fun d k=>kas_item d.2 k) _ (Uf.elemK hp (i:=t - 1) (by omega)) (fun k6 y6 h=>?_)
            obtain ⟨k6n,rfl⟩:=h
            refine Uf.iteD (t - 1=0) (fun d=>by exact beq_iff_eq) (fun _=>?_) (fun n6=>?_)
            · exact Uf.ret' (.done (some (p.extract 0 (t - 1)++q.extract 0 (t5)++(((o++(p.extract t na).reverse).push k3++(q.extract t5 (nb - 1)).reverse).push k6).reverse),t - 1,t5,((o++(p.extract t na).reverse).push k3++(q.extract t5 (nb - 1)).reverse).push k6,g - 1,na - t,nb - 1 - t5)) (fun d=>by simp only [cvS,cvH,Option.map_some,Option.map_none,mapK_app,mapK_push,mapK_ext,mapK_rev,mapK_size]) ⟨⟨fun z e=>(by cases e; exact ((hp.ext _ _).append (hq.ext _ _)).append ((((lo.append (hp.ext t na).rev).push k3n).append (hq.ext t5 (nb - 1)).rev).push k6n).rev),fun e=>(by cases e)⟩,sx2⟩
            refine Uf.iteD ((decide (na - t<7) && decide (nb - 1 - t5<7))=true) (fun _=>Iff.rfl) (fun _=>?_) (fun _=>?_)
            · exact Uf.ret' (.done (none,t - 1,t5,((o++(p.extract t na).reverse).push k3++(q.extract t5 (nb - 1)).reverse).push k6,g - 1,na - t,nb - 1 - t5)) (fun d=>by simp only [cvS,cvH,Option.map_some,Option.map_none,mapK_app,mapK_push,mapK_ext,mapK_rev,mapK_size]) ⟨⟨fun z e=>(by cases e),fun _=>⟨(((lo.append (hp.ext t na).rev).push k3n).append (hq.ext t5 (nb - 1)).rev).push k6n,⟨by show 1≤t - 1; omega,by show t - 1≤p.size; omega⟩,⟨by show 2≤t5; omega,by show t5≤q.size; omega⟩,by show i+2+(t - 1)+(t5)≤_; omega⟩⟩,sx2⟩
            · exact Uf.ret' (.yield (none,t - 1,t5,((o++(p.extract t na).reverse).push k3++(q.extract t5 (nb - 1)).reverse).push k6,g - 1,na - t,nb - 1 - t5)) (fun d=>by simp only [cvS,cvH,Option.map_some,Option.map_none,mapK_app,mapK_push,mapK_ext,mapK_rev,mapK_size]) ⟨⟨rfl,(((lo.append (hp.ext t na).rev).push k3n).append (hq.ext t5 (nb - 1)).rev).push k6n,⟨by show 1≤t - 1; omega,by show t - 1≤p.size; omega⟩,⟨by show 2≤t5; omega,by show t5≤q.size; omega⟩,by show i+2+(t - 1)+(t5)≤_; omega⟩,sx2⟩
          · skip
            refine Uf.bind (fun d k=>kas_item d.2 k) _ (Uf.elemK hp (i:=t - 1) (by omega)) (fun k6 y6 h=>?_)
            obtain ⟨k6n,rfl⟩:=h
            refine Uf.iteD (t - 1=0) (fun d=>by exact beq_iff_eq) (fun _=>?_) (fun n6=>?_)
            · exact Uf.ret' (.done (some (p.extract 0 (t - 1)++q.extract 0 ((nb - 1))++(((o++(p.extract t na).reverse).push k3).push k6).reverse),t - 1,(nb - 1),((o++(p.extract t na).reverse).push k3).push k6,g - 1,na - t,nb - 1 - t5)) (fun d=>by simp only [cvS,cvH,Option.map_some,Option.map_none,mapK_app,mapK_push,mapK_ext,mapK_rev,mapK_size]) ⟨⟨fun z e=>(by cases e; exact ((hp.ext _ _).append (hq.ext _ _)).append (((lo.append (hp.ext t na).rev).push k3n).push k6n).rev),fun e=>(by cases e)⟩,sx2⟩
            refine Uf.iteD ((decide (na - t<7) && decide (nb - 1 - t5<7))=true) (fun _=>Iff.rfl) (fun _=>?_) (fun _=>?_)
            · exact Uf.ret' (.done (none,t - 1,(nb - 1),((o++(p.extract t na).reverse).push k3).push k6,g - 1,na - t,nb - 1 - t5)) (fun d=>by simp only [cvS,cvH,Option.map_some,Option.map_none,mapK_app,mapK_push,mapK_ext,mapK_rev,mapK_size]) ⟨⟨fun z e=>(by cases e),fun _=>⟨((lo.append (hp.ext t na).rev).push k3n).push k6n,⟨by show 1≤t - 1; omega,by show t - 1≤p.size; omega⟩,⟨by show 2≤(nb - 1); omega,by show (nb - 1)≤q.size; omega⟩,by show i+2+(t - 1)+((nb - 1))≤_; omega⟩⟩,sx2⟩
            · exact Uf.ret' (.yield (none,t - 1,(nb - 1),((o++(p.extract t na).reverse).push k3).push k6,g - 1,na - t,nb - 1 - t5)) (fun d=>by simp only [cvS,cvH,Option.map_some,Option.map_none,mapK_app,mapK_push,mapK_ext,mapK_rev,mapK_size]) ⟨⟨rfl,((lo.append (hp.ext t na).rev).push k3n).push k6n,⟨by show 1≤t - 1; omega,by show t - 1≤p.size; omega⟩,⟨by show 2≤(nb - 1); omega,by show (nb - 1)≤q.size; omega⟩,by show i+2+(t - 1)+((nb - 1))≤_; omega⟩,sx2⟩
        · skip
          refine Uf.bind (fun d k=>kas_item d.2 k) _ (Uf.elemK hq (i:=nb - 1) (by omega)) (fun k3 y3 h=>?_)
          obtain ⟨k3n,rfl⟩:=h
          refine Uf.iteD (nb - 1=1) (fun d=>by exact beq_iff_eq) (fun _=>?_) (fun n3=>?_)
          · exact Uf.ret' (.done (some (q.extract 0 (nb - 1)++p.extract 0 (na)++((o).push k3).reverse),na,nb - 1,(o).push k3,g - 1,na - t,bc)) (fun d=>by simp only [cvS,cvH,Option.map_some,Option.map_none,mapK_app,mapK_push,mapK_ext,mapK_rev,mapK_size]) ⟨⟨fun z e=>(by cases e; exact ((hq.ext _ _).append (hp.ext _ _)).append ((lo).push k3n).rev),fun e=>(by cases e)⟩,sx2⟩
          refine Uf.bind (fun d k=>kas_item d.2 k) _ (Uf.elemK hp (i:=na - 1) (by omega)) (fun k4 y4 h=>?_)
          obtain ⟨k4n,rfl⟩:=h
          refine Uf.bind (fun _ (k:Nat)=>some k) _ (Uf.galK (base:=0) (nb - 1) (nb - 1 - 1) (fun _=>rfl) (fun _=>rfl) k4n hq (by omega) (by omega)) (fun t5 y5 h=>?_)
          obtain ⟨t5le,rfl⟩:=h
          refine Uf.iteD (nb - 1 - t5 > 0) (fun _=>Iff.rfl) (fun k50=>?_) (fun k50=>?_)
          · refine Uf.iteD (t5=1) (fun d=>by exact beq_iff_eq) (fun _=>?_) (fun n5=>?_)
            · exact Uf.ret' (.done (some (q.extract 0 (t5)++p.extract 0 (na)++((o).push k3++(q.extract t5 (nb - 1)).reverse).reverse),na,t5,(o).push k3++(q.extract t5 (nb - 1)).reverse,g - 1,na - t,nb - 1 - t5)) (fun d=>by simp only [cvS,cvH,Option.map_some,Option.map_none,mapK_app,mapK_push,mapK_ext,mapK_rev,mapK_size]) ⟨⟨fun z e=>(by cases e; exact ((hq.ext _ _).append (hp.ext _ _)).append (((lo).push k3n).append (hq.ext t5 (nb - 1)).rev).rev),fun e=>(by cases e)⟩,sx2⟩
            refine Uf.iteD (t5=0) (fun d=>by exact beq_iff_eq) (fun _=>?_) (fun n7=>?_)
            · exact Uf.ret' (.done (some (p.extract 0 (na)++q.extract 0 (t5)++((o).push k3++(q.extract t5 (nb - 1)).reverse).reverse),na,t5,(o).push k3++(q.extract t5 (nb - 1)).reverse,g - 1,na - t,nb - 1 - t5)) (fun d=>by simp only [cvS,cvH,Option.map_some,Option.map_none,mapK_app,mapK_push,mapK_ext,mapK_rev,mapK_size]) ⟨⟨fun z e=>(by cases e; exact ((hp.ext _ _).append (hq.ext _ _)).append (((lo).push k3n).append (hq.ext t5 (nb - 1)).rev).rev),fun e=>(by cases e)⟩,sx2⟩
            refine Uf.bind (fun d k=>kas_item d.2 k) _ (Uf.elemK hp (i:=na - 1) (by omega)) (fun k6 y6 h=>?_)
            obtain ⟨k6n,rfl⟩:=h
            refine Uf.iteD (na - 1=0) (fun d=>by exact beq_iff_eq) (fun _=>?_) (fun n6=>?_)
            · exact Uf.ret' (.done (some (p.extract 0 (na - 1)++q.extract 0 (t5)++(((o).push k3++(q.extract t5 (nb - 1)).reverse).push k6).reverse),na - 1,t5,((o).push k3++(q.extract t5 (nb - 1)).reverse).push k6,g - 1,na - t,nb - 1 - t5)) (fun d=>by simp only [cvS,cvH,Option.map_some,Option.map_none,mapK_app,mapK_push,mapK_ext,mapK_rev,mapK_size]) ⟨⟨fun z e=>(by cases e; exact ((hp.ext _ _).append (hq.ext _ _)).append ((((lo).push k3n).append (hq.ext t5 (nb - 1)).rev).push k6n).rev),fun e=>(by cases e)⟩,sx2⟩
            refine Uf.iteD ((decide (na - t<7) && decide (nb - 1 - t5<7))=true) (fun _=>Iff.rfl) (fun _=>?_) (fun _=>?_)
            · exact Uf.ret' (.done (none,na - 1,t5,((o).push k3++(q.extract t5 (nb - 1)).reverse).push k6,g - 1,na - t,nb - 1 - t5)) (fun d=>by simp only [cvS,cvH,Option.map_some,Option.map_none,mapK_app,mapK_push,mapK_ext,mapK_rev,mapK_size]) ⟨⟨fun z e=>(by cases e),fun _=>⟨(((lo).push k3n).append (hq.ext t5 (nb - 1)).rev).push k6n,⟨by show 1≤na - 1; omega,by show na - 1≤p.size; omega⟩,⟨by show 2≤t5; omega,by show t5≤q.size; omega⟩,by show i+2+(na - 1)+(t5)≤_; omega⟩⟩,sx2⟩
            · exact Uf.ret' (.yield (none,na - 1,t5,((o).push k3++(q.extract t5 (nb - 1)).reverse).push k6,g - 1,na - t,nb - 1 - t5)) (fun d=>by simp only [cvS,cvH,Option.map_some,Option.map_none,mapK_app,mapK_push,mapK_ext,mapK_rev,mapK_size]) ⟨⟨rfl,(((lo).push k3n).append (hq.ext t5 (nb - 1)).rev).push k6n,⟨by show 1≤na - 1; omega,by show na - 1≤p.size; omega⟩,⟨by show 2≤t5; omega,by show t5≤q.size; omega⟩,by show i+2+(na - 1)+(t5)≤_; omega⟩,sx2⟩
          · skip
            refine Uf.bind (fun d k=>kas_item d.2 k) _ (Uf.elemK hp (i:=na - 1) (by omega)) (fun k6 y6 h=>?_)
            obtain ⟨k6n,rfl⟩:=h
            refine Uf.iteD (na - 1=0) (fun d=>by exact beq_iff_eq) (fun _=>?_) (fun n6=>?_)
            · exact Uf.ret' (.done (some (p.extract 0 (na - 1)++q.extract 0 ((nb - 1))++(((o).push k3).push k6).reverse),na - 1,(nb - 1),((o).push k3).push k6,g - 1,na - t,nb - 1 - t5)) (fun d=>by simp only [cvS,cvH,Option.map_some,Option.map_none,mapK_app,mapK_push,mapK_ext,mapK_rev,mapK_size]) ⟨⟨fun z e=>(by cases e; exact ((hp.ext _ _).append (hq.ext _ _)).append (((lo).push k3n).push k6n).rev),fun e=>(by cases e)⟩,sx2⟩
            refine Uf.iteD ((decide (na - t<7) && decide (nb - 1 - t5<7))=true) (fun _=>Iff.rfl) (fun _=>?_) (fun _=>?_)
            · exact Uf.ret' (.done (none,na - 1,(nb - 1),((o).push k3).push k6,g - 1,na - t,nb - 1 - t5)) (fun d=>by simp only [cvS,cvH,Option.map_some,Option.map_none,mapK_app,mapK_push,mapK_ext,mapK_rev,mapK_size]) ⟨⟨fun z e=>(by cases e),fun _=>⟨((lo).push k3n).push k6n,⟨by show 1≤na - 1; omega,by show na - 1≤p.size; omega⟩,⟨by show 2≤(nb - 1); omega,by show (nb - 1)≤q.size; omega⟩,by show i+2+(na - 1)+((nb - 1))≤_; omega⟩⟩,sx2⟩
            · exact Uf.ret' (.yield (none,na - 1,(nb - 1),((o).push k3).push k6,g - 1,na - t,nb - 1 - t5)) (fun d=>by simp only [cvS,cvH,Option.map_some,Option.map_none,mapK_app,mapK_push,mapK_ext,mapK_rev,mapK_size]) ⟨⟨rfl,((lo).push k3n).push k6n,⟨by show 1≤na - 1; omega,by show na - 1≤p.size; omega⟩,⟨by show 2≤(nb - 1); omega,by show (nb - 1)≤q.size; omega⟩,by show i+2+(na - 1)+((nb - 1))≤_; omega⟩,sx2⟩
      · skip
        refine Uf.bind (fun _ u=>u) _ (Uf.smgD (g) (fun _=>rfl)) (fun _ z e=>?_)
        have sx2:=sx.trans e
        clear e
        refine Uf.bind (fun d k=>kas_item d.2 k) _ (Uf.elemK hq (i:=nb - 1) (by omega)) (fun k1 y1 h=>?_)
        obtain ⟨k1n,rfl⟩:=h
        refine Uf.bind (fun _ (k:Nat)=>some k) _ (Uf.galK (base:=0) na (na - 1) (fun _=>rfl) (fun _=>rfl) k1n hp (by omega) (by omega)) (fun t y2 h=>?_)
        obtain ⟨tle,rfl⟩:=h
        refine Uf.iteD (na - t > 0) (fun _=>Iff.rfl) (fun k00=>?_) (fun k00=>?_)
        · refine Uf.iteD (t=0) (fun d=>by exact beq_iff_eq) (fun _=>?_) (fun n1=>?_)
          · exact Uf.ret' (.done (some (p.extract 0 (t)++q.extract 0 (nb)++(o++(p.extract t na).reverse).reverse),t,nb,o++(p.extract t na).reverse,g,na - t,bc)) (fun d=>by simp only [cvS,cvH,Option.map_some,Option.map_none,mapK_app,mapK_push,mapK_ext,mapK_rev,mapK_size]) ⟨⟨fun z e=>(by cases e; exact ((hp.ext _ _).append (hq.ext _ _)).append (lo.append (hp.ext t na).rev).rev),fun e=>(by cases e)⟩,sx2⟩
          refine Uf.bind (fun d k=>kas_item d.2 k) _ (Uf.elemK hq (i:=nb - 1) (by omega)) (fun k3 y3 h=>?_)
          obtain ⟨k3n,rfl⟩:=h
          refine Uf.iteD (nb - 1=1) (fun d=>by exact beq_iff_eq) (fun _=>?_) (fun n3=>?_)
          · exact Uf.ret' (.done (some (q.extract 0 (nb - 1)++p.extract 0 (t)++((o++(p.extract t na).reverse).push k3).reverse),t,nb - 1,(o++(p.extract t na).reverse).push k3,g,na - t,bc)) (fun d=>by simp only [cvS,cvH,Option.map_some,Option.map_none,mapK_app,mapK_push,mapK_ext,mapK_rev,mapK_size]) ⟨⟨fun z e=>(by cases e; exact ((hq.ext _ _).append (hp.ext _ _)).append ((lo.append (hp.ext t na).rev).push k3n).rev),fun e=>(by cases e)⟩,sx2⟩
          refine Uf.bind (fun d k=>kas_item d.2 k) _ (Uf.elemK hp (i:=t - 1) (by omega)) (fun k4 y4 h=>?_)
          obtain ⟨k4n,rfl⟩:=h
          refine Uf.bind (fun _ (k:Nat)=>some k) _ (Uf.galK (base:=0) (nb - 1) (nb - 1 - 1) (fun _=>rfl) (fun _=>rfl) k4n hq (by omega) (by omega)) (fun t5 y5 h=>?_)
          obtain ⟨t5le,rfl⟩:=h
          refine Uf.iteD (nb - 1 - t5 > 0) (fun _=>Iff.rfl) (fun k50=>?_) (fun k50=>?_)
          · refine Uf.iteD (t5=1) (fun d=>by exact beq_iff_eq) (fun _=>?_) (fun n5=>?_)
            · exact Uf.ret' (.done (some (q.extract 0 (t5)++p.extract 0 (t)++((o++(p.extract t na).reverse).push k3++(q.extract t5 (nb - 1)).reverse).reverse),t,t5,(o++(p.extract t na).reverse).push k3++(q.extract t5 (nb - 1)).reverse,g,na - t,nb - 1 - t5)) (fun d=>by simp only [cvS,cvH,Option.map_some,Option.map_none,mapK_app,mapK_push,mapK_ext,mapK_rev,mapK_size]) ⟨⟨fun z e=>(by cases e; exact ((hq.ext _ _).append (hp.ext _ _)).append (((lo.append (hp.ext t na).rev).push k3n).append (hq.ext t5 (nb - 1)).rev).rev),fun e=>(by cases e)⟩,sx2⟩
            refine Uf.iteD (t5=0) (fun d=>by exact beq_iff_eq) (fun _=>?_) (fun n7=>?_)
            · exact Uf.ret' (.done (some (p.extract 0 (t)++q.extract 0 (t5)++((o++(p.extract t na).reverse).push k3++(q.extract t5 (nb - 1)).reverse).reverse),t,t5,(o++(p.extract t na).reverse).push k3++(q.extract t5 (nb - 1)).reverse,g,na - t,nb - 1 - t5)) (fun d=>by simp only [cvS,cvH,Option.map_some,Option.map_none,mapK_app,mapK_push,mapK_ext,mapK_rev,mapK_size]) ⟨⟨fun z e=>(by cases e; exact ((hp.ext _ _).append (hq.ext _ _)).append (((lo.append (hp.ext t na).rev).push k3n).append (hq.ext t5 (nb - 1)).rev).rev),fun e=>(by cases e)⟩,sx2⟩
            refine Uf.bind (fun d k=>kas_item d.2 k) _ (Uf.elemK hp (i:=t - 1) (by omega)) (fun k6 y6 h=>?_)
            obtain ⟨k6n,rfl⟩:=h
            refine Uf.iteD (t - 1=0) (fun d=>by exact beq_iff_eq) (fun _=>?_) (fun n6=>?_)
            · exact Uf.ret' (.done (some (p.extract 0 (t - 1)++q.extract 0 (t5)++(((o++(p.extract t na).reverse).push k3++(q.extract t5 (nb - 1)).reverse).push k6).reverse),t - 1,t5,((o++(p.extract t na).reverse).push k3++(q.extract t5 (nb - 1)).reverse).push k6,g,na - t,nb - 1 - t5)) (fun d=>by simp only [cvS,cvH,Option.map_some,Option.map_none,mapK_app,mapK_push,mapK_ext,mapK_rev,mapK_size]) ⟨⟨fun z e=>(by cases e; exact ((hp.ext _ _).append (hq.ext _ _)).append ((((lo.append (hp.ext t na).rev).push k3n).append (hq.ext t5 (nb - 1)).rev).push k6n).rev),fun e=>(by cases e)⟩,sx2⟩
            refine Uf.iteD ((decide (na - t<7) && decide (nb - 1 - t5<7))=true) (fun _=>Iff.rfl) (fun _=>?_) (fun _=>?_)
            · exact Uf.ret' (.done (none,t - 1,t5,((o++(p.extract t na).reverse).push k3++(q.extract t5 (nb - 1)).reverse).push k6,g,na - t,nb - 1 - t5)) (fun d=>by simp only [cvS,cvH,Option.map_some,Option.map_none,mapK_app,mapK_push,mapK_ext,mapK_rev,mapK_size]) ⟨⟨fun z e=>(by cases e),fun _=>⟨(((lo.append (hp.ext t na).rev).push k3n).append (hq.ext t5 (nb - 1)).rev).push k6n,⟨by show 1≤t - 1; omega,by show t - 1≤p.size; omega⟩,⟨by show 2≤t5; omega,by show t5≤q.size; omega⟩,by show i+2+(t - 1)+(t5)≤_; omega⟩⟩,sx2⟩
            · exact Uf.ret' (.yield (none,t - 1,t5,((o++(p.extract t na).reverse).push k3++(q.extract t5 (nb - 1)).reverse).push k6,g,na - t,nb - 1 - t5)) (fun d=>by simp only [cvS,cvH,Option.map_some,Option.map_none,mapK_app,mapK_push,mapK_ext,mapK_rev,mapK_size]) ⟨⟨rfl,(((lo.append (hp.ext t na).rev).push k3n).append (hq.ext t5 (nb - 1)).rev).push k6n,⟨by show 1≤t - 1; omega,by show t - 1≤p.size; omega⟩,⟨by show 2≤t5; omega,by show t5≤q.size; omega⟩,by show i+2+(t - 1)+(t5)≤_; omega⟩,sx2⟩
          · skip
            refine Uf.bind (fun d k=>kas_item d.2 k) _ (Uf.elemK hp (i:=t - 1) (by omega)) (fun k6 y6 h=>?_)
            obtain ⟨k6n,rfl⟩:=h
            refine Uf.iteD (t - 1=0) (fun d=>by exact beq_iff_eq) (fun _=>?_) (fun n6=>?_)
            · exact Uf.ret' (.done (some (p.extract 0 (t - 1)++q.extract 0 ((nb - 1))++(((o++(p.extract t na).reverse).push k3).push k6).reverse),t - 1,(nb - 1),((o++(p.extract t na).reverse).push k3).push k6,g,na - t,nb - 1 - t5)) (fun d=>by simp only [cvS,cvH,Option.map_some,Option.map_none,mapK_app,mapK_push,mapK_ext,mapK_rev,mapK_size]) ⟨⟨fun z e=>(by cases e; exact ((hp.ext _ _).append (hq.ext _ _)).append (((lo.append (hp.ext t na).rev).push k3n).push k6n).rev),fun e=>(by cases e)⟩,sx2⟩
            refine Uf.iteD ((decide (na - t<7) && decide (nb - 1 - t5<7))=true) (fun _=>Iff.rfl) (fun _=>?_) (fun _=>?_)
            · exact Uf.ret' (.done (none,t - 1,(nb - 1),((o++(p.extract t na).reverse).push k3).push k6,g,na - t,nb - 1 - t5)) (fun d=>by simp only [cvS,cvH,Option.map_some,Option.map_none,mapK_app,mapK_push,mapK_ext,mapK_rev,mapK_size]) ⟨⟨fun z e=>(by cases e),fun _=>⟨((lo.append (hp.ext t na).rev).push k3n).push k6n,⟨by show 1≤t - 1; omega,by show t - 1≤p.size; omega⟩,⟨by show 2≤(nb - 1); omega,by show (nb - 1)≤q.size; omega⟩,by show i+2+(t - 1)+((nb - 1))≤_; omega⟩⟩,sx2⟩
            · exact Uf.ret' (.yield (none,t - 1,(nb - 1),((o++(p.extract t na).reverse).push k3).push k6,g,na - t,nb - 1 - t5)) (fun d=>by simp only [cvS,cvH,Option.map_some,Option.map_none,mapK_app,mapK_push,mapK_ext,mapK_rev,mapK_size]) ⟨⟨rfl,((lo.append (hp.ext t na).rev).push k3n).push k6n,⟨by show 1≤t - 1; omega,by show t - 1≤p.size; omega⟩,⟨by show 2≤(nb - 1); omega,by show (nb - 1)≤q.size; omega⟩,by show i+2+(t - 1)+((nb - 1))≤_; omega⟩,sx2⟩
        · skip
          refine Uf.bind (fun d k=>kas_item d.2 k) _ (Uf.elemK hq (i:=nb - 1) (by omega)) (fun k3 y3 h=>?_)
          obtain ⟨k3n,rfl⟩:=h
          refine Uf.iteD (nb - 1=1) (fun d=>by exact beq_iff_eq) (fun _=>?_) (fun n3=>?_)
          · exact Uf.ret' (.done (some (q.extract 0 (nb - 1)++p.extract 0 (na)++((o).push k3).reverse),na,nb - 1,(o).push k3,g,na - t,bc)) (fun d=>by simp only [cvS,cvH,Option.map_some,Option.map_none,mapK_app,mapK_push,mapK_ext,mapK_rev,mapK_size]) ⟨⟨fun z e=>(by cases e; exact ((hq.ext _ _).append (hp.ext _ _)).append ((lo).push k3n).rev),fun e=>(by cases e)⟩,sx2⟩
          refine Uf.bind (fun d k=>kas_item d.2 k) _ (Uf.elemK hp (i:=na - 1) (by omega)) (fun k4 y4 h=>?_)
          obtain ⟨k4n,rfl⟩:=h
          refine Uf.bind (fun _ (k:Nat)=>some k) _ (Uf.galK (base:=0) (nb - 1) (nb - 1 - 1) (fun _=>rfl) (fun _=>rfl) k4n hq (by omega) (by omega)) (fun t5 y5 h=>?_)
          obtain ⟨t5le,rfl⟩:=h
          refine Uf.iteD (nb - 1 - t5 > 0) (fun _=>Iff.rfl) (fun k50=>?_) (fun k50=>?_)
          · refine Uf.iteD (t5=1) (fun d=>by exact beq_iff_eq) (fun _=>?_) (fun n5=>?_)
            · exact Uf.ret' (.done (some (q.extract 0 (t5)++p.extract 0 (na)++((o).push k3++(q.extract t5 (nb - 1)).reverse).reverse),na,t5,(o).push k3++(q.extract t5 (nb - 1)).reverse,g,na - t,nb - 1 - t5)) (fun d=>by simp only [cvS,cvH,Option.map_some,Option.map_none,mapK_app,mapK_push,mapK_ext,mapK_rev,mapK_size]) ⟨⟨fun z e=>(by cases e; exact ((hq.ext _ _).append (hp.ext _ _)).append (((lo).push k3n).append (hq.ext t5 (nb - 1)).rev).rev),fun e=>(by cases e)⟩,sx2⟩
            refine Uf.iteD (t5=0) (fun d=>by exact beq_iff_eq) (fun _=>?_) (fun n7=>?_)
            · exact Uf.ret' (.done (some (p.extract 0 (na)++q.extract 0 (t5)++((o).push k3++(q.extract t5 (nb - 1)).reverse).reverse),na,t5,(o).push k3++(q.extract t5 (nb - 1)).reverse,g,na - t,nb - 1 - t5)) (fun d=>by simp only [cvS,cvH,Option.map_some,Option.map_none,mapK_app,mapK_push,mapK_ext,mapK_rev,mapK_size]) ⟨⟨fun z e=>(by cases e; exact ((hp.ext _ _).append (hq.ext _ _)).append (((lo).push k3n).append (hq.ext t5 (nb - 1)).rev).rev),fun e=>(by cases e)⟩,sx2⟩
            refine Uf.bind (fun d k=>kas_item d.2 k) _ (Uf.elemK hp (i:=na - 1) (by omega)) (fun k6 y6 h=>?_)
            obtain ⟨k6n,rfl⟩:=h
            refine Uf.iteD (na - 1=0) (fun d=>by exact beq_iff_eq) (fun _=>?_) (fun n6=>?_)
            · exact Uf.ret' (.done (some (p.extract 0 (na - 1)++q.extract 0 (t5)++(((o).push k3++(q.extract t5 (nb - 1)).reverse).push k6).reverse),na - 1,t5,((o).push k3++(q.extract t5 (nb - 1)).reverse).push k6,g,na - t,nb - 1 - t5)) (fun d=>by simp only [cvS,cvH,Option.map_some,Option.map_none,mapK_app,mapK_push,mapK_ext,mapK_rev,mapK_size]) ⟨⟨fun z e=>(by cases e; exact ((hp.ext _ _).append (hq.ext _ _)).append ((((lo).push k3n).append (hq.ext t5 (nb - 1)).rev).push k6n).rev),fun e=>(by cases e)⟩,sx2⟩
            refine Uf.iteD ((decide (na - t<7) && decide (nb - 1 - t5<7))=true) (fun _=>Iff.rfl) (fun _=>?_) (fun _=>?_)
            · exact Uf.ret' (.done (none,na - 1,t5,((o).push k3++(q.extract t5 (nb - 1)).reverse).push k6,g,na - t,nb - 1 - t5)) (fun d=>by simp only [cvS,cvH,Option.map_some,Option.map_none,mapK_app,mapK_push,mapK_ext,mapK_rev,mapK_size]) ⟨⟨fun z e=>(by cases e),fun _=>⟨(((lo).push k3n).append (hq.ext t5 (nb - 1)).rev).push k6n,⟨by show 1≤na - 1; omega,by show na - 1≤p.size; omega⟩,⟨by show 2≤t5; omega,by show t5≤q.size; omega⟩,by show i+2+(na - 1)+(t5)≤_; omega⟩⟩,sx2⟩
            · exact Uf.ret' (.yield (none,na - 1,t5,((o).push k3++(q.extract t5 (nb - 1)).reverse).push k6,g,na - t,nb - 1 - t5)) (fun d=>by simp only [cvS,cvH,Option.map_some,Option.map_none,mapK_app,mapK_push,mapK_ext,mapK_rev,mapK_size]) ⟨⟨rfl,(((lo).push k3n).append (hq.ext t5 (nb - 1)).rev).push k6n,⟨by show 1≤na - 1; omega,by show na - 1≤p.size; omega⟩,⟨by show 2≤t5; omega,by show t5≤q.size; omega⟩,by show i+2+(na - 1)+(t5)≤_; omega⟩,sx2⟩
          · skip
            refine Uf.bind (fun d k=>kas_item d.2 k) _ (Uf.elemK hp (i:=na - 1) (by omega)) (fun k6 y6 h=>?_)
            obtain ⟨k6n,rfl⟩:=h
            refine Uf.iteD (na - 1=0) (fun d=>by exact beq_iff_eq) (fun _=>?_) (fun n6=>?_)
            · exact Uf.ret' (.done (some (p.extract 0 (na - 1)++q.extract 0 ((nb - 1))++(((o).push k3).push k6).reverse),na - 1,(nb - 1),((o).push k3).push k6,g,na - t,nb - 1 - t5)) (fun d=>by simp only [cvS,cvH,Option.map_some,Option.map_none,mapK_app,mapK_push,mapK_ext,mapK_rev,mapK_size]) ⟨⟨fun z e=>(by cases e; exact ((hp.ext _ _).append (hq.ext _ _)).append (((lo).push k3n).push k6n).rev),fun e=>(by cases e)⟩,sx2⟩
            refine Uf.iteD ((decide (na - t<7) && decide (nb - 1 - t5<7))=true) (fun _=>Iff.rfl) (fun _=>?_) (fun _=>?_)
            · exact Uf.ret' (.done (none,na - 1,(nb - 1),((o).push k3).push k6,g,na - t,nb - 1 - t5)) (fun d=>by simp only [cvS,cvH,Option.map_some,Option.map_none,mapK_app,mapK_push,mapK_ext,mapK_rev,mapK_size]) ⟨⟨fun z e=>(by cases e),fun _=>⟨((lo).push k3n).push k6n,⟨by show 1≤na - 1; omega,by show na - 1≤p.size; omega⟩,⟨by show 2≤(nb - 1); omega,by show (nb - 1)≤q.size; omega⟩,by show i+2+(na - 1)+((nb - 1))≤_; omega⟩⟩,sx2⟩
            · exact Uf.ret' (.yield (none,na - 1,(nb - 1),((o).push k3).push k6,g,na - t,nb - 1 - t5)) (fun d=>by simp only [cvS,cvH,Option.map_some,Option.map_none,mapK_app,mapK_push,mapK_ext,mapK_rev,mapK_size]) ⟨⟨rfl,((lo).push k3n).push k6n,⟨by show 1≤na - 1; omega,by show na - 1≤p.size; omega⟩,⟨by show 2≤(nb - 1); omega,by show (nb - 1)≤q.size; omega⟩,by show i+2+(na - 1)+((nb - 1))≤_; omega⟩,sx2⟩
    · obtain ⟨⟨h1,h2,h3,h4,h5⟩,h6⟩:=h
      exact ⟨⟨fun z e=>(by rw [h1] at e; cases e),fun _=>⟨h2,h3,h4,h5⟩⟩,h6⟩
    obtain ⟨⟨h1,h2⟩,sx⟩:=h
    obtain ⟨r,na,nb,o,g,ac,bc⟩:=a
    cases r with
    | some r=>exact Uf.ret' (.done (some r,na,nb,o,g)) (fun d=>by simp only [cvS,cvH,Option.map_some,Option.map_none,mapK_app,mapK_push,mapK_ext,mapK_rev,mapK_size]) ⟨⟨fun e=>(by cases e),h1⟩,sx⟩
    | none =>
    obtain ⟨lo,⟨a1,a2⟩,⟨b1,b2⟩,b3⟩:=h2 rfl
    refine Uf.bind (fun _ u=>u) (fun _ z=>Sx y z) (Uf.smgD (g+1) (fun _=>rfl)) (fun _ z e=>?_)
    exact Uf.ret' (.yield (none,na,nb,o,g+1)) (fun d=>by simp only [cvS,cvH,Option.map_some,Option.map_none,mapK_app,mapK_push,mapK_ext,mapK_rev,mapK_size]) ⟨⟨rfl,lo,⟨a1,a2⟩,⟨b1,b2⟩,by show i+1+1+na+nb≤_; omega⟩,sx.trans e⟩
  · obtain ⟨⟨_,_,h1,h2,h3⟩,_⟩:=h
    omega
  · obtain ⟨⟨h1,h2⟩,h3⟩:=h
    obtain ⟨r,na,nb,o,g⟩:=a
    cases r with
    | none=>exact absurd rfl h1
    | some r=>exact Uf.ret' r (fun _=>rfl) ⟨h2 r rfl,h3⟩
end
end L2
namespace L2
open PySem PySem.Spec PySem.W PyProof.Rows
def RunsL:List (Nat×Nat×Nat)→Nat→Nat→Prop
  | [],lo,hi=>lo=hi
  | (s,l,_)::r,lo,hi=>s=lo∧1≤l∧RunsL r (lo+l) hi
theorem RunsL.le:∀ {r:List (Nat×Nat×Nat)} {lo hi:Nat},RunsL r lo hi→lo≤hi
  | [],_,_,h=>Nat.le_of_eq h
  | (s,l,w)::r,lo,hi,h=>by
    have:=RunsL.le h.2.2
    omega
theorem RunsL.push:∀ {r:List (Nat×Nat×Nat)} {lo hi l w:Nat},RunsL r lo hi→1≤l→RunsL (r++[(hi,l,w)]) lo (hi+l)
  | [],lo,hi,l,w,h,h1=>by
    have e:lo=hi:=h
    subst e
    exact ⟨rfl,h1,rfl⟩
  | (s,k,v)::r,lo,hi,l,w,h,h1=>⟨h.1,h.2.1,RunsL.push h.2.2 h1⟩
theorem RunsL.two:∀ {r:List (Nat×Nat×Nat)} {lo hi i:Nat} {sa na wa sb nb wb:Nat},RunsL r lo hi→r[i]?=some (sa,na,wa)→r[i+1]?=some (sb,nb,wb)→sb=sa+na∧1≤na∧1≤nb∧sb+nb≤hi∧RunsL ((r.set i (sa,na+nb,wa)).eraseIdx (i+1)) lo hi
  | [],_,_,_,_,_,_,_,_,_,_,h1,_=>by cases h1
  | [_],_,_,i,_,_,_,_,_,_,_,_,h2=>by simp at h2
  | (s,l,v)::(s',l',v')::r,lo,hi,0,sa,na,wa,sb,nb,wb,h,h1,h2=>by
    obtain ⟨rfl,rfl,rfl⟩:s=sa∧l=na∧v=wa:=by simpa using h1
    obtain ⟨rfl,rfl,rfl⟩:s'=sb∧l'=nb∧v'=wb:=by simpa using h2
    obtain ⟨e1,e2,e3,e4,e5⟩:=h
    have:=RunsL.le e5
    refine ⟨by omega,e2,e4,by omega,?_⟩
    show RunsL ((s,l+l',v)::r) lo hi
    exact ⟨e1,by omega,by rw [← Nat.add_assoc]; exact e5⟩
  | z::z'::r,lo,hi,i+1,sa,na,wa,sb,nb,wb,h,h1,h2=>by
    obtain ⟨s,l,v⟩:=z
    obtain ⟨e1,e2,e3⟩:=h
    obtain ⟨a1,a2,a3,a4,a5⟩:=RunsL.two (r:=z'::r) (i:=i) e3 (by simpa using h1) (by simpa using h2)
    exact ⟨a1,a2,a3,a4,e1,e2,a5⟩
theorem RunsL.mod:∀ {r:List (Nat×Nat×Nat)} {lo hi:Nat} (i w:Nat),RunsL r lo hi→RunsL (r.modify i fun z=>(z.1,z.2.1,w)) lo hi
  | [],_,_,_,_,h=>by simpa using h
  | (s,l,v)::r,lo,hi,0,w,h=>⟨h.1,h.2.1,h.2.2⟩
  | (s,l,v)::r,lo,hi,i+1,w,h=>⟨h.1,h.2.1,RunsL.mod i w h.2.2⟩
def putAll (o:Nat) (p:Array Nat) (l:List (Nat×Nat)):Array Nat:=l.foldl (fun a z=>a.setIfInBounds (o+z.2) z.1) p
theorem putAll_map (d:Dt) (o:Nat):∀ (l:List Nat) (k:Nat) (p:Array Nat),((l.map (kas_item d.2)).zipIdx k).foldl (fun a z=>a.setIfInBounds (o+z.2) z.1) (mapK d p)=mapK d (putAll o p (l.zipIdx k))
  | [],_,_=>rfl
  | v::l,k,p=>by
    show (((l.map (kas_item d.2)).zipIdx (k+1)).foldl _ ((mapK d p).setIfInBounds (o+k) (kas_item d.2 v)))=mapK d (putAll o (p.setIfInBounds (o+k) v) (l.zipIdx (k+1)))
    rw [← putAll_map d o l (k+1)]
    unfold mapK
    rw [Array.map_setIfInBounds]
theorem putAll_low {n o:Nat}:∀ (l:List Nat) (k:Nat) (p:Array Nat),LowP n p→(∀ v∈l,v<n)→LowP n (putAll o p (l.zipIdx k))∧(putAll o p (l.zipIdx k)).size=p.size
  | [],_,_,h,_=>⟨h,rfl⟩
  | v::l,k,p,h,hl=>by
    have h2:LowP n (p.setIfInBounds (o+k) v):=fun u hu=>by
      rcases Array.mem_or_eq_of_mem_setIfInBounds hu with z | z
      · exact h u z
      · rw [z]; exact hl v List.mem_cons_self
    obtain ⟨a,b⟩:=putAll_low (n:=n) (o:=o) l (k+1) _ h2 fun u hu=>hl u (List.mem_cons_of_mem _ hu)
    exact ⟨a,b.trans (Array.size_setIfInBounds ..)⟩
theorem Uf.put {x y:Ix} {o:Nat} {r:Array Nat} {f:Dt→SortSt→SortSt} (h:Sx x y) (e:∀ d,f d (stI d y)=SortSt.mk' d.1 ((mapK d r).toList.zipIdx.foldl (fun a z=>a.setIfInBounds (o+z.2) z.1) (mapK d y.1)) y.2.1 y.2.2 none) {n:Nat} {c:Nat→Nat→Bool} :
    Uf n c (fun d=>(modify (f d):StateT SortSt Sem Unit)) (fun _ u=>u) y (fun _ z=>z=(putAll o x.1 r.toList.zipIdx,x.2.1,y.2.2)):=Uf.modify_ (putAll o x.1 r.toList.zipIdx,x.2.1,y.2.2) (fun d=>by
  rw [e d,h.1,h.2]
  show SortSt.mk' d.1 _ _ _ _=SortSt.mk' d.1 (mapK d (putAll o x.1 (r.toList.zipIdx 0))) _ _ _
  rw [← putAll_map d o r.toList 0 x.1]
  unfold mapK
  rw [Array.toList_map]) rfl
structure SI (n hi:Nat) (x:Ix):Prop where
  low:LowP n x.1
  size:x.1.size=n
  runs:RunsL x.2.1.toList 0 hi
section
variable {n:Nat} {c:Nat→Nat→Bool} {x:Ix}
theorem Uf.mAt_ {i hi:Nat} (hx:SI n hi x) (hn:hi≤n) (h1:i+1<x.2.1.size):Uf n c (fun _=>mergeAt' i) (fun _ (b:Bool)=>b) x (fun b x'=>b=true∧SI n hi x'∧x'.2.1.size+1=x.2.1.size):=by
  obtain ⟨⟨sa,na,wa⟩,e1⟩:∃ z,x.2.1[i]?=some z:=⟨x.2.1[i],Array.getElem?_eq_getElem _⟩
  obtain ⟨⟨sb,nb,wb⟩,e2⟩:∃ z,x.2.1[i+1]?=some z:=⟨x.2.1[i+1],Array.getElem?_eq_getElem _⟩
  obtain ⟨a1,a2,a3,a4,a5⟩:=hx.runs.two (i:=i) (by rw [Array.getElem?_toList]; exact e1) (by rw [Array.getElem?_toList]; exact e2)
  refine Uf.bind stI _ Uf.get_ (fun a x' h=>?_)
  obtain ⟨rfl,rfl⟩:=h
  dsimp only [stI,SortSt.mk']
  rw [e1,e2]
  dsimp only
  generalize e2p:(x'.2.1.setIfInBounds i (sa,na+nb,wa)).eraseIdxIfInBounds (i+1)=pend
  have rp:RunsL pend.toList 0 hi:=by
    rw [← e2p,Array.toList_eraseIdxIfInBounds,Array.toList_setIfInBounds]
    exact a5
  have zp:pend.size+1=x'.2.1.size:=by
    rw [← Array.length_toList,← e2p,Array.toList_eraseIdxIfInBounds,Array.toList_setIfInBounds,List.length_eraseIdx,List.length_set,Array.length_toList,if_pos h1]
    omega
  have hl:=hx.low
  have hz:=hx.size
  refine Uf.bind (fun _ u=>u) (fun _ y=>y=(x'.1,pend,x'.2.2)) (Uf.set_ (x'.1,pend,x'.2.2) (fun d=>rfl) rfl) (fun _ y e=>?_)
  have sy:Sx (x'.1,pend,x'.2.2) y:=by rw [e]; exact Sx.refl _
  have hy:SI n hi y:=by rw [e]; exact ⟨hl,hz,rp⟩
  have zy:y.2.1.size+1=x'.2.1.size:=by rw [e]; exact zp
  clear e
  refine Uf.bind (fun d k=>kas_item d.2 k) _ (Uf.elemK hl (i:=sb) (by omega)) (fun k1 y1 h=>?_)
  obtain ⟨k1n,rfl⟩:=h
  refine Uf.bind (fun _ (k:Nat)=>some k) _ (Uf.galK (base:=sa) na 0 (fun _=>rfl) (fun _=>rfl) k1n hl (by omega) (by omega)) (fun k y2 h=>?_)
  obtain ⟨kle,rfl⟩:=h
  refine Uf.iteD (na - k=0) (fun d=>beq_iff_eq) (fun _=>?_) (fun k0=>?_)
  · exact Uf.ret' true (fun _=>rfl) ⟨rfl,hy,zy⟩
  refine Uf.bind (fun d k=>kas_item d.2 k) _ (Uf.elemK hl (i:=sa+k+(na - k) - 1) (by omega)) (fun k2 y3 h=>?_)
  obtain ⟨k2n,rfl⟩:=h
  refine Uf.bind (fun _ (k:Nat)=>some k) _ (Uf.galK (base:=sb) nb (nb - 1) (fun _=>rfl) (fun _=>rfl) k2n hl (by omega) (by omega)) (fun nb2 y4 h=>?_)
  obtain ⟨nble,rfl⟩:=h
  refine Uf.iteD (nb2=0) (fun d=>beq_iff_eq) (fun _=>?_) (fun n0=>?_)
  · exact Uf.ret' true (fun _=>rfl) ⟨rfl,hy,zy⟩
  have sz1:1≤(x'.1.extract (sa+k) sb).size:=by rw [Array.size_extract]; omega
  have sz2:1≤(x'.1.extract sb (sb+nb2)).size:=by rw [Array.size_extract]; omega
  refine Uf.ite (fun _=>?_) (fun _=>?_)
  · refine Uf.bind mapK _ (Uf.eq (fun d=>by rw [← mapK_ext,← mapK_ext]; rfl) (Uf.mLo_ (hl.ext (sa+k) sb) (hl.ext sb (sb+nb2)) sz1 sz2)) (fun r y5 h=>?_)
    obtain ⟨lr,s5⟩:=h
    refine Uf.bind (fun _ u=>u) _ (Uf.put (o:=sa+k) (r:=r) (sy.trans s5) (fun d=>rfl)) (fun _ y6 e=>?_)
    obtain ⟨l1,l2⟩:=putAll_low (n:=n) (o:=sa+k) r.toList 0 x'.1 hl fun v hv=>lr v (Array.mem_toList_iff.mp hv)
    have hy6:SI n hi y6:=by rw [e]; exact ⟨l1,l2.trans hz,rp⟩
    have zy6:y6.2.1.size+1=x'.2.1.size:=by rw [e]; exact zp
    clear e
    refine Uf.bind stI _ Uf.get_ (fun a x2 h=>?_)
    obtain ⟨rfl,rfl⟩:=h
    exact Uf.ret' true (fun _=>rfl) ⟨rfl,hy6,zy6⟩
  · refine Uf.bind mapK _ (Uf.eq (fun d=>by rw [← mapK_ext,← mapK_ext]; rfl) (Uf.mHi_ (hl.ext (sa+k) sb) (hl.ext sb (sb+nb2)) sz1 sz2)) (fun r y5 h=>?_)
    obtain ⟨lr,s5⟩:=h
    refine Uf.bind (fun _ u=>u) _ (Uf.put (o:=sa+k) (r:=r) (sy.trans s5) (fun d=>rfl)) (fun _ y6 e=>?_)
    obtain ⟨l1,l2⟩:=putAll_low (n:=n) (o:=sa+k) r.toList 0 x'.1 hl fun v hv=>lr v (Array.mem_toList_iff.mp hv)
    have hy6:SI n hi y6:=by rw [e]; exact ⟨l1,l2.trans hz,rp⟩
    have zy6:y6.2.1.size+1=x'.2.1.size:=by rw [e]; exact zp
    clear e
    refine Uf.bind stI _ Uf.get_ (fun a x2 h=>?_)
    obtain ⟨rfl,rfl⟩:=h
    exact Uf.ret' true (fun _=>rfl) ⟨rfl,hy6,zy6⟩
end
end L2
namespace L2
open PySem PySem.Spec PySem.W PyProof.Rows
section
variable {n:Nat} {c:Nat→Nat→Bool} {x:Ix}
structure BI (n:Nat) (x:Ix):Prop where
  low:LowP n x.1
  size:x.1.size=n
theorem BI.of {p:Array Nat} {r:Array (Nat×Nat×Nat)×Nat} (h:Low n p):BI n (p,r):=⟨fun v hv=>by
  obtain ⟨i,hi,e⟩:=Array.mem_iff_getElem.mp hv
  have:=h.2 i
  rw [Array.getD,dif_pos hi] at this
  rw [← e]
  exact this,h.1⟩
theorem BI.to (h:BI n x) (n0:0<n):Low n x.1:=⟨h.size,fun i=>by
  by_cases hi:i<x.1.size
  · exact h.low.at i hi
  · rw [Array.getD,dif_neg hi]; exact n0⟩
theorem Uf.ltAt_ {i j:Nat} (hx:BI n x) (hi:i<n) (hj:j<n):Uf n c (fun _=>ltAt' i j) (fun _ (b:Bool)=>some b) x (fun _ x'=>x'=x):=by
  refine Uf.bind stI _ Uf.get_ (fun a x' h=>?_)
  obtain ⟨rfl,rfl⟩:=h
  refine Uf.bind (fun d k=>kas_item d.2 k) _ (Uf.elemK hx.low (i:=i) (by rw [hx.size]; exact hi)) (fun k1 y h=>?_)
  obtain ⟨k1n,rfl⟩:=h
  refine Uf.bind (fun d k=>kas_item d.2 k) _ (Uf.elemK hx.low (i:=j) (by rw [hx.size]; exact hj)) (fun k2 y h=>?_)
  obtain ⟨k2n,rfl⟩:=h
  exact (Uf.lt_ k1n k2n).mono fun _ _ z=>z.2
theorem Uf.rev_ {i j:Nat} (hx:BI n x) (n0:0<n):Uf n c (fun _=>reverseSlice' i j) (fun _ u=>u) x (fun _ x'=>BI n x'∧x'.2=x.2):=Uf.modify_ (kas_rev x.1 i j,x.2) (fun d=>by
  show SortSt.mk' d.1 (mirror (x.1.map (kas_item d.2)) i j ((j - i) / 2)) _ _ _=SortSt.mk' d.1 ((mirror x.1 i j ((j - i) / 2)).map (kas_item d.2)) _ _ _
  have e1:mirror (x.1.map (kas_item d.2)) i j ((j - i) / 2)=(mirror x.1 i j ((j - i) / 2)).map (kas_item d.2):=kas_swaps_map (kas_item d.2) (fun k=>i+k) (fun k=>j - 1 - k) _ x.1
  rw [e1]
  rfl) ⟨BI.of ((hx.to n0).rev i j),rfl⟩
theorem Uf.move_ {k l:Nat} (hx:BI n x) (n0:0<n):Uf n c (fun _=>moveDown' k l) (fun _ u=>u) x (fun _ x'=>BI n x'∧x'.2=x.2):=Uf.modify_ (bubble x.1 k (k - l),x.2) (fun d=>by
  show SortSt.mk' d.1 (bubble (x.1.map (kas_item d.2)) k (k - l)) _ _ _=SortSt.mk' d.1 ((bubble x.1 k (k - l)).map (kas_item d.2)) _ _ _
  have e1:bubble (x.1.map (kas_item d.2)) k (k - l)=(bubble x.1 k (k - l)).map (kas_item d.2):=kas_swaps_map (kas_item d.2) (fun i=>k - i) (fun i=>k - i - 1) _ x.1
  rw [e1]
  rfl) ⟨BI.of ((hx.to n0).bubble k (k - l)),rfl⟩
theorem Uf.count_ {lo nrem:Nat} (hx:BI n x) (h1:1≤nrem) (hn:lo+nrem≤n):Uf n c (fun _=>countRun' lo nrem) (fun _ (k:Nat)=>some k) x (fun k x'=>(1≤k∧k≤nrem)∧BI n x'∧x'.2=x.2):=by
  have n0:0<n:=by omega
  have hy:BI n x∧x.2=x.2:=⟨hx,rfl⟩
  refine Uf.bind (fun _ (a:Option (Option Nat)×Nat)=>a) (fun a y=>(a.1=none∧1≤a.2∧a.2≤nrem)∧BI n y∧y.2=x.2) (Uf.range_ (lo:=1) (hi:=nrem) (fun _ (a:Option (Option Nat)×Nat)=>a) (fun i a y=>(a.1=none∧a.2=i)∧BI n y∧y.2=x.2) _ (none,1) (fun _=>rfl) ⟨⟨rfl,rfl⟩,hy⟩ (fun i a y i1 i2 h=>?_) (fun a y h=>?_)) (fun a y h=>?_)
  · obtain ⟨⟨ha,hk⟩,hy⟩:=h
    obtain ⟨r,k⟩:=a
    cases ha
    dsimp only at hk
    subst hk
    refine Uf.bind (fun _ (b:Bool)=>some b) _ (Uf.ltAt_ (i:=lo+k) (j:=lo+k - 1) hy.1 (by omega) (by omega)) (fun b z e=>?_)
    subst e
    refine Uf.ite (fun _=>?_) (fun _=>?_)
    · exact Uf.ret' (.done (none,k)) (fun _=>rfl) ⟨⟨rfl,by show 1≤k; omega,by show k≤nrem; omega⟩,hy⟩
    · exact Uf.ret' (.yield (none,k+1)) (fun _=>rfl) ⟨⟨rfl,rfl⟩,hy⟩
  · obtain ⟨⟨ha,hk⟩,hy⟩:=h
    exact ⟨⟨ha,by omega,by omega⟩,hy⟩
  obtain ⟨⟨ha,k1,k2⟩,hy⟩:=h
  obtain ⟨r,k⟩:=a
  cases ha
  dsimp only at k1 k2
  refine Uf.iteD (k=nrem) (fun _=>beq_iff_eq) (fun _=>?_) (fun ne=>?_)
  · exact Uf.ret' k (fun _=>rfl) ⟨⟨k1,k2⟩,hy⟩
  refine Uf.ite (fun _=>?_) (fun _=>?_)
  · refine Uf.bind (fun _ (b:Bool)=>some b) _ (Uf.ltAt_ (i:=lo) (j:=lo+k - 1) hy.1 (by omega) (by omega)) (fun b z e=>?_)
    subst e
    refine Uf.ite (fun _=>?_) (fun _=>?_)
    · exact Uf.ret' k (fun _=>rfl) ⟨⟨k1,k2⟩,hy⟩
    · refine Uf.bind (fun _ u=>u) _ (Uf.rev_ hy.1 n0) (fun _ y h=>?_)
      replace hy:BI n y∧y.2=x.2:=⟨h.1,h.2.trans hy.2⟩
      clear h
      refine Uf.bind (fun _ u=>u) (fun _ z=>z=y) (Uf.rule_ rfl) (fun _ z e=>?_)
      subst e
      refine Uf.bind (fun _ (a:Option (Option Nat)×Nat×Nat)=>a) (fun a y=>(a.1=none∧1≤a.2.1∧a.2.1≤nrem)∧BI n y∧y.2=x.2) (Uf.range_ (fun _ (a:Option (Option Nat)×Nat×Nat)=>a) (fun i a y=>(a.1=none∧a.2.1=i)∧BI n y∧y.2=x.2) _ (none,k+1,0) (fun _=>rfl) ⟨⟨rfl,rfl⟩,hy⟩ (fun i a y i1 i2 h=>?_) (fun a y h=>?_)) (fun a y h=>?_)
      · obtain ⟨⟨ha,hk⟩,hy⟩:=h
        obtain ⟨r,k3,neq⟩:=a
        cases ha
        dsimp only at hk
        subst hk
        refine Uf.bind (fun _ (b:Bool)=>some b) _ (Uf.ltAt_ (i:=lo+k3) (j:=lo+k3 - 1) hy.1 (by omega) (by omega)) (fun b z e=>?_)
        subst e
        refine Uf.ite (fun _=>?_) (fun _=>?_)
        · refine Uf.ite (fun _=>?_) (fun _=>?_)
          · refine Uf.bind (fun _ u=>u) _ (Uf.rev_ hy.1 n0) (fun _ z h=>?_)
            exact Uf.ret' (.yield (none,k3+1,0)) (fun _=>rfl) ⟨⟨rfl,rfl⟩,h.1,h.2.trans hy.2⟩
          · exact Uf.ret' (.yield (none,k3+1,0)) (fun _=>rfl) ⟨⟨rfl,rfl⟩,hy⟩
        · refine Uf.bind (fun _ (b:Bool)=>some b) _ (Uf.ltAt_ (i:=lo+k3 - 1) (j:=lo+k3) hy.1 (by omega) (by omega)) (fun b z e=>?_)
          subst e
          refine Uf.ite (fun _=>?_) (fun _=>?_)
          · exact Uf.ret' (.done (none,k3,neq)) (fun _=>rfl) ⟨⟨rfl,by show 1≤k3; omega,by show k3≤nrem; omega⟩,hy⟩
          · exact Uf.ret' (.yield (none,k3+1,neq+1)) (fun _=>rfl) ⟨⟨rfl,rfl⟩,hy⟩
      · obtain ⟨⟨ha,hk⟩,hy⟩:=h
        exact ⟨⟨ha,by omega,by omega⟩,hy⟩
      obtain ⟨⟨ha,m1,m2⟩,hy⟩:=h
      obtain ⟨r,k4,neq⟩:=a
      cases ha
      dsimp only at m1 m2
      refine Uf.ite (fun _=>?_) (fun _=>?_)
      · refine Uf.bind (fun _ u=>u) _ (Uf.rev_ hy.1 n0) (fun _ z h=>?_)
        replace hy:BI n z∧z.2=x.2:=⟨h.1,h.2.trans hy.2⟩
        clear h
        refine Uf.bind (fun _ u=>u) _ (Uf.rev_ hy.1 n0) (fun _ z h=>?_)
        replace hy:BI n z∧z.2=x.2:=⟨h.1,h.2.trans hy.2⟩
        clear h
        refine Uf.bind (fun _ (a:Option (Option Nat)×Nat)=>a) (fun a y=>(a.1=none∧1≤a.2∧a.2≤nrem)∧BI n y∧y.2=x.2) (Uf.range_ (lo:=k4) (hi:=nrem) (fun _ (a:Option (Option Nat)×Nat)=>a) (fun i a y=>(a.1=none∧a.2=i)∧BI n y∧y.2=x.2) _ (none,k4) (fun _=>rfl) ⟨⟨rfl,rfl⟩,hy⟩ (fun i a y i1 i2 h=>?_) (fun a y h=>?_)) (fun a y h=>?_)
        · obtain ⟨⟨ha,hk⟩,hy⟩:=h
          obtain ⟨r,k⟩:=a
          cases ha
          dsimp only at hk
          subst hk
          refine Uf.bind (fun _ (b:Bool)=>some b) _ (Uf.ltAt_ (i:=lo+k) (j:=lo+k - 1) hy.1 (by omega) (by omega)) (fun b z e=>?_)
          subst e
          refine Uf.ite (fun _=>?_) (fun _=>?_)
          · exact Uf.ret' (.done (none,k)) (fun _=>rfl) ⟨⟨rfl,by show 1≤k; omega,by show k≤nrem; omega⟩,hy⟩
          · exact Uf.ret' (.yield (none,k+1)) (fun _=>rfl) ⟨⟨rfl,rfl⟩,hy⟩
        · obtain ⟨⟨ha,hk⟩,hy⟩:=h
          exact ⟨⟨ha,by omega,by omega⟩,hy⟩
        obtain ⟨⟨ha,k1,k2⟩,hy⟩:=h
        obtain ⟨r,k⟩:=a
        cases ha
        dsimp only at k1 k2
        exact Uf.ret' k (fun _=>rfl) ⟨⟨k1,k2⟩,hy⟩
      · skip
        refine Uf.bind (fun _ u=>u) _ (Uf.rev_ hy.1 n0) (fun _ z h=>?_)
        replace hy:BI n z∧z.2=x.2:=⟨h.1,h.2.trans hy.2⟩
        clear h
        refine Uf.bind (fun _ (a:Option (Option Nat)×Nat)=>a) (fun a y=>(a.1=none∧1≤a.2∧a.2≤nrem)∧BI n y∧y.2=x.2) (Uf.range_ (lo:=k4) (hi:=nrem) (fun _ (a:Option (Option Nat)×Nat)=>a) (fun i a y=>(a.1=none∧a.2=i)∧BI n y∧y.2=x.2) _ (none,k4) (fun _=>rfl) ⟨⟨rfl,rfl⟩,hy⟩ (fun i a y i1 i2 h=>?_) (fun a y h=>?_)) (fun a y h=>?_)
        · obtain ⟨⟨ha,hk⟩,hy⟩:=h
          obtain ⟨r,k⟩:=a
          cases ha
          dsimp only at hk
          subst hk
          refine Uf.bind (fun _ (b:Bool)=>some b) _ (Uf.ltAt_ (i:=lo+k) (j:=lo+k - 1) hy.1 (by omega) (by omega)) (fun b z e=>?_)
          subst e
          refine Uf.ite (fun _=>?_) (fun _=>?_)
          · exact Uf.ret' (.done (none,k)) (fun _=>rfl) ⟨⟨rfl,by show 1≤k; omega,by show k≤nrem; omega⟩,hy⟩
          · exact Uf.ret' (.yield (none,k+1)) (fun _=>rfl) ⟨⟨rfl,rfl⟩,hy⟩
        · obtain ⟨⟨ha,hk⟩,hy⟩:=h
          exact ⟨⟨ha,by omega,by omega⟩,hy⟩
        obtain ⟨⟨ha,k1,k2⟩,hy⟩:=h
        obtain ⟨r,k⟩:=a
        cases ha
        dsimp only at k1 k2
        exact Uf.ret' k (fun _=>rfl) ⟨⟨k1,k2⟩,hy⟩
  · skip
    refine Uf.bind (fun _ u=>u) (fun _ z=>z=y) (Uf.rule_ rfl) (fun _ z e=>?_)
    subst e
    refine Uf.bind (fun _ (a:Option (Option Nat)×Nat×Nat)=>a) (fun a y=>(a.1=none∧1≤a.2.1∧a.2.1≤nrem)∧BI n y∧y.2=x.2) (Uf.range_ (fun _ (a:Option (Option Nat)×Nat×Nat)=>a) (fun i a y=>(a.1=none∧a.2.1=i)∧BI n y∧y.2=x.2) _ (none,k+1,0) (fun _=>rfl) ⟨⟨rfl,rfl⟩,hy⟩ (fun i a y i1 i2 h=>?_) (fun a y h=>?_)) (fun a y h=>?_)
    · obtain ⟨⟨ha,hk⟩,hy⟩:=h
      obtain ⟨r,k3,neq⟩:=a
      cases ha
      dsimp only at hk
      subst hk
      refine Uf.bind (fun _ (b:Bool)=>some b) _ (Uf.ltAt_ (i:=lo+k3) (j:=lo+k3 - 1) hy.1 (by omega) (by omega)) (fun b z e=>?_)
      subst e
      refine Uf.ite (fun _=>?_) (fun _=>?_)
      · refine Uf.ite (fun _=>?_) (fun _=>?_)
        · refine Uf.bind (fun _ u=>u) _ (Uf.rev_ hy.1 n0) (fun _ z h=>?_)
          exact Uf.ret' (.yield (none,k3+1,0)) (fun _=>rfl) ⟨⟨rfl,rfl⟩,h.1,h.2.trans hy.2⟩
        · exact Uf.ret' (.yield (none,k3+1,0)) (fun _=>rfl) ⟨⟨rfl,rfl⟩,hy⟩
      · refine Uf.bind (fun _ (b:Bool)=>some b) _ (Uf.ltAt_ (i:=lo+k3 - 1) (j:=lo+k3) hy.1 (by omega) (by omega)) (fun b z e=>?_)
        subst e
        refine Uf.ite (fun _=>?_) (fun _=>?_)
        · exact Uf.ret' (.done (none,k3,neq)) (fun _=>rfl) ⟨⟨rfl,by show 1≤k3; omega,by show k3≤nrem; omega⟩,hy⟩
        · exact Uf.ret' (.yield (none,k3+1,neq+1)) (fun _=>rfl) ⟨⟨rfl,rfl⟩,hy⟩
    · obtain ⟨⟨ha,hk⟩,hy⟩:=h
      exact ⟨⟨ha,by omega,by omega⟩,hy⟩
    obtain ⟨⟨ha,m1,m2⟩,hy⟩:=h
    obtain ⟨r,k4,neq⟩:=a
    cases ha
    dsimp only at m1 m2
    refine Uf.ite (fun _=>?_) (fun _=>?_)
    · refine Uf.bind (fun _ u=>u) _ (Uf.rev_ hy.1 n0) (fun _ z h=>?_)
      replace hy:BI n z∧z.2=x.2:=⟨h.1,h.2.trans hy.2⟩
      clear h
      refine Uf.bind (fun _ u=>u) _ (Uf.rev_ hy.1 n0) (fun _ z h=>?_)
      replace hy:BI n z∧z.2=x.2:=⟨h.1,h.2.trans hy.2⟩
      clear h
      refine Uf.bind (fun _ (a:Option (Option Nat)×Nat)=>a) (fun a y=>(a.1=none∧1≤a.2∧a.2≤nrem)∧BI n y∧y.2=x.2) (Uf.range_ (lo:=k4) (hi:=nrem) (fun _ (a:Option (Option Nat)×Nat)=>a) (fun i a y=>(a.1=none∧a.2=i)∧BI n y∧y.2=x.2) _ (none,k4) (fun _=>rfl) ⟨⟨rfl,rfl⟩,hy⟩ (fun i a y i1 i2 h=>?_) (fun a y h=>?_)) (fun a y h=>?_)
      · obtain ⟨⟨ha,hk⟩,hy⟩:=h
        obtain ⟨r,k⟩:=a
        cases ha
        dsimp only at hk
        subst hk
        refine Uf.bind (fun _ (b:Bool)=>some b) _ (Uf.ltAt_ (i:=lo+k) (j:=lo+k - 1) hy.1 (by omega) (by omega)) (fun b z e=>?_)
        subst e
        refine Uf.ite (fun _=>?_) (fun _=>?_)
        · exact Uf.ret' (.done (none,k)) (fun _=>rfl) ⟨⟨rfl,by show 1≤k; omega,by show k≤nrem; omega⟩,hy⟩
        · exact Uf.ret' (.yield (none,k+1)) (fun _=>rfl) ⟨⟨rfl,rfl⟩,hy⟩
      · obtain ⟨⟨ha,hk⟩,hy⟩:=h
        exact ⟨⟨ha,by omega,by omega⟩,hy⟩
      obtain ⟨⟨ha,k1,k2⟩,hy⟩:=h
      obtain ⟨r,k⟩:=a
      cases ha
      dsimp only at k1 k2
      exact Uf.ret' k (fun _=>rfl) ⟨⟨k1,k2⟩,hy⟩
    · skip
      refine Uf.bind (fun _ u=>u) _ (Uf.rev_ hy.1 n0) (fun _ z h=>?_)
      replace hy:BI n z∧z.2=x.2:=⟨h.1,h.2.trans hy.2⟩
      clear h
      refine Uf.bind (fun _ (a:Option (Option Nat)×Nat)=>a) (fun a y=>(a.1=none∧1≤a.2∧a.2≤nrem)∧BI n y∧y.2=x.2) (Uf.range_ (lo:=k4) (hi:=nrem) (fun _ (a:Option (Option Nat)×Nat)=>a) (fun i a y=>(a.1=none∧a.2=i)∧BI n y∧y.2=x.2) _ (none,k4) (fun _=>rfl) ⟨⟨rfl,rfl⟩,hy⟩ (fun i a y i1 i2 h=>?_) (fun a y h=>?_)) (fun a y h=>?_)
      · obtain ⟨⟨ha,hk⟩,hy⟩:=h
        obtain ⟨r,k⟩:=a
        cases ha
        dsimp only at hk
        subst hk
        refine Uf.bind (fun _ (b:Bool)=>some b) _ (Uf.ltAt_ (i:=lo+k) (j:=lo+k - 1) hy.1 (by omega) (by omega)) (fun b z e=>?_)
        subst e
        refine Uf.ite (fun _=>?_) (fun _=>?_)
        · exact Uf.ret' (.done (none,k)) (fun _=>rfl) ⟨⟨rfl,by show 1≤k; omega,by show k≤nrem; omega⟩,hy⟩
        · exact Uf.ret' (.yield (none,k+1)) (fun _=>rfl) ⟨⟨rfl,rfl⟩,hy⟩
      · obtain ⟨⟨ha,hk⟩,hy⟩:=h
        exact ⟨⟨ha,by omega,by omega⟩,hy⟩
      obtain ⟨⟨ha,k1,k2⟩,hy⟩:=h
      obtain ⟨r,k⟩:=a
      cases ha
      dsimp only at k1 k2
      exact Uf.ret' k (fun _=>rfl) ⟨⟨k1,k2⟩,hy⟩
theorem Uf.bin_ {lo m ok:Nat} (hx:BI n x) (n0:0<n) (hn:lo+m≤n):Uf n c (fun _=>binarySort' lo m ok) (fun _ (b:Bool)=>b) x (fun b x'=>b=true∧BI n x'∧x'.2=x.2):=by
  refine Uf.bind (fun _ (a:Option Bool×Unit)=>a) (fun a y=>a.1=none∧BI n y∧y.2=x.2) (Uf.range_ (fun _ (a:Option Bool×Unit)=>a) (fun i a y=>a.1=none∧BI n y∧y.2=x.2) _ (none,()) (fun _=>rfl) ⟨rfl,hx,rfl⟩ (fun k a y k1 k2 h=>?_) (fun a y h=>h)) (fun a y h=>?_)
  · obtain ⟨_,hy⟩:=h
    refine Uf.bind (fun _ (a:Option Bool×Nat×Nat)=>a) (fun a z=>a.1=none∧z=y) (Uf.range_ (fun _ (a:Option Bool×Nat×Nat)=>a) (fun i a z=>(a.1=none∧a.2.2≤k)∧z=y) _ (none,0,k) (fun _=>rfl) ⟨⟨rfl,Nat.le_refl _⟩,rfl⟩ (fun i a z i1 i2 h=>?_) (fun a z h=>⟨h.1.1,h.2⟩)) (fun a z h=>?_)
    · obtain ⟨⟨ha,hr⟩,rfl⟩:=h
      obtain ⟨o,l,r⟩:=a
      cases ha
      dsimp only at hr
      refine Uf.ite (fun _=>?_) (fun no=>?_)
      · exact Uf.ret' (.done (none,l,r)) (fun _=>rfl) ⟨rfl,rfl⟩
      dsimp only at no
      refine Uf.bind (fun _ (b:Bool)=>some b) _ (Uf.ltAt_ (i:=lo+k) (j:=lo+(l+r) / 2) hy.1 (by omega) (by omega)) (fun b y2 e=>?_)
      subst e
      refine Uf.ite (fun _=>?_) (fun _=>?_)
      · exact Uf.ret' (.yield (none,l,(l+r) / 2)) (fun _=>rfl) ⟨⟨rfl,by dsimp only; omega⟩,rfl⟩
      · exact Uf.ret' (.yield (none,(l+r) / 2+1,r)) (fun _=>rfl) ⟨⟨rfl,hr⟩,rfl⟩
    · obtain ⟨ha,rfl⟩:=h
      obtain ⟨o,l,r⟩:=a
      cases ha
      refine Uf.bind (fun _ u=>u) _ (Uf.move_ hy.1 n0) (fun _ y3 h=>?_)
      exact Uf.ret' (.yield (none,())) (fun _=>rfl) ⟨rfl,h.1,h.2.trans hy.2⟩
  · obtain ⟨ha,hy⟩:=h
    obtain ⟨o,u⟩:=a
    cases ha
    exact Uf.ret' true (fun _=>rfl) ⟨rfl,hy⟩
end
end L2
namespace L2
open PySem PySem.Spec PySem.W PyProof.Rows
section
variable {n:Nat} {c:Nat→Nat→Bool} {x:Ix}
theorem SI.bi {hi:Nat} (h:SI n hi x):BI n x:=⟨h.low,h.size⟩
theorem BI.si {hi:Nat} (h:BI n x) (r:RunsL x.2.1.toList 0 hi):SI n hi x:=⟨h.low,h.size,r⟩
theorem SI.upd {hi:Nat} {y:Ix} (h:SI n hi x) (h':BI n y∧y.2=x.2):SI n hi y:=⟨h'.1.low,h'.1.size,by rw [h'.2]; exact h.runs⟩
theorem Uf.mAtD {i:Dt→Nat} {hi:Nat} (i0:Nat) (e:∀ d,i d=i0) (hx:SI n hi x) (hn:hi≤n) (h1:i0+1<x.2.1.size):Uf n c (fun d=>mergeAt' (i d)) (fun _ (b:Bool)=>b) x (fun b x'=>b=true∧SI n hi x'∧x'.2.1.size+1=x.2.1.size):=by
  rw [funext e]
  exact Uf.mAt_ hx hn h1
def nextI (p:Array (Nat×Nat×Nat)):Nat:=if Option.any (fun z=>decide (z<(p[p.size - 2+1]?).elim 0 fun z=>z.2.1)) (if p.size - 2 > 0 then (p[p.size - 2 - 1]?).map fun z=>z.2.1 else none)=true then p.size - 2 - 1 else p.size - 2
theorem nextI_lt {p:Array (Nat×Nat×Nat)} (h:¬ p.size≤1):nextI p+1<p.size:=by
  have two:∀ (b:Prop) [Decidable b],(if b then p.size - 2 - 1 else p.size - 2)+1<p.size:=fun b _=>by split <;> omega
  exact two _
theorem Uf.runs_ (hx:BI n x) (h0:x.2.1=#[]) (n0:1≤n):Uf n c (fun _=>sortRuns') (fun _ (u:Unit)=>u) x (fun _ x'=>BI n x'):=by
  have hs:=hx.size
  refine Uf.bind stI _ Uf.get_ (fun a x' h=>?_)
  obtain ⟨rfl,rfl⟩:=h
  dsimp only [stI,SortSt.mk']
  simp only [Array.size_map,hs]
  refine Uf.bind (fun _ (a:Option Unit×Nat)=>a) (fun a y=>a.1=none∧a.2≤n∧SI n a.2 y) (Uf.range_ (lo:=0) (hi:=n) (fun _ (a:Option Unit×Nat)=>a) (fun _ a y=>a.1=none∧a.2≤n∧SI n a.2 y) _ (none,0) (fun _=>rfl) ⟨rfl,Nat.zero_le _,hx.si (by rw [h0]; rfl)⟩ (fun i a y _ _ h=>?_) (fun a y h=>h)) (fun a y h=>?_)
  · obtain ⟨ha,hl,hy⟩:=h
    obtain ⟨r,lo⟩:=a
    cases ha
    dsimp only at hl hy
    refine Uf.ite (fun _=>?_) (fun no=>?_)
    · exact Uf.ret' (.done (none,lo)) (fun _=>rfl) ⟨rfl,hl,hy⟩
    dsimp only at no
    refine Uf.bind (fun _ (k:Nat)=>some k) _ (Uf.count_ (lo:=lo) (nrem:=n - lo) hy.bi (by omega) (by omega)) (fun k y1 h=>?_)
    obtain ⟨⟨k1,k2⟩,h1⟩:=h
    replace hy:=hy.upd h1
    clear h1
    refine Uf.ite (fun km=>?_) (fun _=>?_)
    · refine Uf.bind (fun _ u=>u) (fun _ z=>z=y1) (Uf.rule_ rfl) (fun _ z e=>?_)
      subst e
      generalize hfo:min (n - lo) _=fo
      have fo1:1≤fo:=by omega
      have fo2:fo≤n - lo:=by omega
      refine Uf.bind (fun _ (b:Bool)=>b) _ (Uf.bin_ (lo:=lo) (m:=fo) (ok:=k) hy.bi (by omega) (by omega)) (fun b y2 h=>?_)
      obtain ⟨rfl,h1⟩:=h
      replace hy:=hy.upd h1
      clear h1
      refine Uf.ite (fun h=>(by cases h)) (fun _=>?_)
      refine Uf.bind stI _ Uf.get_ (fun a4 y4 h=>?_)
      obtain ⟨rfl,rfl⟩:=h
      dsimp only [stI,SortSt.mk']
      cases hb:y4.2.1.back? with
      | none =>
        dsimp only
        obtain ⟨y5,e5⟩:∃ y5,y5=y4:=⟨_,rfl⟩
        rw [← e5] at hy ⊢
        refine Uf.bind (fun _ u=>u) _ (Uf.modify_ (R:=fun _ z=>z=(y5.1,y5.2.1.push (lo,fo,0),y5.2.2)) (y5.1,y5.2.1.push (lo,fo,0),y5.2.2) (fun d=>rfl) rfl) (fun _ y6 e=>?_)
        exact Uf.ret' (.yield (none,lo+fo)) (fun _=>rfl) ⟨rfl,by show lo+fo≤n; omega,by
          rw [e]
          exact ⟨hy.low,hy.size,by show RunsL (y5.2.1.push (lo,fo,0)).toList 0 (lo+fo); rw [Array.toList_push]; exact hy.runs.push (by omega)⟩⟩
      | some z =>
        obtain ⟨s1,n1,w1⟩:=z
        dsimp only
        generalize hpw:(sortPriv% PySem.Builtin.power) n (2 * s1+n1) (2 * s1+n1+n1+fo) n=pw
        refine Uf.bind (fun _ (a:Option Unit×Unit)=>a) (fun a y=>a.1=none∧SI n lo y) (Uf.range_ (lo:=0) (hi:=n) (fun _ (a:Option Unit×Unit)=>a) (fun _ a y=>a.1=none∧SI n lo y) _ (none,()) (fun _=>rfl) ⟨rfl,hy⟩ (fun i a y _ _ h=>?_) (fun a y h=>h)) (fun a y h=>?_)
        · obtain ⟨ha,hy⟩:=h
          refine Uf.bind stI _ Uf.get_ (fun a2 y2 h=>?_)
          obtain ⟨rfl,rfl⟩:=h
          by_cases hs2:y2.2.1.size > 1
          · obtain ⟨⟨u1,u2,older⟩,eo⟩:∃ z,y2.2.1[y2.2.1.size - 2]?=some z:=⟨y2.2.1[y2.2.1.size - 2],Array.getElem?_eq_getElem _⟩
            have e2:∀ d:Dt,(if (pendingOf (stI d y2)).size > 1 then (pendingOf (stI d y2))[(pendingOf (stI d y2)).size - 2]? else none)=some (u1,u2,older):=fun d=>(if_pos (show (pendingOf (stI d y2)).size > 1 from hs2)).trans eo
            simp only [e2]
            refine Uf.ite (fun _=>?_) (fun _=>?_)
            · exact Uf.ret' (.done (none,())) (fun _=>rfl) ⟨rfl,hy⟩
            refine Uf.bind (fun _ (b:Bool)=>b) _ (Uf.mAtD (y2.2.1.size - 2) (fun _=>rfl) hy hl (by omega)) (fun b y3 h=>?_)
            obtain ⟨rfl,hy3,_⟩:=h
            refine Uf.ite (fun h=>(by cases h)) (fun _=>?_)
            exact Uf.ret' (.yield (none,())) (fun _=>rfl) ⟨rfl,hy3⟩
          · have e2:∀ d:Dt,(if (pendingOf (stI d y2)).size > 1 then (pendingOf (stI d y2))[(pendingOf (stI d y2)).size - 2]? else none)=none:=fun d=>if_neg (show ¬ (pendingOf (stI d y2)).size > 1 from hs2)
            simp only [e2]
            exact Uf.ret' (.done (none,())) (fun _=>rfl) ⟨rfl,hy⟩
        · clear hy
          obtain ⟨ha,hy⟩:=h
          obtain ⟨r,u⟩:=a
          cases ha
          refine Uf.bind (fun _ u=>u) _ (Uf.modify_ (R:=fun _ z=>SI n lo z) (y.1,y.2.1.modify (y.2.1.size - 1) (fun z=>(z.1,z.2.1,pw)),y.2.2) (fun d=>rfl) ⟨hy.low,hy.size,by
            show RunsL (y.2.1.modify (y.2.1.size - 1) (fun z=>(z.1,z.2.1,pw))).toList 0 lo
            rw [Array.toList_modify]
            exact hy.runs.mod _ _⟩) (fun _ y5 hy=>?_)
          refine Uf.bind (fun _ u=>u) _ (Uf.modify_ (R:=fun _ z=>z=(y5.1,y5.2.1.push (lo,fo,0),y5.2.2)) (y5.1,y5.2.1.push (lo,fo,0),y5.2.2) (fun d=>rfl) rfl) (fun _ y6 e=>?_)
          exact Uf.ret' (.yield (none,lo+fo)) (fun _=>rfl) ⟨rfl,by show lo+fo≤n; omega,by
            rw [e]
            exact ⟨hy.low,hy.size,by show RunsL (y5.2.1.push (lo,fo,0)).toList 0 (lo+fo); rw [Array.toList_push]; exact hy.runs.push (by omega)⟩⟩
    · refine Uf.bind stI _ Uf.get_ (fun a4 y4 h=>?_)
      obtain ⟨rfl,rfl⟩:=h
      dsimp only [stI,SortSt.mk']
      cases hb:y4.2.1.back? with
      | none =>
        dsimp only
        obtain ⟨y5,e5⟩:∃ y5,y5=y4:=⟨_,rfl⟩
        rw [← e5] at hy ⊢
        refine Uf.bind (fun _ u=>u) _ (Uf.modify_ (R:=fun _ z=>z=(y5.1,y5.2.1.push (lo,k,0),y5.2.2)) (y5.1,y5.2.1.push (lo,k,0),y5.2.2) (fun d=>rfl) rfl) (fun _ y6 e=>?_)
        exact Uf.ret' (.yield (none,lo+k)) (fun _=>rfl) ⟨rfl,by show lo+k≤n; omega,by
          rw [e]
          exact ⟨hy.low,hy.size,by show RunsL (y5.2.1.push (lo,k,0)).toList 0 (lo+k); rw [Array.toList_push]; exact hy.runs.push (by omega)⟩⟩
      | some z =>
        obtain ⟨s1,n1,w1⟩:=z
        dsimp only
        generalize hpw:(sortPriv% PySem.Builtin.power) n (2 * s1+n1) (2 * s1+n1+n1+k) n=pw
        refine Uf.bind (fun _ (a:Option Unit×Unit)=>a) (fun a y=>a.1=none∧SI n lo y) (Uf.range_ (lo:=0) (hi:=n) (fun _ (a:Option Unit×Unit)=>a) (fun _ a y=>a.1=none∧SI n lo y) _ (none,()) (fun _=>rfl) ⟨rfl,hy⟩ (fun i a y _ _ h=>?_) (fun a y h=>h)) (fun a y h=>?_)
        · obtain ⟨ha,hy⟩:=h
          refine Uf.bind stI _ Uf.get_ (fun a2 y2 h=>?_)
          obtain ⟨rfl,rfl⟩:=h
          by_cases hs2:y2.2.1.size > 1
          · obtain ⟨⟨u1,u2,older⟩,eo⟩:∃ z,y2.2.1[y2.2.1.size - 2]?=some z:=⟨y2.2.1[y2.2.1.size - 2],Array.getElem?_eq_getElem _⟩
            have e2:∀ d:Dt,(if (pendingOf (stI d y2)).size > 1 then (pendingOf (stI d y2))[(pendingOf (stI d y2)).size - 2]? else none)=some (u1,u2,older):=fun d=>(if_pos (show (pendingOf (stI d y2)).size > 1 from hs2)).trans eo
            simp only [e2]
            refine Uf.ite (fun _=>?_) (fun _=>?_)
            · exact Uf.ret' (.done (none,())) (fun _=>rfl) ⟨rfl,hy⟩
            refine Uf.bind (fun _ (b:Bool)=>b) _ (Uf.mAtD (y2.2.1.size - 2) (fun _=>rfl) hy hl (by omega)) (fun b y3 h=>?_)
            obtain ⟨rfl,hy3,_⟩:=h
            refine Uf.ite (fun h=>(by cases h)) (fun _=>?_)
            exact Uf.ret' (.yield (none,())) (fun _=>rfl) ⟨rfl,hy3⟩
          · have e2:∀ d:Dt,(if (pendingOf (stI d y2)).size > 1 then (pendingOf (stI d y2))[(pendingOf (stI d y2)).size - 2]? else none)=none:=fun d=>if_neg (show ¬ (pendingOf (stI d y2)).size > 1 from hs2)
            simp only [e2]
            exact Uf.ret' (.done (none,())) (fun _=>rfl) ⟨rfl,hy⟩
        · clear hy
          obtain ⟨ha,hy⟩:=h
          obtain ⟨r,u⟩:=a
          cases ha
          refine Uf.bind (fun _ u=>u) _ (Uf.modify_ (R:=fun _ z=>SI n lo z) (y.1,y.2.1.modify (y.2.1.size - 1) (fun z=>(z.1,z.2.1,pw)),y.2.2) (fun d=>rfl) ⟨hy.low,hy.size,by
            show RunsL (y.2.1.modify (y.2.1.size - 1) (fun z=>(z.1,z.2.1,pw))).toList 0 lo
            rw [Array.toList_modify]
            exact hy.runs.mod _ _⟩) (fun _ y5 hy=>?_)
          refine Uf.bind (fun _ u=>u) _ (Uf.modify_ (R:=fun _ z=>z=(y5.1,y5.2.1.push (lo,k,0),y5.2.2)) (y5.1,y5.2.1.push (lo,k,0),y5.2.2) (fun d=>rfl) rfl) (fun _ y6 e=>?_)
          exact Uf.ret' (.yield (none,lo+k)) (fun _=>rfl) ⟨rfl,by show lo+k≤n; omega,by
            rw [e]
            exact ⟨hy.low,hy.size,by show RunsL (y5.2.1.push (lo,k,0)).toList 0 (lo+k); rw [Array.toList_push]; exact hy.runs.push (by omega)⟩⟩
  · obtain ⟨ha,hl,hy⟩:=h
    obtain ⟨r,lo⟩:=a
    cases ha
    dsimp only at hl hy
    refine Uf.bind (fun _ (a:Option Unit×Unit)=>a) (fun a y=>a.1=none∧SI n lo y) (Uf.range_ (lo:=0) (hi:=n) (fun _ (a:Option Unit×Unit)=>a) (fun _ a y=>a.1=none∧SI n lo y) _ (none,()) (fun _=>rfl) ⟨rfl,hy⟩ (fun i a y _ _ h=>?_) (fun a y h=>h)) (fun a y h=>?_)
    · obtain ⟨ha,hy⟩:=h
      refine Uf.bind stI _ Uf.get_ (fun a2 y2 h=>?_)
      obtain ⟨rfl,rfl⟩:=h
      refine Uf.iteD (y2.2.1.size≤1) (fun _=>Iff.rfl) (fun _=>?_) (fun no=>?_)
      · exact Uf.ret' (.done (none,())) (fun _=>rfl) ⟨rfl,hy⟩
      refine Uf.bind (fun _ (b:Bool)=>b) _ (Uf.mAtD (nextI y2.2.1) (fun _=>rfl) hy hl (nextI_lt no)) (fun b y3 h=>?_)
      obtain ⟨rfl,hy3,_⟩:=h
      refine Uf.ite (fun h=>(by cases h)) (fun _=>?_)
      exact Uf.ret' (.yield (none,())) (fun _=>rfl) ⟨rfl,hy3⟩
    · obtain ⟨ha,hy⟩:=h
      obtain ⟨r,u⟩:=a
      cases ha
      exact Uf.ret' () (fun _=>rfl) hy.bi
end
end L2
namespace L2
open PySem PySem.Spec PyProof.Rows
theorem runs_ex (n:Nat) (c:Nat→Nat→Bool) (h:1≤n):∃ p:Array Nat,(LowP n p∧p.size=n)∧∀ (prog:Program) (w:World) (A:Around) (E:Value→Shared→Prop) (d:Dt) (Q:Unit→SortSt→Shared→Prop) (s:Shared),Asks prog w A d n c s→(∀ r,Q () (stI d (p,r)) s)→W.kasC (model prog w) A E sortRuns' Q (stI d ((List.range n).toArray,#[],7)) s:=by
  have hx:BI n ((List.range n).toArray,#[],7):=⟨fun v hv=>by simpa using hv,by simp⟩
  obtain ⟨u,x',h1,h2⟩:=Uf.runs_ (c:=c) hx rfl h
  exact ⟨x'.1,⟨h1.low,h1.size⟩,fun prog w A E d Q s hs q=>h2 prog w A E d Q s hs (q x'.2)⟩
noncomputable def bigP (n:Nat) (c:Nat→Nat→Bool):Array Nat:=if h:1≤n then Classical.choose (runs_ex n c h) else #[]
theorem bigP_spec {n:Nat} {c:Nat→Nat→Bool} (h:1≤n):(LowP n (bigP n c)∧(bigP n c).size=n)∧∀ (prog:Program) (w:World) (A:Around) (E:Value→Shared→Prop) (d:Dt) (Q:Unit→SortSt→Shared→Prop) (s:Shared),Asks prog w A d n c s→(∀ r,Q () (stI d (bigP n c,r)) s)→W.kasC (model prog w) A E sortRuns' Q (stI d ((List.range n).toArray,#[],7)) s:=by
  have e:bigP n c=Classical.choose (runs_ex n c h):=dif_pos h
  rw [e]
  exact Classical.choose_spec (runs_ex n c h)
theorem bigP_low {n:Nat} {c:Nat→Nat→Bool} (h:1≤n):LowP n (bigP n c)∧(bigP n c).size=n:=(bigP_spec h).1
section
variable {prog:Program} {w:World} {A:Around} {E:Value→Shared→Prop} {s:Shared}
theorem bat_run {κ:SortKind} {vs:List Value} {c:Nat→Nat→Bool} {Q:SortSt→Shared→Prop} (h2:1≤vs.length) (ask:∀ i j (C:Bool→Shared→Prop),i<vs.length→j<vs.length→C (c i j) s→W.kas_ask prog w A κ vs i j C s)
    (hQ:∀ st',arrOf st'=(bigP vs.length c).map (W.kas_item (vs.toArray.zip vs.toArray))→failedOf st'=none→Q st' s):wpAny (model prog w) A (sortRuns'.run (SortSt.mk' κ (vs.toArray.zip vs.toArray) #[] 7 none)) (fun r s'=>Q r.2 s') E s:=by
  have zs:(vs.toArray.zip vs.toArray).size=vs.length:=by simp
  have hA:Asks prog w A (κ,vs.toArray.zip vs.toArray) vs.length c s:=⟨zs,fun i j C hi hj q=>by
    have:=ask i j C hi hj q
    rw [W.kat_ask_eq (ks:=vs) (vs:=vs) rfl] at this
    exact this⟩
  have run:=(bigP_spec (c:=c) h2).2 prog w A E (κ,vs.toArray.zip vs.toArray) (fun _ st' s'=>Q st' s') s hA (fun r=>hQ _ rfl rfl)
  have est:SortSt.mk' κ (vs.toArray.zip vs.toArray) #[] 7 none=stI (κ,vs.toArray.zip vs.toArray) ((List.range vs.length).toArray,#[],7):=by
    have e:=W.kas_range (vs.toArray.zip vs.toArray)
    rw [zs] at e
    show SortSt.mk' κ (vs.toArray.zip vs.toArray) #[] 7 none=SortSt.mk' κ ((List.toArray (List.range vs.length)).map (W.kas_item (vs.toArray.zip vs.toArray))) #[] 7 none
    rw [e]
  rw [est]
  exact run
structure SortToB (prog:Program) (w:World) (A:Around) (a:Addr) (vs out:List Value) (h:Heap):Prop where
  few:vs.length<2→out=vs
  many:2≤vs.length→∀ s1:Shared,(∀ b o,b≠a→h.get? b=some o→s1.heap.get? b=some o)→∃ (κ:SortKind) (c:Nat→Nat→Bool),(∀ (Q:SortKind→Shared→Prop) (E:Value→Shared→Prop),Q κ s1→wpAny (model prog w) A (keyKind' vs.toArray) Q E s1)∧
    (∀ i j (C:Bool→Shared→Prop),i<vs.length→j<vs.length→C (c i j) s1→W.kas_ask prog w A κ vs i j C s1)∧out=(bigP vs.length c).toList.map fun i=>vs.getD i .none
theorem sort_heapB {a:Addr} {vs out:List Value} {n:Nat} {P:Fin→Shared→Prop} (h:s.heap.get? a=some (seqObj "list" vs.toArray n)) (h64:vs.length≤3000) (x:SortToB prog w A a vs out s.heap)
    (k:P (Fin.done (Flow.ret Value.none)) { s with heap:=sortedHeap s.heap a vs out.toArray }):wpAny (model prog w) A (Builtin.«list.sort» { pos:=[Value.ref a] }) P E s:=by
  rw [list_sort_plain]
  have hz:vs.length≤sizeLine:=by rw [sizeLine_eq]; omega
  refine wpAny_bind (listItems_at h rfl ?_)
  refine wpAny_bind (listUpdate_at h rfl ?_ (by simpa using hz) (Nat.zero_le _))
  have e1:=get?_update_seq h (fun _=>#[])
  have alt:a<s.heap.objs.size:=Heap.lt_size h
  refine wpAny_bind (seqEpoch_at e1 rfl ?_)
  refine wpAny_bind (wpAny_newTuple ?_ (by simpa using hz))
  refine wpAny_bind (wpAny_newList ?_)
  refine wpAny_holding ?_
  generalize eep:(if (Array.size (#[]:Array Value) == vs.toArray.size)=true then n else n+1)=ep at e1 ⊢
  have e2:(((s.heap.update a (Obj.mapSeq fun _=>#[])).push (seqObj "tuple" vs.toArray 0)).push (seqObj "list" #[] 0)).get? a=some (seqObj "list" #[] ep):=Heap.get?_push_of_some _ (Heap.get?_push_of_some _ e1)
  show wpAny _ _ _ _ _ { s with heap:=((s.heap.update a (Obj.mapSeq fun _=>#[])).push (seqObj "tuple" vs.toArray 0)).push (seqObj "list" #[] 0) }
  have k':P (Fin.done (Flow.ret Value.none)) { s with heap:=(((s.heap.update a (Obj.mapSeq fun _=>#[])).push (seqObj "tuple" vs.toArray 0)).push (seqObj "list" #[] 0)).update a (Obj.mapSeq fun _=>out.toArray) }:=k
  have old:∀ b o,b≠a→s.heap.get? b=some o→(((s.heap.update a (Obj.mapSeq fun _=>#[])).push (seqObj "tuple" vs.toArray 0)).push (seqObj "list" #[] 0)).get? b=some o:=fun b o hb e=>Heap.get?_push_of_some _ (Heap.get?_push_of_some _ (((Heap.SameBut.update s.heap a _).2 b hb).trans e))
  generalize ((s.heap.update a (Obj.mapSeq fun _=>#[])).push (seqObj "tuple" vs.toArray 0)).push (seqObj "list" #[] 0)=h3 at e2 k' old ⊢
  have ol:out.length≤3000:=by
    by_cases h2:vs.length<2
    · rw [x.few h2]
      omega
    · obtain ⟨κ,c,_,_,eo⟩:=x.many (by omega) { s with heap:=h3 } old
      rw [eo,List.length_map,Array.length_toList,(bigP_low (n:=vs.length) (c:=c) (by omega)).2]
      omega
  have tl:∀ st:SortSt,Array.map (fun y=>y.snd) (arrOf st)=out.toArray→failedOf st=none→wpAny (model prog w) A (do
      let __do_lift ← seqEpoch a
      have touched:Bool:=__do_lift != ep
      Builtin.List.listUpdate (Value.ref a) fun _=>Array.map (fun y=>y.snd) (arrOf st)
      have __do_jp:Unit→Sem PySem.Fin:=fun __r =>
        have __do_jp:=fun __r=>ret Value.none
        if touched=true then do
          rule "list.sort.modified"
          let __r ← raiseErrorWords "ValueError" "list modified during sort"
          __do_jp __r
        else __do_jp ()
      match failedOf st with
        | some e=>do
          rule "list.sort.comparison-raised"
          let __r ← throw e
          __do_jp __r
        | _=>__do_jp ()) P E { s with heap:=h3 }:=fun st es ef=>by
    rw [es,ef]
    refine wpAny_bind (seqEpoch_at e2 rfl ?_)
    refine wpAny_bind (listUpdate_at e2 rfl ?_ (Nat.zero_le _) (by rw [sizeLine_eq]; simp; omega))
    show wpAny _ _ (if (ep != ep)=true then _ else _) _ _ _
    rw [if_neg (by simp)]
    exact wpAny_pure k'
  show wpAny _ _ (if vs.toArray.size<2 then _ else _) _ _ _
  by_cases h2:vs.length<2
  · rw [if_pos (by simpa using h2)]
    refine wpAny_bind (wpAny_pure ?_)
    rw [if_pos (by simpa using h2)]
    refine wpAny_bind (wpAny_pure ?_)
    refine tl _ ?_ rfl
    rw [x.few h2]
    show Array.map (fun y=>y.snd) (vs.toArray.zip vs.toArray)=vs.toArray
    apply Array.ext
    · simp
    · intro i h1 h2
      simp
  · rw [if_neg (by simpa using h2)]
    obtain ⟨κ,c,hk,hc,eo⟩:=x.many (by omega) { s with heap:=h3 } old
    refine wpAny_bind (hk _ _ ?_)
    rw [if_neg (by simpa using h2)]
    refine wpAny_bind (wpAny_mono (bat_run (Q:=fun st' s'=>Array.map (fun y=>y.snd) (arrOf st')=out.toArray∧failedOf st'=none∧s'={ s with heap:=h3 }) (by omega) hc (fun st' ha hf=>?_)) (fun r s' hq=>?_) fun _ _ z=>z)
    · refine ⟨?_,hf,rfl⟩
      rw [ha,eo]
      apply Array.ext
      · simp
      · intro i h1 h2
        simp only [Array.getElem_map,W.kat_item rfl]
        simp
    · obtain ⟨q1,q2,rfl⟩:=hq
      exact tl r.2 q1 q2
theorem sorted_heapB {l:Addr} {vs out:List Value} {Q:Value→Shared→Prop} (h:s.heap.IsList l vs.toArray) (h64:vs.length≤3000) (x:∀ hh:Heap,(∀ b o,s.heap.get? b=some o→hh.get? b=some o)→SortToB prog w A.in1.in1 (s.heap.objs.size+1) vs out hh)
    (k:Q (Value.ref (s.heap.objs.size+1)) { s with heap:=sortedAll s.heap vs out.toArray }):wpAny (model prog w) A (call (Value.builtin "sorted") [Value.ref l]) Q E s:=by
  have hz:vs.length≤sizeLine:=by rw [sizeLine_eq]; omega
  refine Calls.call_function_entry kind_sorted plain_sorted entry_sorted (args_sorted1 _) ?_
  show wpAny _ _ (checkCount "sorted" 1 1 1 >>= _) _ _ _
  refine wpAny_bind (wpAny_pure ?_)
  refine wpAny_bind (collect_list h ?_ hz)
  refine wpAny_bind (wpAny_newList ?_ hz)
  have sz:((s.heap.push (seqObj "list" #[] 0)).update s.heap.objs.size (Obj.mapSeq fun x=>x++vs.toArray)).objs.size=s.heap.objs.size+1:=by rw [Heap.size_update,Heap.size_push]
  have e:(((s.heap.push (seqObj "list" #[] 0)).update s.heap.objs.size (Obj.mapSeq fun x=>x++vs.toArray)).push (seqObj "list" vs.toArray 0)).get? (s.heap.objs.size+1)=some (seqObj "list" vs.toArray 0):=by
    rw [← sz]
    exact Heap.get?_push_size _ rfl
  show wpAny _ _ (holding [Value.ref ((s.heap.push (seqObj "list" #[] 0)).update s.heap.objs.size (Obj.mapSeq fun x=>x++vs.toArray)).objs.size] _ >>= _) _ _ _
  rw [sz]
  refine wpAny_bind (wpAny_holding (wpAny_call_entry slot_list_sort ⟨_,e,rfl⟩ entry_list_sort (sort_heapB e h64 (x _ fun b o ho=>?_) ⟨_,rfl,wpAny_pure ⟨_,rfl,k⟩⟩) (args_list_sort _)))
  have hb:b≠s.heap.objs.size:=Nat.ne_of_lt (Heap.lt_size ho)
  exact Heap.get?_push_of_some _ (((Heap.SameBut.update _ _ _).2 b hb).trans (Heap.get?_push_of_some _ ho))
end
noncomputable def d3OrdB (ds:List D3):List Nat:=(bigP ds.length (fun i j=>d3Lt (ds.getD i d0) (ds.getD j d0))).toList
noncomputable def sortB (ds:List D3):List D3:=if ds.length<2 then ds else (d3OrdB ds).map fun i=>ds.getD i d0
theorem d3OrdB_len {ds:List D3} (h:0<ds.length):(d3OrdB ds).length=ds.length:=by
  unfold d3OrdB
  rw [Array.length_toList]
  exact (bigP_low h).2
theorem d3OrdB_lt {ds:List D3} (h:0<ds.length):∀ i∈d3OrdB ds,i<ds.length:=fun i hi=>by
  unfold d3OrdB at hi
  exact (bigP_low h).1 i (Array.mem_toList_iff.mp hi)
theorem sortB_len (ds:List D3):(sortB ds).length=ds.length:=by
  unfold sortB
  split
  · rfl
  · rw [List.length_map,d3OrdB_len (by omega)]
section
variable {prog:Program} {w:World} {A:Around} {s:Shared}
theorem sort3B {a:Addr} {vs:List Value} {ds:List D3} {h:Heap} (p:Paired (Raw3 h) vs ds) (ha:∀ v∈vs,v≠.ref a):SortToB prog w A a vs (if vs.length<2 then vs else (d3OrdB ds).map fun i=>vs.getD i .none) h:=by
  refine ⟨fun h2=>if_pos h2,fun h2 s1 k=>?_⟩
  have pl:vs.length=ds.length:=by
    clear ha h2 k
    induction p with
    | nil=>rfl
    | cons _ _ ih=>exact congrArg (·+1) ih
  have p1:Paired (Raw3 s1.heap) vs ds:=by
    clear pl h2
    induction p with
    | nil=>exact .nil
    | cons r _ ih =>
      refine .cons ?_ (ih fun v hv=>ha v (List.mem_cons_of_mem _ hv))
      obtain ⟨b,o,n,i,t,x,u,j,r,rfl,g,c⟩:=r
      have hb:b≠a:=fun e=>ha _ List.mem_cons_self (by rw [e])
      exact ⟨b,o,n,i,t,x,u,j,r,rfl,k _ _ hb g,c⟩
  have at_:∀ i,i<vs.length→Raw3 s1.heap (vs.getD i .none) (ds.getD i d0):=by
    clear pl h2 p ha k
    intro i hi
    induction p1 generalizing i with
    | nil=>exact absurd hi (Nat.not_lt_zero _)
    | cons r _ ih =>
      cases i with
      | zero=>exact r
      | succ i=>exact ih i (Nat.lt_of_succ_lt_succ hi)
  refine ⟨tuples' true,fun i j=>d3Lt (ds.getD i d0) (ds.getD j d0),fun Q E q=>raw3_kind p1 (by omega) q,fun i j C hi hj q=>raw3_lt (at_ i hi) (at_ j hj) q,?_⟩
  rw [if_neg (by omega)]
  unfold d3OrdB
  rw [pl]
end
section
variable {X:Cx}
theorem call_sortedB:CallR X (.builtin "sorted") (fun xs H Q=>∃ (p:Addr) (vs:List V) (ds:List D3),xs=[.ref p]∧SqL X.K H p vs∧Paired (D3At H) vs ds∧ds.length≤3000∧∀ (l:Addr) (vs':List V),H l=none→Paired (D3At H) vs' (sortB ds)→Q (.ref l) (upd H l (.lst vs'))):=by
  intro pins s σ H xs us Q I r h
  obtain ⟨p,vs,ds,rfl,hp,pd,h64,q⟩:=h
  obtain ⟨u,rfl,ru⟩:=vals1 r
  cases ru
  obtain ⟨its,rv,pl,hz⟩:=I.list hp
  have raws:∀ {vs:List V} {ds:List D3} {its:List Value},Paired (D3At H) vs ds→Vals vs its→Paired (Raw3 s.heap) its ds∧∀ v∈its,v≠.ref (s.heap.objs.size+1):=by
    intro vs ds its pd
    induction pd generalizing its with
    | nil=>intro rv; cases rv; exact ⟨.nil,fun _ h=>(nomatch h)⟩
    | cons r _ ih =>
      intro rv
      obtain ⟨a,rfl,ha⟩:=r
      cases rv with
      | cons r1 rv =>
        cases r1
        obtain ⟨g1,g2⟩:=ih rv
        obtain ⟨us,r2,pt,_⟩:=I.tuple (SqT.of ha)
        obtain ⟨i,t,x,u,j,r',rfl,rfl⟩:=vals_d3 r2
        obtain ⟨o,e1,e2,n,e3⟩:=IsTup.tup pt
        refine ⟨.cons ⟨a,o,n,i,t,x,u,j,r',rfl,e1,e2,e3,rfl⟩ g1,fun v hv=>?_⟩
        rcases List.mem_cons.mp hv with rfl | h
        · have:=Heap.lt_size e1
          intro e
          have e':a=s.heap.objs.size+1:=Value.ref.inj e
          rw [e'] at this
          exact absurd this (Nat.not_lt_of_le (Nat.le_succ _))
        · exact g2 v h
  obtain ⟨pr,hne⟩:=raws pd rv
  have lv:=rv.length
  have ld:=pd_len pd
  refine sorted_heapB pl.isList (by omega) (fun hh kp=>sort3B (pd_imp (fun _ _ x=>x.keep kp) pr) hne) ?_
  have vv:Vals (if vs.length<2 then vs else (d3OrdB ds).map fun i=>vs.getD i .non) (if its.length<2 then its else (d3OrdB ds).map fun i=>its.getD i .none):=by
    rw [lv]
    split
    · exact rv
    · exact vals_pick rv _ fun i hi=>by
        have:=d3OrdB_lt (ds:=ds) (by omega) i hi
        omega
  have pv:Paired (D3At H) (if vs.length<2 then vs else (d3OrdB ds).map fun i=>vs.getD i .non) (sortB ds):=by
    unfold sortB
    rw [ld]
    split
    · exact pd
    · exact pd_pick pd _ fun i hi=>by
        have:=d3OrdB_lt (ds:=ds) (by omega) i hi
        omega
  have hn:H (s.heap.objs.size+1)=none:=I.hok.fresh (Nat.le_succ _)
  have lo:=pd_len pv
  rw [sortB_len] at lo
  generalize (if vs.length<2 then vs else (d3OrdB ds).map fun i=>vs.getD i .non)=vs' at vv pv lo
  generalize (if its.length<2 then its else (d3OrdB ds).map fun i=>its.getD i .none)=out at vv
  obtain ⟨e,he⟩:=sortedAll_at s.heap its out.toArray
  exact ⟨.ref (s.heap.objs.size+1),_,I.laid (t':=s.toks) (o:=.lst vs') (fun _ _=>sortedAll_old) (Nat.le_succ _) ⟨by rw [lo]; exact (by rw [sizeLine_eq]; omega),out,e,vv,he⟩,rfl,q _ vs' hn pv⟩
end
end L2
namespace K23
open PySem L2
def top (i:Nat):Stmt:=PySem.Challenge.pw_earbells_k23_what_is_heard.main.body.getD i (.Pass ⟨0,0,0,0⟩)
abbrev s_Rinit:Stmt:=inClass (top 7) 0
abbrev s_falls:Stmt:=inClass (top 7) 2
abbrev s_Ainit:Stmt:=inClass (top 8) 0
abbrev s_Yinit:Stmt:=inClass (top 9) 0
abbrev s_Sinit:Stmt:=inClass (top 10) 0
abbrev s_is_whole:Stmt:=top 5
abbrev s_rule_of:Stmt:=top 11
abbrev s_text:Stmt:=top 12
abbrev s_rule_of_bell:Stmt:=top 14
abbrev s_comes:Stmt:=top 16
abbrev s_found:Stmt:=top 17
abbrev s_behind:Stmt:=top 18
abbrev s_strokes:Stmt:=top 19
abbrev s_heard:Stmt:=top 20
abbrev s_nth:Stmt:=top 22
abbrev s_whole:Stmt:=top 23
abbrev s_pack:Stmt:=top 24
abbrev s_next:Stmt:=top 25
abbrev s_draw:Stmt:=top 26
abbrev s_name:Stmt:=top 27
abbrev s_listening:Stmt:=top 28
abbrev s_rule:Stmt:=top 29
abbrev s_choir:Stmt:=top 30
abbrev s_alike:Stmt:=top 31
abbrev s_law:Stmt:=top 32
inductive InR:List Int→List Int→Prop where
  | nil:InR [] []
  | cons {n m:Int} {ns ms:List Int} (h0:0≤n) (h1:n<m) (t:InR ns ms):InR (n::ns) (m::ms)
theorem take_snoc {α:Type} {l:List α} {i:Nat} {x:α} (h:l[i]?=some x):l.take (i+1)=l.take i++[x]:=by
  rw [List.take_succ,h]
  rfl
theorem at_map {ns:List Int} {i:Nat} {z:Int} (h:ns[i]?=some z):atI (ns.map V.int) (i:Int)=some (V.int z):=atI_nat (by rw [List.getElem?_map,h]; rfl)
structure Blt (mg:Str→Option Value):Prop where
  all_:mg "all"=none
  any_:mg "any"=none
  bool_:mg "bool"=none
  divmod_:mg "divmod"=none
  enumerate_:mg "enumerate"=none
  int_:mg "int"=none
  isinstance_:mg "isinstance"=none
  len_:mg "len"=none
  list_:mg "list"=none
  max_:mg "max"=none
  min_:mg "min"=none
  range_:mg "range"=none
  set_:mg "set"=none
  sorted_:mg "sorted"=none
  str_:mg "str"=none
  sum_:mg "sum"=none
  tuple_:mg "tuple"=none
  zip_:mg "zip"=none
  ValueError_:mg "ValueError"=none
  abs_:mg "abs"=none
theorem blt_mk {K:PySem.W.Frag} {h:Heap} {mg:Str→Option Value} (X:K.In h) (G:h.Ns mainGlobals mg) (z1:PySem.W.nsIn K mainGlobals "all"=some none) (z2:PySem.W.nsIn K mainGlobals "any"=some none) (z3:PySem.W.nsIn K mainGlobals "bool"=some none) (z4:PySem.W.nsIn K mainGlobals "divmod"=some none)
    (z5:PySem.W.nsIn K mainGlobals "enumerate"=some none) (z6:PySem.W.nsIn K mainGlobals "int"=some none) (z7:PySem.W.nsIn K mainGlobals "isinstance"=some none) (z8:PySem.W.nsIn K mainGlobals "len"=some none) (z9:PySem.W.nsIn K mainGlobals "list"=some none) (z10:PySem.W.nsIn K mainGlobals "max"=some none)
    (z11:PySem.W.nsIn K mainGlobals "min"=some none) (z12:PySem.W.nsIn K mainGlobals "range"=some none) (z13:PySem.W.nsIn K mainGlobals "set"=some none) (z14:PySem.W.nsIn K mainGlobals "sorted"=some none) (z15:PySem.W.nsIn K mainGlobals "str"=some none) (z16:PySem.W.nsIn K mainGlobals "sum"=some none)
    (z17:PySem.W.nsIn K mainGlobals "tuple"=some none) (z18:PySem.W.nsIn K mainGlobals "zip"=some none) (z19:PySem.W.nsIn K mainGlobals "ValueError"=some none) (z20:PySem.W.nsIn K mainGlobals "abs"=some none):Blt mg :=
  ⟨PySem.W.mg_none_of X G z1,PySem.W.mg_none_of X G z2,PySem.W.mg_none_of X G z3,PySem.W.mg_none_of X G z4,PySem.W.mg_none_of X G z5,PySem.W.mg_none_of X G z6,PySem.W.mg_none_of X G z7,PySem.W.mg_none_of X G z8,PySem.W.mg_none_of X G z9,PySem.W.mg_none_of X G z10,PySem.W.mg_none_of X G z11,
    PySem.W.mg_none_of X G z12,PySem.W.mg_none_of X G z13,PySem.W.mg_none_of X G z14,PySem.W.mg_none_of X G z15,PySem.W.mg_none_of X G z16,PySem.W.mg_none_of X G z17,PySem.W.mg_none_of X G z18,PySem.W.mg_none_of X G z19,PySem.W.mg_none_of X G z20⟩
theorem kit_ii (K:PySem.W.Frag):PySem.W.kitOne K (.type "int") (.type "int")=some true:=by kernel_rfl
theorem kit_ib (K:PySem.W.Frag):PySem.W.kitOne K (.type "int") (.type "bool")=some false:=by kernel_rfl
theorem kit_ss (K:PySem.W.Frag):PySem.W.kitOne K (.type "str") (.type "str")=some true:=by kernel_rfl
theorem kit_is (K:PySem.W.Frag):PySem.W.kitOne K (.type "int") (.type "str")=some false:=by kernel_rfl
end K23
namespace K23
open PySem L2
def Bt (p:Addr) (H H':Hp):Prop:=∀ b o,b≠p→H b=some o→H' b=some o
theorem Bt.refl (p:Addr) (H:Hp):Bt p H H:=fun _ _ _ e=>e
theorem Bt.trans {p:Addr} {H H1 H2:Hp} (a:Bt p H H1) (b:Bt p H1 H2):Bt p H H2:=fun c o n e=>b c o n (a c o n e)
theorem Bt.same {p:Addr} {H H1:Hp} (s:Same H H1):Bt p H H1:=fun b o _ e=>s b o e
theorem Bt.upd {p:Addr} {H H1:Hp} (a:Bt p H H1) (o:HO):Bt p H (upd H1 p o):=fun b u n e=>by rw [upd_ne n]; exact a b u n e
theorem Bt.new {p q:Addr} {H H1:Hp} (a:Bt p H H1) (h:H1 q=none) (o:HO):Bt p H (L2.upd H1 q o):=a.trans (Bt.same (same_new h o))
def PackAt (K:PySem.W.Frag) (ns:List Int) (a p:Addr) (H:Hp):Prop:=SqL K H a (ns.map V.int)∧∃ (b:Bool) (c:Int) (k:Nat) (z:Int) (w:Nat),H p=some (.lst [.bl b,.int c,.int k,.ref a,.int z,.int w])∧0≤z∧z<998244359987
theorem seq_bt {K:PySem.W.Frag} {ns:List Int} {a p:Addr} {H H':Hp} {b:Bool} {r:List V} (hp:H p=some (.lst (.bl b::r))) (s:Bt p H H') (h:SqL K H a (ns.map V.int)):SqL K H' a (ns.map V.int):=by
  rcases h with (z | ⟨o,z⟩) | z
  · refine .inl (.inl (s a _ ?_ z))
    rintro rfl
    rw [hp] at z
    have z':=HO.lst.inj (Option.some.inj z)
    cases ns with
    | nil=>cases z'
    | cons n r=>cases z'
  · refine .inl (.inr ⟨o,s a _ ?_ z⟩)
    rintro rfl
    rw [hp] at z
    cases z
  · exact .inr z
theorem PackAt.there {K:PySem.W.Frag} {ns:List Int} {a p:Addr} {H:Hp} (P:PackAt K ns a p H):∃ o,H p=some o:=by
  obtain ⟨_,b,c,k,z,w,hp,_⟩:=P
  exact ⟨_,hp⟩
theorem Bt.free {p l:Addr} {H H':Hp} (s:Bt p H H') (hp:∃ o,H' p=some o) (h:H' l=none):H l=none:=by
  cases e:H l with
  | none=>rfl
  | some o =>
    by_cases hl:l=p
    · subst hl
      obtain ⟨o',q⟩:=hp
      rw [q] at h
      cases h
    · have:=s l o hl e
      rw [this] at h
      cases h
section
variable {P:Program} {w:World} {K:PySem.W.Frag} {mg:Str→Option Value} {base:Heap} {f:Addr} {fd:FuncData}
def sp_nth (K:PySem.W.Frag):Sp:=fun vs H Q _=>∃ (a:Addr) (ns:List Int) (k:Nat),vs=[.ref a,.int k]∧SqL K H a (ns.map V.int)∧∀ z,Q (.int z) H
theorem sc_nth:FnScope ["_law_script","_law_k"] ["_law_script","_law_k"] (defScope s_nth):=⟨rfl,rfl,rfl,by decide +kernel,rfl,by decide +kernel,by decide +kernel⟩
theorem ok_nth (F:Fun K "_law_nth" "_law_nth" s_nth f fd) (B:Blt mg):FnOk P w K mg base CX0 1 f fd ["_law_script","_law_k"] (sp_nth K):=by
  refine F.ok sc_nth (fun vs H Q E h=>?_) (fun cdv A outer s H vs Q E hr h=>?_)
  · obtain ⟨a,ns,k,rfl,_⟩:=h
    rfl
  obtain ⟨a,ns,k,rfl,hS,q⟩:=h
  refine ⟨_,(pss_cons (ps_if (pt_cmpR op_lt (pv 1) (pe_callB call_len_seq rfl B.len_ PySem.boot_len (pa_cons (pv 0) pa_nil)) (nomark _))
    (pss_one (ps_ret (pe_ix ix_list (pv 0) (pv 1) (fun _ _=>rfl))))
    pss_nil)
    (pss_one (ps_ret pe_int))),?_⟩
  refine ⟨_,rfl,_,rfl,a,_,rfl,.inl hS,_,_,rfl,rfl,_,rfl,?_⟩
  refine ite2 (fun c=>?_) (fun c=>q _)
  have c':(k:Int)<(((ns.map V.int).length:Nat):Int):=of_decide_eq_true c
  rw [List.length_map] at c'
  have hk:k<ns.length:=by omega
  exact ⟨_,rfl,_,rfl,a,_,_,_,rfl,rfl,hS,at_map (List.getElem?_eq_getElem hk),q _⟩
def sp_pack (K:PySem.W.Frag):Sp:=fun vs H Q _=>∃ (a:Addr) (ns:List Int),vs=[.ref a]∧SqL K H a (ns.map V.int)∧∀ p H',H p=none→Same H H'→PackAt K ns a p H'→Q (.ref p) H'
theorem sc_pack:FnScope ["_law_script"] ["_law_script"] (defScope s_pack):=⟨rfl,rfl,rfl,by decide +kernel,rfl,by decide +kernel,by decide +kernel⟩
theorem ok_pack (F:Fun K "_law_pack" "_law_pack" s_pack f fd) (C_nth:Cal P w K mg base 1 "_law_nth" ["_law_script","_law_k"] (sp_nth K)):FnOk P w K mg base CX0 2 f fd ["_law_script"] (sp_pack K):=by
  refine F.ok sc_pack (fun vs H Q E h=>?_) (fun cdv A outer s H vs Q E hr h=>?_)
  · obtain ⟨a,ns,rfl,_⟩:=h
    rfl
  obtain ⟨a,ns,rfl,hS,q⟩:=h
  refine ⟨_,(pss_one (ps_ret (pe_lst (pa_cons (pe_cmpR op_eq (pe_op op_mod (pe_fn C_nth hr (by decide) rfl (pa_cons (pv 0) (pa_cons pe_int pa_nil))) pe_int) pe_int (nomark _)) (pa_cons (pe_fn C_nth hr (by decide) rfl (pa_cons (pv 0) (pa_cons pe_int pa_nil))) (pa_cons pe_int (pa_cons (pv 0) (pa_cons pe_int (pa_cons pe_int pa_nil))))))))),?_⟩
  refine ⟨_,rfl,a,ns,0,rfl,hS,fun z1=>?_⟩
  refine ⟨_,_,rfl,rfl,(show (0:Int)<2 by decide),rfl,_,rfl,a,ns,1,rfl,hS,fun z2=>?_⟩
  refine ⟨_,rfl,(by show 6≤sizeLine; decide),fun p hp=>?_⟩
  exact q p _ hp (same_new hp _) ⟨(same_new hp _).seq hS,_,z2,2,11,0,upd_same,by decide,by decide⟩
def sp_next (K:PySem.W.Frag):Sp:=fun vs H Q _=>∃ (a p:Addr) (ns:List Int),vs=[.ref p]∧PackAt K ns a p H∧∀ H',Bt p H H'→PackAt K ns a p H'→Q .non H'
theorem sc_next:FnScope ["_law_pack_here"] ["_law_pack_here"] (defScope s_next):=⟨rfl,rfl,rfl,by decide +kernel,rfl,by decide +kernel,by decide +kernel⟩
theorem ok_next (F:Fun K "_law_next" "_law_next" s_next f fd) (C_nth:Cal P w K mg base 1 "_law_nth" ["_law_script","_law_k"] (sp_nth K)):FnOk P w K mg base CX0 2 f fd ["_law_pack_here"] (sp_next K):=by
  refine F.ok sc_next (fun vs H Q E h=>?_) (fun cdv A outer s H vs Q E hr h=>?_)
  · obtain ⟨a,p,ns,rfl,_⟩:=h
    rfl
  obtain ⟨a,p,ns,rfl,⟨hS,b,c,k,z,w,hp,z0,z1⟩,q⟩:=h
  refine ⟨_,(pss_one (ps_if (pt_val (pe_ix ix_list (pv 0) pe_int (fun _ _=>rfl)))
    (pss_cons (ps_asg (pe_fn C_nth hr (by decide) rfl (pa_cons (pe_ix ix_list (pv 0) pe_int (fun _ _=>rfl)) (pa_cons (pe_ix ix_list (pv 0) pe_int (fun _ _=>rfl)) pa_nil))) (pg_sub (pv 0) pe_int set_list))
    (pss_one (ps_asg (pe_op op_add (pe_ix ix_list (pv 0) pe_int (fun _ _=>rfl)) pe_int) (pg_sub (pv 0) pe_int set_list))))
    pss_nil)),?_⟩
  refine ⟨_,rfl,p,_,_,_,rfl,rfl,SqL.of hp,rfl,_,rfl,?_⟩
  refine ite2 (fun _=>?_) (fun _=>q H (.refl p H) ⟨hS,b,c,k,z,w,hp,z0,z1⟩)
  refine ⟨_,rfl,p,_,_,_,rfl,rfl,SqL.of hp,rfl,_,rfl,p,_,_,_,rfl,rfl,SqL.of hp,rfl,a,ns,k,rfl,hS,fun c2=>?_⟩
  refine ⟨_,rfl,p,_,_,_,rfl,rfl,hp,rfl,?_⟩
  have hp2:(upd H p (.lst [.bl b,.int c2,.int k,.ref a,.int z,.int w])) p=some (.lst [.bl b,.int c2,.int k,.ref a,.int z,.int w]):=upd_same
  refine ⟨_,rfl,p,_,_,_,rfl,rfl,SqL.of hp2,rfl,_,_,rfl,rfl,?_⟩
  refine ⟨_,rfl,p,_,_,_,rfl,rfl,hp2,rfl,?_⟩
  have s2:Bt p H (upd (upd H p (.lst [.bl b,.int c2,.int k,.ref a,.int z,.int w])) p (.lst [.bl b,.int c2,.int ((k+1:Nat):Int),.ref a,.int z,.int w])):=((Bt.refl p H).upd _).upd _
  exact q _ s2 ⟨seq_bt hp s2 hS,b,c2,k+1,z,w,upd_same,z0,z1⟩
end
end K23
namespace K23
open PySem L2
section
variable {P:Program} {w:World} {K:PySem.W.Frag} {mg:Str→Option Value} {base:Heap} {f:Addr} {fd:FuncData}
def sp_draw (K:PySem.W.Frag):Sp:=fun vs H Q _=>∃ (a p:Addr) (ns:List Int) (m:Int),vs=[.ref p,.int m]∧PackAt K ns a p H∧1≤m∧m<1073741824∧∀ d H',0≤d→d<m→Bt p H H'→PackAt K ns a p H'→Q (.int d) H'
theorem sc_draw:FnScope ["_law_pack_here","_law_many","_law_cell","_law_square","_law_number","_law_digit"] ["_law_pack_here","_law_many"] (defScope s_draw):=⟨rfl,rfl,rfl,by decide +kernel,rfl,by decide +kernel,by decide +kernel⟩
theorem ok_draw (F:Fun K "_law_draw" "_law_draw" s_draw f fd) (B:Blt mg):FnOk P w K mg base CX0 1 f fd ["_law_pack_here","_law_many"] (sp_draw K):=by
  refine F.ok sc_draw (fun vs H Q E h=>?_) (fun cdv A outer s H vs Q E hr h=>?_)
  · obtain ⟨a,p,ns,m,rfl,_⟩:=h
    rfl
  obtain ⟨a,p,ns,m,rfl,⟨hS,b,c,k,z,w,hp,z0,z1⟩,m1,m2,q⟩:=h
  refine ⟨_,(pss_join (ps_if (PW.pt (pw_and (pt_val (pe_ix ix_list (pv 0) pe_int (fun _ _=>rfl))) (pw_and1 (pt_cmpR op_notIn_seq (pe_ix ix_list (pv 0) pe_int (fun _ _=>rfl)) (pe_lst (pa_cons pe_int (pa_cons (pe_un un_neg pe_int) pa_nil))) rfl))))
    (pss_cons (ps_asg (pe_callB call_divmod rfl B.divmod_ PyProof.Rows.boot_divmod (pa_cons (pe_ix ix_list (pv 0) pe_int (fun _ _=>rfl)) (pa_cons (pv 1) pa_nil))) (pg_tup rfl (pgs_cons (pg_name (i:=4) sc_draw.nd rfl (Or.inl rfl)) (pgs_cons (pg_name (i:=5) sc_draw.nd rfl (Or.inl rfl)) pgs_nil))))
    (pss_cons (ps_asg (pv 4) (pg_sub (pv 0) pe_int set_list))
    (pss_one (ps_ret (pv 5)))))
    pss_nil)
    (pss_cons (ps_set (i:=2) sc_draw.nd rfl (Or.inl rfl) pe_int)
    (pss_join (ps_if (pt_cmpR (op_neL hr.units0) (pe_ix ix_list (pv 0) pe_int (fun _ _=>rfl)) (pe_lst pa_nil) (nomark _))
    (pss_one (ps_set (i:=2) sc_draw.nd rfl (Or.inl rfl) (pe_op op_mod (pe_ix ix_list (pe_ix ix_list (pv 0) pe_int (fun _ _=>rfl)) (pe_op op_mod (pe_ix ix_list (pv 0) pe_int (fun _ _=>rfl)) (pe_callB call_len_seq rfl B.len_ PySem.boot_len (pa_cons (pe_ix ix_list (pv 0) pe_int (fun _ _=>rfl)) pa_nil))) (fun _ _=>rfl)) pe_int)))
    pss_nil)
    (pss_cons (ps_asg (pe_op op_add (pe_ix ix_list (pv 0) pe_int (fun _ _=>rfl)) pe_int) (pg_sub (pv 0) pe_int set_list))
    (pss_cons (ps_set (i:=3) sc_draw.nd rfl (Or.inl rfl) (pe_op op_mul (pe_ix ix_list (pv 0) pe_int (fun _ _=>rfl)) (pe_ix ix_list (pv 0) pe_int (fun _ _=>rfl))))
    (pss_cons (ps_asg (pe_op op_mod (pe_op op_add (pe_op op_add (pv 3) (pe_op op_mul pe_int (pv 2))) (pe_op op_mul pe_int (pe_ix ix_list (pv 0) pe_int (fun _ _=>rfl)))) pe_int) (pg_sub (pv 0) pe_int set_list))
    (pss_one (ps_ret (pe_op op_mod (pe_op op_mod (pe_op op_add (pe_op op_mul (pe_op op_fdiv (pe_ix ix_list (pv 0) pe_int (fun _ _=>rfl)) pe_int) pe_int) (pv 2)) pe_int) (pv 1)))))))))),?_⟩
  have fl:(ns.map V.int).all flatV=true:=by
    rw [List.all_eq_true]
    intro x hx
    obtain ⟨o,_,rfl⟩:=List.mem_map.mp hx
    rfl
  refine ⟨fun σ H'=>σ=[some (.ref p),some (.int m),none,none,none,none]∧Same H H',?_,?_⟩
  · refine ⟨_,rfl,p,_,_,_,rfl,rfl,SqL.of hp,rfl,_,rfl,?_⟩
    refine ite2 (fun _=>?_) (fun _=>iteF ⟨rfl,.refl H⟩)
    refine ⟨_,rfl,p,_,_,_,rfl,rfl,SqL.of hp,rfl,_,rfl,(by show 2≤sizeLine; decide),fun l hl=>?_⟩
    refine ⟨l,_,rfl,.inl (SqL.of upd_same),rfl,rfl,_,rfl,?_⟩
    have s2:Same H (upd H l (.lst [.int 0,.int (-1)])):=same_new hl _
    refine ite2 (fun _=>?_) (fun _=>⟨rfl,s2⟩)
    have hp2:=s2 _ _ hp
    refine ⟨_,rfl,p,_,_,_,rfl,rfl,SqL.of hp2,rfl,_,rfl,_,_,rfl,⟨by omega,m2⟩,fun T hT=>?_⟩
    have s3:=s2.trans (same_new hT (.tup [.int (c / m),.int (c % m)]))
    have hp3:=s3 _ _ hp
    refine ⟨T,_,rfl,SqT.of upd_same,rfl,_,_,rfl,_,_,rfl,rfl,?_⟩
    refine ⟨_,rfl,_,rfl,p,_,_,_,rfl,rfl,hp3,rfl,?_⟩
    refine ⟨_,rfl,?_⟩
    have s4:=(Bt.same (p:=p) s3).upd (.lst [.bl b,.int (c / m),.int k,.ref a,.int z,.int w])
    exact q _ _ (Int.emod_nonneg _ (by omega)) (Int.emod_lt_of_pos _ (by omega)) s4 ⟨seq_bt hp s4 hS,b,c / m,k,z,w,upd_same,z0,z1⟩
  rintro σ H2 ⟨rfl,s2⟩
  have hp2:=s2 _ _ hp
  have hS2:=s2.seq hS
  refine ⟨fun σ H'=>∃ cell:Int,σ=[some (.ref p),some (.int m),some (.int cell),none,none,none]∧Same H H',?_,?_⟩
  · refine ⟨_,rfl,p,_,_,_,rfl,rfl,SqL.of hp2,rfl,(by show 0≤sizeLine; decide),fun l2 hl2=>?_⟩
    have s3:=s2.trans (same_new hl2 (.lst []))
    refine ⟨a,l2,_,[],rfl,rfl,(same_new hl2 _).seq hS2,SqL.of upd_same,fl,rfl,_,rfl,?_⟩
    have hp3:=s3 _ _ hp
    have hS3:=s3.seq hS
    refine ite2 (fun e=>?_) (fun _=>⟨7,rfl,s3⟩)
    have hne:0<ns.length:=by
      cases ns with
      | nil=>cases e
      | cons n r=>exact Nat.succ_pos _
    have hlm:(ns.map V.int).length=ns.length:=List.length_map _
    have hw:((w:Int) % (((ns.map V.int).length:Nat):Int))=((w % ns.length:Nat):Int):=by rw [hlm,Int.natCast_emod]
    have hlt:w % ns.length<ns.length:=Nat.mod_lt _ hne
    have hat:atI (ns.map V.int) ((w:Int) % (((ns.map V.int).length:Nat):Int))=some (.int ns[w % ns.length]):=by rw [hw]; exact at_map (List.getElem?_eq_getElem hlt)
    exact ⟨_,rfl,p,_,_,_,rfl,rfl,SqL.of hp3,rfl,_,rfl,p,_,_,_,rfl,rfl,SqL.of hp3,rfl,_,rfl,p,_,_,_,rfl,rfl,SqL.of hp3,rfl,a,_,rfl,.inl hS3,_,_,rfl,rfl,(by rw [hlm]; omega),a,_,_,_,rfl,rfl,hS3,hat,_,_,rfl,rfl,(show (0:Int)<1000000000039 by decide),_,rfl,s3⟩
  rintro σ H3 ⟨cell,rfl,s3⟩
  have hp3:=s3 _ _ hp
  have hS3:=s3.seq hS
  refine ⟨_,rfl,p,_,_,_,rfl,rfl,SqL.of hp3,rfl,_,_,rfl,rfl,?_⟩
  refine ⟨_,rfl,p,_,_,_,rfl,rfl,hp3,rfl,?_⟩
  refine ⟨_,rfl,p,_,_,_,rfl,rfl,SqL.of upd_same,rfl,_,rfl,p,_,_,_,rfl,rfl,SqL.of upd_same,rfl,_,_,rfl,rfl,.inl ⟨by omega,by omega⟩,?_⟩
  refine ⟨_,rfl,_,rfl,_,_,rfl,rfl,.inl ⟨by decide,by decide⟩,_,_,rfl,rfl,_,rfl,p,_,_,_,rfl,rfl,SqL.of upd_same,rfl,_,_,rfl,rfl,.inl ⟨by decide,by decide⟩,_,_,rfl,rfl,_,_,rfl,rfl,(show (0:Int)<998244359987 by decide),?_⟩
  refine ⟨_,rfl,p,_,_,_,rfl,rfl,upd_same,rfl,?_⟩
  refine ⟨_,rfl,p,_,_,_,rfl,rfl,SqL.of upd_same,rfl,_,_,rfl,rfl,⟨by decide,by decide⟩,_,_,rfl,rfl,.inr ⟨by decide,by decide⟩,_,rfl,_,_,rfl,rfl,_,_,rfl,rfl,(show (0:Int)<987654323 by decide),_,rfl,_,_,rfl,rfl,(show (0:Int)<m by omega),?_⟩
  have z2:∀ y:Int,0≤y % 998244359987∧y % 998244359987<998244359987:=fun y=>⟨Int.emod_nonneg _ (by decide),Int.emod_lt_of_pos _ (by decide)⟩
  refine q _ _ (Int.emod_nonneg _ (by omega)) (Int.emod_lt_of_pos _ (by omega)) (((Bt.same (p:=p) s3).upd _).upd _) ⟨seq_bt hp (((Bt.same (p:=p) s3).upd _).upd _) hS,b,c,k,_,w+1,upd_same,(z2 _).1,(z2 _).2⟩
end
end K23
namespace K23
open PySem L2
structure Lis where
  (whom:Nat) (beats:Int) (back:Bool)
inductive RW where
  | all | any | num (n:Int)
structure Bell where
  (name:Str) (start:Int) (rule:RW) (lis:List Lis)
def lisV (l:Lis):List V:=[.int l.whom,.int l.beats,.int (if l.back then 1 else 0)]
def rwV:RW→V
  | .all=>.str "all"
  | .any=>.str "any"
  | .num n=>.int n
def LisAt (H:Hp) (v:V) (l:Lis):Prop:=∃ a,v=.ref a∧H a=some (.tup (lisV l))
def BellAt (H:Hp) (v:V) (b:Bell):Prop:=∃ a t ls,v=.ref a∧H a=some (.tup [.str b.name,.int b.start,rwV b.rule,.ref t])∧H t=some (.tup ls)∧Paired (LisAt H) ls b.lis
def ChoirAt (H:Hp) (v:V) (c:List Bell):Prop:=∃ a vs,v=.ref a∧H a=some (.tup vs)∧Paired (BellAt H) vs c
def TupS (H H':Hp):Prop:=∀ b xs,H b=some (.tup xs)→H' b=some (.tup xs)
theorem TupS.trans {H H1 H2:Hp} (a:TupS H H1) (b:TupS H1 H2):TupS H H2:=fun c xs e=>b c xs (a c xs e)
theorem Same.tup {H H':Hp} (s:Same H H'):TupS H H':=fun b xs e=>s b _ e
theorem tup_upd {H:Hp} {p:Addr} {o:HO} (h:∀ xs,H p≠some (.tup xs)):TupS H (upd H p o):=fun b xs e=>by
  have hb:b≠p:=fun z=>h xs (by rw [← z]; exact e)
  rw [upd_ne hb]
  exact e
theorem paired_imp {α β:Type} {F G:α→β→Prop} (f:∀ a b,F a b→G a b):∀ {xs:List α} {ys:List β},Paired F xs ys→Paired G xs ys
  | _,_,.nil=>.nil
  | _,_,.cons r t=>.cons (f _ _ r) (paired_imp f t)
theorem paired_len {α β:Type} {F:α→β→Prop}:∀ {xs:List α} {ys:List β},Paired F xs ys→xs.length=ys.length
  | _,_,.nil=>rfl
  | _,_,.cons _ t=>congrArg (·+1) (paired_len t)
theorem paired_at {α β:Type} {F:α→β→Prop}:∀ {xs:List α} {ys:List β} {i:Nat} {x:α},Paired F xs ys→xs[i]?=some x→∃ y,ys[i]?=some y∧F x y
  | _,_,0,_,.cons r _,e=>by simp at e; subst e; exact ⟨_,rfl,r⟩
  | _,_,i+1,_,.cons _ t,e=>by
    obtain ⟨y,h1,h2⟩:=paired_at (i:=i) t (by simpa using e)
    exact ⟨y,by simpa using h1,h2⟩
theorem paired_at' {α β:Type} {F:α→β→Prop}:∀ {xs:List α} {ys:List β} {i:Nat} {y:β},Paired F xs ys→ys[i]?=some y→∃ x,xs[i]?=some x∧F x y
  | _,_,0,_,.cons r _,e=>by simp at e; subst e; exact ⟨_,rfl,r⟩
  | _,_,i+1,_,.cons _ t,e=>by
    obtain ⟨y,h1,h2⟩:=paired_at' (i:=i) t (by simpa using e)
    exact ⟨y,by simpa using h1,h2⟩
theorem paired_snoc {α β:Type} {F:α→β→Prop} {x:α} {y:β} (h:F x y):∀ {xs:List α} {ys:List β},Paired F xs ys→Paired F (xs++[x]) (ys++[y])
  | _,_,.nil=>.cons h .nil
  | _,_,.cons r t=>.cons r (paired_snoc h t)
theorem LisAt.mono {H H':Hp} (s:TupS H H') {v:V} {l:Lis} (h:LisAt H v l):LisAt H' v l:=by
  obtain ⟨a,e,q⟩:=h
  exact ⟨a,e,s _ _ q⟩
theorem BellAt.mono {H H':Hp} (s:TupS H H') {v:V} {b:Bell} (h:BellAt H v b):BellAt H' v b:=by
  obtain ⟨a,t,ls,e,q1,q2,q3⟩:=h
  exact ⟨a,t,ls,e,s _ _ q1,s _ _ q2,paired_imp (fun _ _ z=>z.mono s) q3⟩
theorem ChoirAt.mono {H H':Hp} (s:TupS H H') {v:V} {c:List Bell} (h:ChoirAt H v c):ChoirAt H' v c:=by
  obtain ⟨a,vs,e,q1,q2⟩:=h
  exact ⟨a,vs,e,s _ _ q1,paired_imp (fun _ _ z=>z.mono s) q2⟩
def GoodR (n:Nat):RW→Prop
  | .num i=>1≤i∧i≤n
  | _=>True
def GoodL (m k:Nat) (waits:Bool) (l:Lis):Prop:=l.whom<m∧1≤l.beats∧l.beats≤1000∧(waits=false→l.back=false→l.whom<k)
structure GoodB (m k:Nat) (waits:Bool) (b:Bell):Prop where
  n1:1≤b.lis.length
  n6:b.lis.length≤6
  s0:0≤b.start
  s1:b.start≤1000
  r:GoodR b.lis.length b.rule
  l:∀ l∈b.lis,GoodL m k waits l
end K23
namespace K23
open PySem L2
theorem PackAt.tupS {K:PySem.W.Frag} {ns:List Int} {a p:Addr} {H H':Hp} (P:PackAt K ns a p H) (s:Bt p H H'):TupS H H':=fun b xs e=>by
  obtain ⟨_,b',c,k,z,w,hp,_⟩:=P
  refine s b _ ?_ e
  rintro rfl
  rw [hp] at e
  cases e
section
variable {P:Program} {w:World} {K:PySem.W.Frag} {mg:Str→Option Value} {base:Heap} {f:Addr} {fd:FuncData}
theorem pick4 {d:Int} (h0:0≤d) (h1:d<4):∃ m:Int,atI [V.int 4,.int 9,.int 60,.int 1000] d=some (.int m)∧1≤m∧m≤1000:=by
  have hc:d=0∨d=1∨d=2∨d=3:=by omega
  rcases hc with rfl | rfl | rfl | rfl
  · exact ⟨4,rfl,by decide,by decide⟩
  · exact ⟨9,rfl,by decide,by decide⟩
  · exact ⟨60,rfl,by decide,by decide⟩
  · exact ⟨1000,rfl,by decide,by decide⟩
def sp_listening (K:PySem.W.Frag):Sp:=fun vs H Q _=>∃ (a p:Addr) (ns:List Int) (k m:Nat) (waits:Bool),vs=[.ref p,.int k,.int m,.bl waits]∧PackAt K ns a p H∧1≤m∧m≤6∧
  ∀ v l H',Bt p H H'→PackAt K ns a p H'→LisAt H' v l→GoodL m k waits l→Q v H'
theorem sc_listening:FnScope ["_law_pack_here","_law_k","_law_many","_law_waits","_law_whom","_law_beats","_law_back"] ["_law_pack_here","_law_k","_law_many","_law_waits"] (defScope s_listening):=⟨rfl,rfl,rfl,by decide +kernel,rfl,by decide +kernel,by decide +kernel⟩
theorem ok_listening (F:Fun K "_law_listening" "_law_listening" s_listening f fd) (B:Blt mg) (C_draw:Cal P w K mg base 1 "_law_draw" ["_law_pack_here","_law_many"] (sp_draw K)):FnOk P w K mg base CX0 2 f fd ["_law_pack_here","_law_k","_law_many","_law_waits"] (sp_listening K):=by
  refine F.ok sc_listening (fun vs H Q E h=>?_) (fun cdv A outer s H vs Q E hr h=>?_)
  · obtain ⟨a,p,ns,k,m,waits,rfl,_⟩:=h
    rfl
  obtain ⟨a,p,ns,k,m,waits,rfl,P0,m1,m6,q⟩:=h
  refine ⟨_,(pss_cons (ps_set (i:=4) sc_listening.nd rfl (Or.inl rfl) (pe_fn C_draw hr (by decide) rfl (pa_cons (pv 0) (pa_cons (pv 2) pa_nil))))
    (pss_cons (ps_set (i:=5) sc_listening.nd rfl (Or.inl rfl) (pe_op op_add pe_int (pe_fn C_draw hr (by decide) rfl (pa_cons (pv 0) (pa_cons (pe_ix ix_list (pe_lst (pa_cons pe_int (pa_cons pe_int (pa_cons pe_int (pa_cons pe_int pa_nil))))) (pe_fn C_draw hr (by decide) rfl (pa_cons (pv 0) (pa_cons pe_int pa_nil))) (fun _ _=>rfl)) pa_nil)))))
    (pss_cons (ps_set (i:=6) sc_listening.nd rfl (Or.inl rfl) (pe_callTy call_int1 rfl B.int_ PyProof.Rows.boot_int (pa_cons (pe_cmpR op_gt (pe_fn C_draw hr (by decide) rfl (pa_cons (pv 0) (pa_cons pe_int pa_nil))) pe_int (nomark _)) pa_nil)))
    (pss_cons (ps_if (PW.pt (pw_and (pt_cmpR op_ge (pv 4) (pv 1) (nomark _)) (pw_and1 (pt_not (pt_val (pv 3))))))
    (pss_one (ps_set (i:=6) sc_listening.nd rfl (Or.inl rfl) pe_int))
    pss_nil)
    (pss_one (ps_ret (pe_tup (pa_cons (pv 4) (pa_cons (pv 5) (pa_cons (pv 6) pa_nil)))))))))),?_⟩
  refine ⟨_,rfl,_,rfl,a,p,ns,m,rfl,P0,by omega,by omega,fun d1 H1 d10 d11 s1 P1=>?_⟩
  refine ⟨_,rfl,(by show 4≤sizeLine; decide),fun l hl=>?_⟩
  have s1':=s1.new hl (.lst [.int 4,.int 9,.int 60,.int 1000])
  have P1':PackAt K ns a p (upd H1 l (.lst [.int 4,.int 9,.int 60,.int 1000])):=by
    obtain ⟨z1,b,c,k,z,w,hp,z2⟩:=P1
    exact ⟨(same_new hl _).seq z1,b,c,k,z,w,(same_new hl _) _ _ hp,z2⟩
  refine ⟨_,rfl,a,p,ns,4,rfl,P1',by decide,by decide,fun d2 H2 d20 d21 s2 P2=>?_⟩
  obtain ⟨mx,hmx,mx1,mx2⟩:=pick4 d20 d21
  have hl2:H2 l=some (.lst [.int 4,.int 9,.int 60,.int 1000]):=s2 l _ (by rintro rfl; exact absurd hl (by obtain ⟨o,e⟩:=P1.there; rw [e]; intro z; cases z)) upd_same
  refine ⟨l,_,_,_,rfl,rfl,SqL.of hl2,hmx,a,p,ns,mx,rfl,P2,mx1,by omega,fun d3 H3 d30 d31 s3 P3=>?_⟩
  refine ⟨_,_,rfl,rfl,?_⟩
  refine ⟨_,rfl,a,p,ns,3,rfl,P3,by decide,by decide,fun d4 H4 d40 d41 s4 P4=>?_⟩
  refine ⟨_,_,rfl,rfl,.inr ⟨_,rfl,?_⟩⟩
  have st:Bt p H H4:=((s1'.trans s2).trans s3).trans s4
  have fin:∀ (back:Bool),(waits=false→back=false→d1.toNat<k)→∀ T,H4 T=none→Q (.ref T) (upd H4 T (.tup [.int d1,.int (1+d3),.int (if back then 1 else 0)])):=fun back hb T hT=>by
    refine q (.ref T) ⟨d1.toNat,1+d3,back⟩ _ (st.new hT _) ?_ ⟨T,rfl,?_⟩ ⟨(show d1.toNat<m by omega),(show 1≤1+d3 by omega),(show 1+d3≤1000 by omega),hb⟩
    · obtain ⟨z1,b,c,k,z,w,hp,z2⟩:=P4
      exact ⟨(same_new hT _).seq z1,b,c,k,z,w,(same_new hT _) _ _ hp,z2⟩
    · have e:((d1.toNat:Nat):Int)=d1:=by omega
      show upd H4 T _ T=some (.tup [.int ((d1.toNat:Nat):Int),_,_])
      rw [e]
      exact upd_same
  refine ⟨_,rfl,_,rfl,_,_,rfl,rfl,_,rfl,?_⟩
  refine ite2 (fun c1=>?_) (fun c1=>?_)
  · refine ⟨_,rfl,_,rfl,?_⟩
    refine ite2 (fun c2=>?_) (fun c2=>?_)
    · refine ⟨_,rfl,_,rfl,_,rfl,(by show 3≤sizeLine; decide),fun T hT=>?_⟩
      exact fin true (fun _ z=>nomatch z) T hT
    · refine ⟨_,rfl,_,rfl,_,rfl,(by show 3≤sizeLine; decide),fun T hT=>?_⟩
      refine fin (decide (0<d4)) (fun hw _=>?_) T hT
      subst hw
      exact absurd rfl c2
  · refine ⟨_,rfl,_,rfl,_,rfl,(by show 3≤sizeLine; decide),fun T hT=>?_⟩
    refine fin (decide (0<d4)) (fun _ _=>?_) T hT
    have c1':¬ (k:Int)≤d1:=of_decide_eq_false (Bool.eq_false_iff.mpr c1)
    omega
def sp_rulep (K:PySem.W.Frag):Sp:=fun vs H Q _=>∃ (a p:Addr) (ns:List Int) (style:Int) (n:Nat),vs=[.ref p,.int style,.int n]∧PackAt K ns a p H∧1≤n∧n≤6∧∀ r H',Bt p H H'→PackAt K ns a p H'→GoodR n r→Q (rwV r) H'
theorem sc_rulep:FnScope ["_law_pack_here","_law_style","_law_count"] ["_law_pack_here","_law_style","_law_count"] (defScope s_rule):=⟨rfl,rfl,rfl,by decide +kernel,rfl,by decide +kernel,by decide +kernel⟩
theorem PackAt.new {K:PySem.W.Frag} {ns:List Int} {a p l:Addr} {H:Hp} (P:PackAt K ns a p H) (h:H l=none) (o:HO):PackAt K ns a p (upd H l o):=by
  obtain ⟨z1,b,c,k,z,w,hp,z2⟩:=P
  exact ⟨(same_new h _).seq z1,b,c,k,z,w,(same_new h _) _ _ hp,z2⟩
theorem PackAt.ne {K:PySem.W.Frag} {ns:List Int} {a p l:Addr} {H:Hp} (P:PackAt K ns a p H) (h:H l=none):l≠p:=by
  obtain ⟨o,e⟩:=P.there
  rintro rfl
  rw [e] at h
  cases h
theorem ok_rulep (F:Fun K "_law_rule" "_law_rule" s_rule f fd) (C_draw:Cal P w K mg base 1 "_law_draw" ["_law_pack_here","_law_many"] (sp_draw K)):FnOk P w K mg base CX0 2 f fd ["_law_pack_here","_law_style","_law_count"] (sp_rulep K):=by
  refine F.ok sc_rulep (fun vs H Q E h=>?_) (fun cdv A outer s H vs Q E hr h=>?_)
  · obtain ⟨a,p,ns,style,n,rfl,_⟩:=h
    rfl
  obtain ⟨a,p,ns,style,n,rfl,P0,n1,n6,q⟩:=h
  refine ⟨_,(pss_cons (ps_if (pt_cmpR op_eq (pv 1) pe_int (nomark _))
    (pss_one (ps_ret (pe_ix ix_list (pe_lst (pa_cons pe_str (pa_cons (pv 2) pa_nil))) (pe_fn C_draw hr (by decide) rfl (pa_cons (pv 0) (pa_cons pe_int pa_nil))) (fun _ _=>rfl))))
    pss_nil)
    (pss_cons (ps_if (pt_cmpR op_eq (pv 1) pe_int (nomark _))
    (pss_one (ps_ret (pe_ix ix_list (pe_lst (pa_cons pe_str (pa_cons pe_int pa_nil))) (pe_fn C_draw hr (by decide) rfl (pa_cons (pv 0) (pa_cons pe_int pa_nil))) (fun _ _=>rfl))))
    pss_nil)
    (pss_one (ps_ret (pe_ix ix_list (pe_lst (pa_cons pe_str (pa_cons pe_str (pa_cons (pe_op op_add pe_int (pe_fn C_draw hr (by decide) rfl (pa_cons (pv 0) (pa_cons (pv 2) pa_nil)))) pa_nil)))) (pe_fn C_draw hr (by decide) rfl (pa_cons (pv 0) (pa_cons pe_int pa_nil))) (fun _ _=>rfl)))))),?_⟩
  refine ⟨_,rfl,rfl,_,rfl,?_⟩
  refine ite2 (fun _=>?_) (fun _=>?_)
  · refine ⟨_,rfl,(by show 2≤sizeLine; decide),fun l hl=>?_⟩
    refine ⟨_,rfl,a,p,ns,2,rfl,P0.new hl _,by decide,by decide,fun d H1 d0 d1 s1 P1=>?_⟩
    have hl1:=s1 l _ (P0.ne hl) (upd_same (o:=.lst [.str "all",.int n]))
    have hc:d=0∨d=1:=by omega
    rcases hc with rfl | rfl
    · exact ⟨l,_,_,_,rfl,rfl,SqL.of hl1,rfl,q .all _ (((Bt.refl p H).new hl _).trans s1) P1 trivial⟩
    · exact ⟨l,_,_,_,rfl,rfl,SqL.of hl1,rfl,q (.num n) _ (((Bt.refl p H).new hl _).trans s1) P1 ⟨by omega,by omega⟩⟩
  refine ⟨_,rfl,rfl,_,rfl,?_⟩
  refine ite2 (fun _=>?_) (fun _=>?_)
  · refine ⟨(by show 2≤sizeLine; decide),fun l hl=>?_⟩
    refine ⟨_,rfl,a,p,ns,2,rfl,P0.new hl _,by decide,by decide,fun d H1 d0 d1 s1 P1=>?_⟩
    have hl1:=s1 l _ (P0.ne hl) (upd_same (o:=.lst [.str "any",.int 1]))
    have hc:d=0∨d=1:=by omega
    rcases hc with rfl | rfl
    · exact ⟨l,_,_,_,rfl,rfl,SqL.of hl1,rfl,q .any _ (((Bt.refl p H).new hl _).trans s1) P1 trivial⟩
    · exact ⟨l,_,_,_,rfl,rfl,SqL.of hl1,rfl,q (.num 1) _ (((Bt.refl p H).new hl _).trans s1) P1 ⟨by omega,by omega⟩⟩
  refine ⟨_,rfl,_,rfl,a,p,ns,n,rfl,P0,by omega,by omega,fun d1 H1 d10 d11 s1 P1=>?_⟩
  refine ⟨_,_,rfl,rfl,(by show 3≤sizeLine; decide),fun l hl=>?_⟩
  refine ⟨_,rfl,a,p,ns,3,rfl,P1.new hl _,by decide,by decide,fun d H2 d0 d2 s2 P2=>?_⟩
  have hl1:=s2 l _ (P1.ne hl) (upd_same (o:=.lst [.str "all",.str "any",.int (1+d1)]))
  have st:=(s1.new hl (.lst [.str "all",.str "any",.int (1+d1)])).trans s2
  have hc:d=0∨d=1∨d=2:=by omega
  rcases hc with rfl | rfl | rfl
  · exact ⟨l,_,_,_,rfl,rfl,SqL.of hl1,rfl,q .all _ st P2 trivial⟩
  · exact ⟨l,_,_,_,rfl,rfl,SqL.of hl1,rfl,q .any _ st P2 trivial⟩
  · exact ⟨l,_,_,_,rfl,rfl,SqL.of hl1,rfl,q (.num (1+d1)) _ st P2 ⟨by omega,by omega⟩⟩
end
end K23
namespace K23
open PySem L2
theorem at_zero {α:Type} (x:α) (r:List α):atI (x::r) 0=some x:=atI_nat (j:=0) rfl
def letters:Str:="abcdefghijklmnopqrstuvwxyz"
theorem letters_len:letters.cps.toList.length=26:=by decide +kernel
theorem letters_size:letters.length=26:=by decide +kernel
def cand (c:Nat):Str:=(⟨#[c]⟩:Str)++("ring":Str)
theorem cand_len (c:Nat):(cand c).length=5:=by
  unfold cand
  rw [str_app_len]
  rfl
theorem cands_nodup:(letters.cps.toList.map cand).Nodup:=by decide +kernel
theorem ring_free (names:List Str) (h:names.length≤5):∃ c∈letters.cps.toList,cand c∉names:=by
  refine Classical.byContradiction fun no=>?_
  have all:∀ x∈letters.cps.toList.map cand,x∈names:=fun x hx=>by
    obtain ⟨c,hc,rfl⟩:=List.mem_map.mp hx
    exact Classical.byContradiction fun hm=>no ⟨c,hc,hm⟩
  have:=nodup_sub cands_nodup all
  rw [List.length_map,letters_len] at this
  omega
theorem ring_first (names:List Str) (h:names.length≤5):∃ z rest,(letters.cps.toList.filter (fun c=>decide (cand c∉names))).map (fun c=>V.str (cand c))=V.str z::rest∧z∉names∧z.length=5:=by
  obtain ⟨c,hc,hm⟩:=ring_free names h
  have hin:c∈letters.cps.toList.filter (fun c=>decide (cand c∉names)):=List.mem_filter.mpr ⟨hc,decide_eq_true hm⟩
  cases e:letters.cps.toList.filter (fun c=>decide (cand c∉names)) with
  | nil=>rw [e] at hin; cases hin
  | cons c0 r =>
    have h0:c0∈letters.cps.toList.filter (fun c=>decide (cand c∉names)):=by rw [e]; exact List.mem_cons_self
    exact ⟨cand c0,_,rfl,of_decide_eq_true (List.mem_filter.mp h0).2,cand_len c0⟩
theorem PackAt.same {K:PySem.W.Frag} {ns:List Int} {a p:Addr} {H H':Hp} (P:PackAt K ns a p H) (s:Same H H'):PackAt K ns a p H':=by
  obtain ⟨z1,b,c,k,z,w,hp,z2⟩:=P
  exact ⟨s.seq z1,b,c,k,z,w,s _ _ hp,z2⟩
section
variable {P:Program} {w:World} {K:PySem.W.Frag} {mg:Str→Option Value} {base:Heap} {f:Addr} {fd:FuncData}
def sp_name (K:PySem.W.Frag):Sp:=fun vs H Q _=>∃ (a p sn:Addr) (ns:List Int) (names:List Str),vs=[.ref p,.ref sn]∧PackAt K ns a p H∧H sn=some (.lst (names.map V.str))∧names.length≤5∧(∀ x∈names,x.length≤8)∧
  ∀ z H',z∉names→1≤z.length→z.length≤8→Bt p H H'→PackAt K ns a p H'→Q (.str z) H'
theorem sc_name:FnScope ["_law_pack_here","_law_seen","_law_letters","_law_name_here","_law_way","_law_k"] ["_law_pack_here","_law_seen"] (defScope s_name):=⟨rfl,rfl,rfl,by decide +kernel,rfl,by decide +kernel,by decide +kernel⟩
theorem ok_name (F:Fun K "_law_name" "_law_name" s_name f fd) (B:Blt mg) (C_draw:Cal P w K mg base 1 "_law_draw" ["_law_pack_here","_law_many"] (sp_draw K)):FnOk P w K mg base CX0 2 f fd ["_law_pack_here","_law_seen"] (sp_name K):=by
  refine F.ok sc_name (fun vs H Q E h=>?_) (fun cdv A outer s H vs Q E hr h=>?_)
  · obtain ⟨a,p,sn,ns,names,rfl,_⟩:=h
    rfl
  obtain ⟨a,p,sn,ns,names,rfl,P0,hsn,hn5,hn8,q⟩:=h
  have nsp:sn≠p:=by
    rintro rfl
    obtain ⟨_,b,c,k,z,w,hp,_⟩:=P0
    rw [hsn] at hp
    have e:=HO.lst.inj (Option.some.inj hp)
    cases names with
    | nil=>cases e
    | cons x r=>cases e
  refine ⟨_,(pss_cons (ps_set (i:=2) sc_name.nd rfl (Or.inl rfl) pe_str)
    (pss_cons (ps_set (i:=3) sc_name.nd rfl (Or.inl rfl) pe_str)
    (pss_cons (ps_set (i:=4) sc_name.nd rfl (Or.inl rfl) (pe_fn C_draw hr (by decide) rfl (pa_cons (pv 0) (pa_cons pe_int pa_nil))))
    (pss_join (ps_if (PW.pt (pw_and (pt_cmpR op_gt (pv 4) pe_int (nomark _)) (pw_and1 (pt_cmpR (op_neL hr.units0) (pv 1) (pe_lst pa_nil) (nomark _)))))
    (pss_one (ps_set (i:=3) sc_name.nd rfl (Or.inl rfl) (pe_slice sl_str (pe_ix ix_list (pv 1) (pe_un un_neg pe_int) (fun _ _=>rfl)) po_none (po_some (pe_op op_sub pe_int (pe_op op_mul pe_int (pe_op op_sub (pv 4) pe_int)))))))
    pss_nil)
    (pss_join (ps_for PassesOwn.never rfl (pi_range1 rfl B.range_ (pa_cons (pe_op op_add pe_int (pe_fn C_draw hr (by decide) rfl (pa_cons (pv 0) (pa_cons (pe_op op_sub pe_int (pe_callB call_len_str rfl B.len_ PySem.boot_len (pa_cons (pv 3) pa_nil))) pa_nil)))) pa_nil)) (pg_name (i:=5) sc_name.nd rfl (Or.inl rfl))
    (pss_cons (ps_set (i:=3) sc_name.nd rfl (Or.inl rfl) (pe_op op_add_str (pv 3) (pe_ix ix_str (pv 2) (pe_fn C_draw hr (by decide) rfl (pa_cons (pv 0) (pa_cons pe_int pa_nil))) (fun _ _=>rfl))))
    (pss_one (ps_if (pt_cmpR op_eq (pv 4) pe_int (nomark _))
    (pss_one ps_break)
    pss_nil))))
    (pss_join (ps_if (pt_join (PW.pt (pw_or (pt_cmpR op_in_seq (pv 3) (pv 1) rfl) (pw_or1 (pt_cmpR op_in_seq (pv 3) (pe_lst (pa_cons pe_str (pa_cons pe_str (pa_cons pe_str (pa_cons pe_str pa_nil))))) rfl)))))
    (pss_one (ps_set (i:=3) sc_name.nd rfl (Or.inl rfl) (pe_ix ix_list (pe_comp ["_law_sign"] ["_law_seen"] [1] rfl (pi_str (pv 2)) (fun _ _ _ _ _=>(pg_name (i:=0) (show List.Nodup [("_law_sign":Str),("_law_seen":Str)] by decide +kernel) rfl (Or.inl rfl))) (fun _ _ _ _ _=>(pts_one (pt_cmpR (op_notIn_seqC (K:=K) rfl) (pe_op op_add_str (pv 0) pe_str) (pv 1) rfl))) (fun _ _ _ _ _=>(pe_op op_add_str (pv 0) pe_str))) pe_int (fun _ _=>rfl))))
    pss_nil)
    (pss_one (ps_ret (pv 3))))))))),?_⟩
  refine ⟨_,rfl,a,p,ns,3,rfl,P0,by decide,by decide,fun way H1 w0 w1 s1 P1=>?_⟩
  have hsn1:=s1 _ _ nsp hsn
  refine ⟨fun σ H'=>∃ zN:Str,zN.length≤7∧σ=[some (.ref p),some (.ref sn),some (.str letters),some (.str zN),some (.int way),none]∧Bt p H H'∧PackAt K ns a p H',?_,?_⟩
  · refine ⟨_,rfl,_,_,rfl,rfl,_,rfl,?_⟩
    refine ite2 (fun cw=>?_) (fun _=>iteF ⟨_,(by decide +kernel),rfl,s1,P1⟩)
    refine ⟨_,rfl,(by show 0≤sizeLine; decide),fun l hl=>?_⟩
    have sl:=same_new hl (.lst [])
    refine ⟨sn,l,_,[],rfl,rfl,SqL.of (sl _ _ hsn1),SqL.of upd_same,strs_flat names,rfl,_,rfl,?_⟩
    refine ite2 (fun ce=>?_) (fun _=>⟨_,(by decide +kernel),rfl,s1.new hl _,P1.new hl _⟩)
    have hne:names≠[]:=by
      rintro rfl
      cases ce
    have hat:atI (names.map V.str) (-1)=some (.str (names.getLast hne)):=by
      have e:names.map V.str=(names.dropLast.map V.str)++[V.str (names.getLast hne)]:=by
        have:=List.dropLast_concat_getLast hne
        conv=>lhs; rw [← this]
        rw [List.map_append]
        rfl
      rw [e]
      exact atI_last _ _
    have hl8:(names.getLast hne).length≤8:=hn8 _ (List.getLast_mem hne)
    have cw':(0:Int)<way:=of_decide_eq_true cw
    have hz7:(Txt.slice (names.getLast hne) none (some (7 - 3 * (way - 1)))).length≤7:=by
      have hc:way=1∨way=2:=by omega
      rcases hc with rfl | rfl
      · exact slice_len _ 7
      · exact Nat.le_trans (slice_len _ 4) (by decide)
    exact ⟨_,rfl,_,rfl,sn,_,_,_,rfl,rfl,SqL.of (sl _ _ hsn1),hat,_,rfl,_,_,rfl,rfl,_,_,rfl,rfl,.inl ⟨by decide,by decide⟩,_,_,rfl,rfl,_,rfl,_,rfl,(by rw [sizeLine_eq]; omega),_,hz7,rfl,s1.new hl _,P1.new hl _⟩
  rintro σ Hx ⟨zN,hz7,rfl,sx,Px⟩
  refine ⟨fun σ H'=>∃ (z:Str) (o5:Option V),σ=[some (.ref p),some (.ref sn),some (.str letters),some (.str z),some (.int way),o5]∧(1≤z.length∧z.length≤8)∧Bt p H H'∧PackAt K ns a p H',?_,?_⟩
  · refine ⟨_,rfl,_,rfl,_,rfl,(by rw [sizeLine_eq]; omega),_,_,rfl,rfl,a,p,ns,_,rfl,Px,(by show 1≤8 - ((zN.length:Nat):Int); omega),(by show 8 - ((zN.length:Nat):Int)<1073741824; omega),fun d Hy d0 d1 sy Py=>?_⟩
    refine ⟨_,_,rfl,rfl,_,rfl,(by show -(2 ^ 62)≤1+d; omega),(by show 1+d<2 ^ 62; omega),?_⟩
    refine for_range (lo:=0) (n:=(1+d).toNat) (fun i σ H2=>∃ (z:Str) (o5:Option V),σ=[some (.ref p),some (.ref sn),some (.str letters),some (.str z),some (.int way),o5]∧Bt p H H2∧PackAt K ns a p H2∧z.length=zN.length+i) ⟨zN,none,rfl,sx.trans sy,Py,rfl⟩ ?_ ?_
    · rintro i σ H2 hi ⟨z,o5,rfl,s2,P2,hz⟩
      refine ⟨_,rfl,_,rfl,_,rfl,a,p,ns,26,rfl,P2,by decide,by decide,fun d2 H3 d20 d21 s3 P3=>?_⟩
      have hd2:d2.toNat<letters.cps.toList.length:=by rw [letters_len]; omega
      have hat:atI letters.cps.toList d2=some letters.cps.toList[d2.toNat]:=by
        have e:d2=((d2.toNat:Nat):Int):=by omega
        have:=atI_nat (List.getElem?_eq_getElem hd2)
        rw [← e] at this
        exact this
      refine ⟨letters,_,_,rfl,rfl,(by rw [letters_size]; decide),hat,?_⟩
      have hz9:z.length+1≤8:=by
        have:((zN.length:Nat):Int)+(i:Int)<8:=by omega
        omega
      refine ⟨_,_,rfl,rfl,(by rw [str_size1,sizeLine_eq]; omega),?_⟩
      have hzl:(z++(⟨#[letters.cps.toList[d2.toNat]]⟩:Str)).length=z.length+1:=by rw [str_app_len]; rfl
      generalize z++(⟨#[letters.cps.toList[d2.toNat]]⟩:Str)=zz at hzl ⊢
      refine ⟨_,rfl,rfl,_,rfl,?_⟩
      exact ite2 (fun _=>⟨zz,_,rfl,⟨by omega,by omega⟩,s2.trans s3,P3⟩) (fun _=>⟨zz,_,rfl,s2.trans s3,P3,by omega⟩)
    · rintro σ H2 ⟨z,o5,rfl,s2,P2,hz⟩
      exact ⟨z,o5,rfl,⟨by omega,by omega⟩,s2,P2⟩
  rintro σ H2 ⟨z,o5,rfl,⟨zl,zu⟩,s2,P2⟩
  have hsn2:=s2 _ _ nsp hsn
  refine ⟨fun σ H'=>∃ (z:Str) (o5:Option V),σ=[some (.ref p),some (.ref sn),some (.str letters),some (.str z),some (.int way),o5]∧z∉names∧(1≤z.length∧z.length≤8)∧Bt p H H'∧PackAt K ns a p H',?_,?_⟩
  · refine ⟨fun b H'=>Same H2 H'∧(b=false→z∉names),?_,?_⟩
    · refine ⟨_,rfl,_,rfl,sn,_,rfl,.inl (SqL.of hsn2),rfl,strs_flat names,_,rfl,?_⟩
      refine ite2 (fun c1=>⟨.refl H2,fun h=>nomatch h⟩) (fun c1=>?_)
      have c1':¬ inV (.str z) (names.map V.str)=true:=c1
      rw [inV_str] at c1'
      refine ⟨_,rfl,(by show 4≤sizeLine; decide),fun l4 hl4=>?_⟩
      exact ⟨l4,_,rfl,.inl (SqL.of upd_same),rfl,rfl,_,rfl,same_new hl4 _,fun _ hz=>c1' (decide_eq_true hz)⟩
    · rintro b H3 ⟨s3,hb⟩
      cases b with
      | false=>exact iteF ⟨z,_,rfl,hb rfl,⟨zl,zu⟩,s2.trans (Bt.same s3),P2.same s3⟩
      | true =>
        refine iteT ?_
        have hsn3:=s3 _ _ hsn2
        refine ⟨_,rfl,letters,rfl,fun D hD=>?_⟩
        refine comp_str (z:=letters) (fun i ys H4=>Same H3 H4∧H4 sn=some (.lst (names.map V.str))∧ys=((letters.cps.toList.take i).filter (fun c=>decide (cand c∉names))).map (fun c=>V.str (cand c))) ⟨same_new hD _,(same_new hD _) _ _ hsn3,rfl⟩ ?_ ?_
        · rintro i c ys H4 hc ⟨s4,hsn4,rfl⟩ hD4
          have hc':letters.cps.toList[i]?=some c:=by simpa using hc
          have hi:i<26:=by
            have:=(List.getElem?_eq_some_iff.mp hc').1
            rw [letters_len] at this
            exact this
          refine ⟨rfl,?_⟩
          refine ⟨_,rfl,_,_,rfl,rfl,(by show 1+4≤sizeLine; decide),_,rfl,sn,_,rfl,.inl (SqL.of hsn4),rfl,strs_flat names,_,rfl,?_⟩
          have hfl:((letters.cps.toList.take (i+1)).filter (fun c=>decide (cand c∉names)))=((letters.cps.toList.take i).filter (fun c=>decide (cand c∉names)))++(if decide (cand c∉names)=true then [c] else []):=by
            rw [take_snoc hc',List.filter_append]
            by_cases hm:cand c∈names <;> simp [hm]
          refine ite2 (fun e=>?_) (fun e=>?_)
          · have e':(!inV (.str (cand c)) (names.map V.str))=true:=e
            rw [inV_str] at e'
            have hm:cand c∉names:=by simpa using e'
            refine ⟨_,rfl,_,_,rfl,rfl,(by show 1+4≤sizeLine; decide),_,hD4,?_,_,⟨s4.upd hD _,?_,rfl⟩,?_⟩
            · rw [List.length_map]
              refine small1000 (Nat.le_trans (List.length_filter_le _ _) ?_)
              rw [List.length_take]
              omega
            · rw [upd_ne (fun z=>by rw [z,hD] at hsn3; cases hsn3)]
              exact hsn4
            · rw [hfl,if_pos (decide_eq_true hm),List.map_append]
              exact upd_same
          · have e':¬ (!inV (.str (cand c)) (names.map V.str))=true:=e
            rw [inV_str] at e'
            have hm:cand c∈names:=by simpa using e'
            refine ⟨_,⟨s4,hsn4,rfl⟩,?_⟩
            rw [hfl,if_neg (by simp [hm]),List.append_nil]
            exact hD4
        · rintro ys H4 ⟨s4,hsn4,rfl⟩ hD4
          have hT:letters.cps.toList.take letters.cps.size=letters.cps.toList:=List.take_of_length_le (by simp)
          rw [hT] at hD4
          obtain ⟨z0,rest,hz0,hm0,hl0⟩:=ring_first names hn5
          rw [hz0] at hD4
          have s34:=s3.trans s4
          exact ⟨D,_,_,_,rfl,rfl,SqL.of hD4,at_zero _ _,z0,_,rfl,hm0,⟨by omega,by omega⟩,s2.trans (Bt.same s34),P2.same s34⟩
  rintro σ H4 ⟨z,o5,rfl,hz,⟨zl,zu⟩,s4,P4⟩
  exact ⟨_,rfl,q z _ hz zl zu s4 P4⟩
end
end K23
namespace K23
open PySem L2
theorem Bt.upd' {p q:Addr} {H H1:Hp} (a:Bt p H H1) (h:H q=none) (o:HO):Bt p H (L2.upd H1 q o):=fun b u n e=>by
  have hb:b≠q:=fun z=>by rw [z,h] at e; cases e
  rw [upd_ne hb]
  exact a b u n e
theorem PackAt.later {K:PySem.W.Frag} {ns:List Int} {a p q:Addr} {H H1:Hp} (P0:PackAt K ns a p H) (P:PackAt K ns a p H1) (s:Bt p H H1) (h:H q=none) (o:HO):PackAt K ns a p (L2.upd H1 q o):=by
  obtain ⟨y1,b0,c0,k0,z0,w0,hp0,y2⟩:=P0
  obtain ⟨z1,b,c,k,z,w,hp,z2⟩:=P
  have hne:p≠q:=fun e=>by rw [← e,hp0] at h; cases h
  exact ⟨seq_bt hp0 (s.upd' h o) y1,b,c,k,z,w,by rw [upd_ne hne]; exact hp,z2⟩
theorem pick3 {d:Int} (h0:0≤d) (h1:d<3):∃ m:Int,atI [V.int 6,.int 40,.int 1001] d=some (.int m)∧1≤m∧m≤1001:=by
  have hc:d=0∨d=1∨d=2:=by omega
  rcases hc with rfl | rfl | rfl
  · exact ⟨6,rfl,by decide,by decide⟩
  · exact ⟨40,rfl,by decide,by decide⟩
  · exact ⟨1001,rfl,by decide,by decide⟩
theorem pick2 {d:Int} (h0:0≤d) (h1:d<2):∃ m:Int,atI [V.int 3,.int 6] d=some (.int m)∧1≤m∧m≤6:=by
  have hc:d=0∨d=1:=by omega
  rcases hc with rfl | rfl
  · exact ⟨3,rfl,by decide,by decide⟩
  · exact ⟨6,rfl,by decide,by decide⟩
section
variable {P:Program} {w:World} {K:PySem.W.Frag} {mg:Str→Option Value} {base:Heap} {f:Addr} {fd:FuncData}
def GoodC (waits:Bool) (c:List Bell):Prop:=(∀ (k:Nat) b,c[k]?=some b→GoodB c.length k waits b)∧(c.map (·.name)).Nodup
def sp_choir (K:PySem.W.Frag):Sp:=fun vs H Q _=>∃ (a p:Addr) (ns:List Int) (most:Nat) (waits:Bool),vs=[.ref p,.int most,.bl waits]∧PackAt K ns a p H∧1≤most∧most≤6∧
  ∀ v c H',Bt p H H'→PackAt K ns a p H'→ChoirAt H' v c→1≤c.length→c.length≤most→GoodC waits c→Q v H'
theorem sc_choir:FnScope ["_law_pack_here","_law_most","_law_waits","_law_many","_law_style","_law_names","_law_bells","_law_k","_law_start","_law_count","_law_rule_here"] ["_law_pack_here","_law_most","_law_waits"] (defScope s_choir):=⟨rfl,rfl,rfl,by decide +kernel,rfl,by decide +kernel,by decide +kernel⟩
theorem ok_choir (F:Fun K "_law_choir" "_law_choir" s_choir f fd) (B:Blt mg) (C_draw:Cal P w K mg base 1 "_law_draw" ["_law_pack_here","_law_many"] (sp_draw K)) (C_next:Cal P w K mg base 2 "_law_next" ["_law_pack_here"] (sp_next K)) (C_name:Cal P w K mg base 2 "_law_name" ["_law_pack_here","_law_seen"] (sp_name K))
    (C_rule:Cal P w K mg base 2 "_law_rule" ["_law_pack_here","_law_style","_law_count"] (sp_rulep K)) (C_listening:Cal P w K mg base 2 "_law_listening" ["_law_pack_here","_law_k","_law_many","_law_waits"] (sp_listening K)):FnOk P w K mg base CX0 3 f fd ["_law_pack_here","_law_most","_law_waits"] (sp_choir K):=by
  refine F.ok sc_choir (fun vs H Q E h=>?_) (fun cdv A outer s H vs Q E hr h=>?_)
  · obtain ⟨a,p,ns,most,waits,rfl,_⟩:=h
    rfl
  obtain ⟨a,p,ns,most,waits,rfl,P0,mo1,mo6,q⟩:=h
  refine ⟨_,(pss_cons (ps_set (i:=3) sc_choir.nd rfl (Or.inr rfl) (pe_op op_add pe_int (pe_fn C_draw hr (by decide) rfl (pa_cons (pv 0) (pa_cons (pv 1) pa_nil)))))
    (pss_cons (ps_set (i:=4) sc_choir.nd rfl (Or.inl rfl) (pe_fn C_draw hr (by decide) rfl (pa_cons (pv 0) (pa_cons pe_int pa_nil))))
    (pss_cons (ps_set (i:=5) sc_choir.nd rfl (Or.inl rfl) (pe_lst pa_nil))
    (pss_cons (ps_set (i:=6) sc_choir.nd rfl (Or.inl rfl) (pe_lst pa_nil))
    (pss_cons (ps_for PassesOwn.never rfl (pi_range1 rfl B.range_ (pa_cons (pv 3) pa_nil)) (pg_name (i:=7) sc_choir.nd rfl (Or.inr rfl))
    (pss_cons (ps_expr (pe_fn C_next hr (by decide) rfl (pa_cons (pv 0) pa_nil)))
    (pss_cons (ps_expr (pe_bm PySem.F.plainAttrs_list PySem.F.slot_list_append PySem.F.type_list_append mt_append (pv 5) (pa_cons (pe_fn C_name hr (by decide) rfl (pa_cons (pv 0) (pa_cons (pv 5) pa_nil))) pa_nil)))
    (pss_cons (ps_set (i:=8) sc_choir.nd rfl (Or.inl rfl) (pe_fn C_draw hr (by decide) rfl (pa_cons (pv 0) (pa_cons (pe_ix ix_list (pe_lst (pa_cons pe_int (pa_cons pe_int (pa_cons pe_int pa_nil)))) (pe_fn C_draw hr (by decide) rfl (pa_cons (pv 0) (pa_cons pe_int pa_nil))) (fun _ _=>rfl)) pa_nil))))
    (pss_cons (ps_set (i:=9) sc_choir.nd rfl (Or.inl rfl) (pe_op op_add pe_int (pe_fn C_draw hr (by decide) rfl (pa_cons (pv 0) (pa_cons (pe_ix ix_list (pe_lst (pa_cons pe_int (pa_cons pe_int pa_nil))) (pe_fn C_draw hr (by decide) rfl (pa_cons (pv 0) (pa_cons pe_int pa_nil))) (fun _ _=>rfl)) pa_nil)))))
    (pss_cons (ps_set (i:=10) sc_choir.nd rfl (Or.inl rfl) (pe_fn C_rule hr (by decide) rfl (pa_cons (pv 0) (pa_cons (pv 4) (pa_cons (pv 9) pa_nil)))))
    (pss_one (ps_expr (pe_bm PySem.F.plainAttrs_list PySem.F.slot_list_append PySem.F.type_list_append mt_append (pv 6) (pa_cons (pe_tup (pa_cons (pe_ix ix_list (pv 5) (pv 7) (fun _ _=>rfl)) (pa_cons (pv 8) (pa_cons (pv 10) (pa_cons (pe_callTy call_tuple_of rfl B.tuple_ PyProof.Rows.boot_tuple (pa_cons (pe_comp ["_law_j"] ["_law_pack_here","_law_k","_law_many","_law_waits"] [0,7,3,2] rfl (pi_range1 rfl B.range_ (pa_cons (pv 9) pa_nil)) (fun _ _ _ _ _=>(pg_name (i:=0) (show List.Nodup [("_law_j":Str),("_law_pack_here":Str),("_law_k":Str),("_law_many":Str),("_law_waits":Str)] by decide +kernel) rfl (Or.inl rfl))) (fun _ _ _ _ _=>pts_nil) (fun _ _ _ _ _=>(pe_fn C_listening hr (by decide) rfl (pa_cons (pv 1) (pa_cons (pv 2) (pa_cons (pv 3) (pa_cons (pv 4) pa_nil))))))) pa_nil)) pa_nil))))) pa_nil))))))))))
    (pss_one (ps_ret (pe_callTy call_tuple_of rfl B.tuple_ PyProof.Rows.boot_tuple (pa_cons (pv 6) pa_nil))))))))),?_⟩
  refine ⟨_,rfl,_,rfl,a,p,ns,most,rfl,P0,by omega,by omega,fun d1 H1 d10 d11 s1 P1=>?_⟩
  refine ⟨_,_,rfl,rfl,?_⟩
  obtain ⟨m,hm⟩:∃ m:Nat,1+d1=(m:Int):=⟨(1+d1).toNat,by omega⟩
  dsimp only
  rw [hm]
  have m1:1≤m:=by omega
  have mm:m≤most:=by omega
  refine ⟨_,rfl,a,p,ns,4,rfl,P1,by decide,by decide,fun style H2 st0 st1 s2 P2=>?_⟩
  refine ⟨(by show 0≤sizeLine; decide),fun ln hln=>?_⟩
  refine ⟨(by show 0≤sizeLine; decide),fun lb hlb=>?_⟩
  have s2':=s1.trans s2
  have nln:H ln=none:=s2'.free P2.there hln
  have P2n:=P2.new hln (.lst [])
  have nlb:H lb=none:=(s2'.new hln (.lst [])).free P2n.there hlb
  have nnb:ln≠lb:=fun e=>by rw [← e,upd_same] at hlb; cases hlb
  have npn:ln≠p:=P2.ne hln
  have npb:lb≠p:=P2n.ne hlb
  refine ⟨_,rfl,(m:Int),rfl,by omega,by omega,?_⟩
  refine for_range (lo:=0) (n:=((m:Nat):Int).toNat) (fun i σ H3=>∃ (c:List Bell) (vs:List V) (o7 o8 o9 o10:Option V),σ=[some (.ref p),some (.int most),some (.bl waits),some (.int m),some (.int style),some (.ref ln),some (.ref lb),o7,o8,o9,o10]∧
      Bt p H H3∧PackAt K ns a p H3∧H3 ln=some (.lst ((c.map (·.name)).map V.str))∧H3 lb=some (.lst vs)∧Paired (BellAt H3) vs c∧c.length=i∧(∀ (k:Nat) b,c[k]?=some b→GoodB m k waits b)∧(c.map (·.name)).Nodup∧∀ x∈c.map (·.name),x.length≤8)
    ⟨[],[],none,none,none,none,rfl,(s2'.new hln _).new hlb _,P2n.new hlb _,by rw [upd_ne nnb]; exact upd_same,upd_same,.nil,rfl,(fun k b e=>by simp at e),by simp,by simp⟩ ?_ ?_
  · rintro i σ H3 hi ⟨c,vs,o7,o8,o9,o10,rfl,s3,P3,hn3,hb3,pr3,hci,gc3,nd3,l83⟩
    have him:i<m:=by omega
    rw [Int.zero_add]
    refine ⟨_,rfl,a,p,ns,rfl,P3,fun H4 s4 P4=>?_⟩
    have hn4:=s4 _ _ npn hn3
    have hb4:=s4 _ _ npb hb3
    have hl5:(c.map (·.name)).length≤5:=by rw [List.length_map]; omega
    refine ⟨_,rfl,.inl ⟨rfl,_,SqL.of hn4⟩,_,rfl,_,rfl,a,p,ln,ns,c.map (·.name),rfl,P4,hn4,hl5,l83,fun z H5 hz z1 z8 s5 P5=>?_⟩
    have hn5:=s5 _ _ npn hn4
    have hb5:=s5 _ _ npb hb4
    refine ⟨ln,_,_,rfl,rfl,hn5,(by rw [List.length_map]; exact small1000 (by omega)),?_⟩
    have s35:=s4.trans s5
    have s05:=s3.trans s35
    have s06:=s05.upd' nln (.lst ((c.map (·.name)).map V.str++[.str z]))
    have P6:=P0.later P5 s05 nln (.lst ((c.map (·.name)).map V.str++[.str z]))
    have t36:TupS H3 (upd H5 ln (.lst ((c.map (·.name)).map V.str++[.str z]))):=(P3.tupS s35).trans (tup_upd fun xs e=>by rw [hn5] at e; cases e)
    have hn6:=upd_same (H:=H5) (a:=ln) (o:=.lst ((c.map (·.name)).map V.str++[.str z]))
    have hb6:(upd H5 ln (.lst ((c.map (·.name)).map V.str++[.str z]))) lb=some (.lst vs):=by rw [upd_ne (Ne.symm nnb)]; exact hb5
    generalize upd H5 ln (.lst ((c.map (·.name)).map V.str++[.str z]))=H6 at s06 P6 t36 hn6 hb6 ⊢
    refine ⟨_,rfl,(by show 3≤sizeLine; decide),fun l1 hl1=>?_⟩
    refine ⟨_,rfl,a,p,ns,3,rfl,P6.new hl1 _,by decide,by decide,fun d2 H7 d20 d21 s7 P7=>?_⟩
    obtain ⟨mx,hmx,mx1,mx2⟩:=pick3 d20 d21
    have hl17:=s7 _ _ (P6.ne hl1) (upd_same (o:=.lst [.int 6,.int 40,.int 1001]))
    refine ⟨l1,_,_,_,rfl,rfl,SqL.of hl17,hmx,a,p,ns,mx,rfl,P7,mx1,by omega,fun start H8 st80 st81 s8 P8=>?_⟩
    have s68:Bt p H6 H8:=(((Bt.refl p H6).new hl1 _).trans s7).trans s8
    refine ⟨_,rfl,(by show 2≤sizeLine; decide),fun l2 hl2=>?_⟩
    refine ⟨_,rfl,a,p,ns,2,rfl,P8.new hl2 _,by decide,by decide,fun d3 H9 d30 d31 s9 P9=>?_⟩
    obtain ⟨mc,hmc,mc1,mc2⟩:=pick2 d30 d31
    have hl29:=s9 _ _ (P8.ne hl2) (upd_same (o:=.lst [.int 3,.int 6]))
    refine ⟨l2,_,_,_,rfl,rfl,SqL.of hl29,hmc,a,p,ns,mc,rfl,P9,mc1,by omega,fun d4 H10 d40 d41 s10 P10=>?_⟩
    refine ⟨_,_,rfl,rfl,?_⟩
    obtain ⟨n,hn⟩:∃ n:Nat,1+d4=(n:Int):=⟨(1+d4).toNat,by omega⟩
    dsimp only
    rw [hn]
    have n1:1≤n:=by omega
    have n6:n≤6:=by omega
    have s610:Bt p H6 H10:=(s68.trans ((Bt.refl p H8).new hl2 _)).trans (s9.trans s10)
    refine ⟨_,rfl,_,rfl,_,rfl,a,p,ns,style,n,rfl,P10,n1,n6,fun r H11 s11 P11 gr=>?_⟩
    have s611:=s610.trans s11
    have hn11:=s611 _ _ npn hn6
    have hb11:=s611 _ _ npb hb6
    have hat:atI ((c.map (·.name)).map V.str++[V.str z]) (i:Int)=some (.str z):=by
      refine atI_nat ?_
      have e:((c.map (·.name)).map V.str).length=i:=by rw [List.length_map,List.length_map]; exact hci
      rw [← e,List.getElem?_concat_length]
    refine ⟨_,rfl,.inl ⟨rfl,_,SqL.of hb11⟩,_,rfl,_,rfl,ln,_,_,_,rfl,rfl,SqL.of hn11,hat,_,rfl,_,rfl,_,rfl,(n:Int),rfl,by omega,by omega,fun D hD=>?_⟩
    refine comp_range (fun j ys H12=>∃ ls:List Lis,Bt p H11 H12∧PackAt K ns a p H12∧Paired (LisAt H12) ys ls∧ls.length=j∧∀ l∈ls,GoodL m i waits l) ⟨[],(Bt.refl p H11).new hD _,P11.new hD _,.nil,rfl,by simp⟩ ?_ ?_
    · rintro j ys H12 hj ⟨ls,s12,P12,pr12,hlj,gl⟩ hD12
      refine ⟨rfl,tTrue_ite ?_⟩
      refine ⟨_,rfl,_,rfl,_,rfl,_,rfl,a,p,ns,i,m,waits,rfl,P12,m1,by omega,fun v l H13 s13 P13 hl gl1=>?_⟩
      have nDp:D≠p:=P11.ne hD
      have hD13:=s13 _ _ nDp hD12
      have s13':=s12.trans s13
      have hyl:ys.length=j:=(paired_len pr12).trans hlj
      refine ⟨_,hD13,(by rw [hyl]; exact small1000 (by omega)),_,⟨ls++[l],s13'.upd' hD _,P11.later P13 s13' hD _,?_,by rw [List.length_append,hlj]; rfl,?_⟩,upd_same⟩
      · have tD:TupS H13 (upd H13 D (.lst (ys++[v]))):=tup_upd fun xs e=>by rw [hD13] at e; cases e
        exact paired_snoc (hl.mono tD) (paired_imp (fun _ _ z=>z.mono ((P12.tupS s13).trans tD)) pr12)
      · intro l' hl'
        rcases List.mem_append.mp hl' with z | z
        · exact gl l' z
        · have e:l'=l:=by simpa using z
          subst e
          exact gl1
    · rintro ys H12 ⟨ls,s12,P12,pr12,hlj,gl⟩ hD12
      have hln6:ls.length=n:=by rw [hlj]; omega
      refine ⟨D,_,rfl,.inl ⟨SqL.of hD12,fun lt hlt=>?_⟩⟩
      refine ⟨(by show 4≤sizeLine; decide),fun T hT=>?_⟩
      have u1:=same_new hlt (.tup ys)
      have u2:=u1.trans (same_new hT (.tup [.str z,.int start,rwV r,.ref lt]))
      have hb12:=s12 _ _ npb hb11
      have hb13:=u2 _ _ hb12
      have hvl:vs.length=i:=(paired_len pr3).trans hci
      refine ⟨lb,_,_,rfl,rfl,hb13,(by rw [hvl]; exact small1000 (by omega)),?_⟩
      have s012:Bt p H H12:=((s06.trans s611).trans s12)
      have s013:=s012.trans (Bt.same u2)
      have s014:=s013.upd' nlb (.lst (vs++[.ref T]))
      have P13:=P12.same u2
      have P14:=P0.later P13 s013 nlb (.lst (vs++[.ref T]))
      have hn12:=s12 _ _ npn hn11
      have t1214:TupS H12 (upd (upd (upd H12 lt (.tup ys)) T (.tup [.str z,.int start,rwV r,.ref lt])) lb (.lst (vs++[.ref T]))):=(Same.tup u2).trans (tup_upd fun xs e=>by rw [hb13] at e; cases e)
      have hT14:(upd (upd (upd H12 lt (.tup ys)) T (.tup [.str z,.int start,rwV r,.ref lt])) lb (.lst (vs++[.ref T]))) T=some (.tup [.str z,.int start,rwV r,.ref lt]):=by
        rw [upd_ne (fun e=>by rw [e,upd_same] at hb13; cases hb13)]
        exact upd_same
      have hlt14:(upd (upd (upd H12 lt (.tup ys)) T (.tup [.str z,.int start,rwV r,.ref lt])) lb (.lst (vs++[.ref T]))) lt=some (.tup ys):=by
        have h1:=(same_new hT (.tup [.str z,.int start,rwV r,.ref lt])) _ _ (upd_same (H:=H12) (a:=lt) (o:=.tup ys))
        rw [upd_ne (ne_of h1 hb13 (by intro z; cases z))]
        exact h1
      have hn14:(upd (upd (upd H12 lt (.tup ys)) T (.tup [.str z,.int start,rwV r,.ref lt])) lb (.lst (vs++[.ref T]))) ln=some (.lst ((c.map (·.name)).map V.str++[.str z])):=by
        rw [upd_ne nnb]
        exact u2 _ _ hn12
      have hb14:=upd_same (H:=upd (upd H12 lt (.tup ys)) T (.tup [.str z,.int start,rwV r,.ref lt])) (a:=lb) (o:=.lst (vs++[.ref T]))
      generalize upd (upd (upd H12 lt (.tup ys)) T (.tup [.str z,.int start,rwV r,.ref lt])) lb (.lst (vs++[.ref T]))=H14 at s014 P14 t1214 hT14 hlt14 hn14 hb14 ⊢
      have t314:TupS H3 H14:=t36.trans ((P6.tupS s611).trans ((P11.tupS s12).trans t1214))
      refine ⟨c++[⟨z,start,r,ls⟩],vs++[.ref T],_,_,_,_,rfl,s014,P14,?_,hb14,?_,?_,?_,?_,?_⟩
      · rw [List.map_append,List.map_append]
        exact hn14
      · exact paired_snoc ⟨T,lt,ys,rfl,hT14,hlt14,paired_imp (fun _ _ z=>z.mono t1214) pr12⟩ (paired_imp (fun _ _ z=>z.mono t314) pr3)
      · rw [List.length_append,hci]
        rfl
      · intro k b hk
        by_cases hkc:k<c.length
        · rw [List.getElem?_append_left hkc] at hk
          exact gc3 k b hk
        · rw [List.getElem?_append_right (by omega)] at hk
          have hk0:k - c.length=0:=by
            by_cases h0:k - c.length=0
            · exact h0
            · rw [List.getElem?_eq_none (by simp only [List.length_cons,List.length_nil]; omega)] at hk
              cases hk
          rw [hk0] at hk
          have e:b=⟨z,start,r,ls⟩:=by simpa using hk.symm
          have ek:k=i:=by omega
          subst e ek
          exact ⟨by show 1≤ls.length; omega,by show ls.length≤6; omega,st80,by show start≤1000; omega,by show GoodR ls.length r; rw [hln6]; exact gr,gl⟩
      · rw [List.map_append,List.nodup_append]
        refine ⟨nd3,by simp,?_⟩
        intro x hx y hy
        have e:y=z:=by simpa using hy
        rintro rfl
        exact hz (e▸hx)
      · intro x hx
        rw [List.map_append] at hx
        rcases List.mem_append.mp hx with q1 | q1
        · exact l83 x q1
        · have e:x=z:=by simpa using q1
          rw [e]
          exact z8
  · rintro σ H3 ⟨c,vs,o7,o8,o9,o10,rfl,s3,P3,hn3,hb3,pr3,hci,gc3,nd3,l83⟩
    have hcm:c.length=m:=by rw [hci]; omega
    refine ⟨_,rfl,lb,_,rfl,.inl ⟨SqL.of hb3,fun T hT=>?_⟩⟩
    have u:=same_new hT (.tup vs)
    refine q (.ref T) c _ (s3.trans (Bt.same u)) (P3.same u) ⟨T,vs,rfl,upd_same,paired_imp (fun _ _ z=>z.mono (Same.tup u)) pr3⟩ (by omega) (by omega) ⟨fun k b e=>?_,nd3⟩
    rw [hcm]
    exact gc3 k b e
end
end K23
namespace K23
open PySem L2
def leO (o:Option Int) (v:Int):Bool:=match o with
  | some d=>decide (d≤v)
  | none=>false
def cnt (bs:List (Option Int)) (v:Int):Nat:=bs.countP (fun o=>leO o v)
def tot (bs:List (Option Int)):Nat:=bs.countP (fun o=>o.isSome)
def Due (bs:List (Option Int)) (n:Int):Option Int→Prop
  | none=>(tot bs:Int)<n
  | some v=>n≤(cnt bs v:Int)∧(cnt bs (v - 1):Int)<n
theorem leO_mono {o:Option Int} {v v':Int} (h:v≤v') (e:leO o v=true):leO o v'=true:=by
  cases o with
  | none=>cases e
  | some d=>exact decide_eq_true (by have:=of_decide_eq_true e; omega)
theorem cnt_mono (bs:List (Option Int)) {v v':Int} (h:v≤v'):cnt bs v≤cnt bs v':=List.countP_mono_left fun _ _ e=>leO_mono h e
theorem cnt_tot (bs:List (Option Int)) (v:Int):cnt bs v≤tot bs:=List.countP_mono_left fun o _ e=>by
  cases o with
  | none=>cases e
  | some d=>rfl
theorem due_unique {bs:List (Option Int)} {n:Int} {o o':Option Int} (h:Due bs n o) (h':Due bs n o'):o=o':=by
  cases o with
  | none =>
    cases o' with
    | none=>rfl
    | some v =>
      have h1:(tot bs:Int)<n:=h
      obtain ⟨h2,_⟩:=h'
      have:=cnt_tot bs v
      omega
  | some v =>
    cases o' with
    | none =>
      have h1:(tot bs:Int)<n:=h'
      obtain ⟨h2,_⟩:=h
      have:=cnt_tot bs v
      omega
    | some v' =>
      obtain ⟨a1,a2⟩:=h
      obtain ⟨b1,b2⟩:=h'
      rcases Int.lt_trichotomy v v' with c | c | c
      · have:=cnt_mono bs (show v≤v' - 1 by omega)
        omega
      · rw [c]
      · have:=cnt_mono bs (show v'≤v - 1 by omega)
        omega
def wants (b:Bell):Int:=match b.rule with
  | .all=>b.lis.length
  | .any=>1
  | .num n=>n
def come (before now:List (Option Int)) (l:Lis):Option Int:=((if l.back then before else now)[l.whom]?).join.map (·+l.beats)
def comesOf (b:Bell) (before now:List (Option Int)):List (Option Int):=b.lis.map (come before now)
def Fix (c:List Bell) (before now:List (Option Int)):Prop:=now.length=c.length∧∀ (k:Nat) b,c[k]?=some b→∃ o,now[k]?=some o∧Due (comesOf b before now) (wants b) o
def Slow (c:List Bell):Prop:=∀ (k:Nat) b,c[k]?=some b→∀ l∈b.lis,1≤l.beats
theorem cnt_map {α:Type} (l:List α) (f:α→Option Int) (v:Int):cnt (l.map f) v=l.countP (fun x=>leO (f x) v):=by
  unfold cnt
  rw [List.countP_map]
  rfl
theorem cnt_agree {b:Bell} {before now now':List (Option Int)} {t:Int} (hs:∀ l∈b.lis,1≤l.beats) (h:∀ (k:Nat) u,u<t→now[k]?=some (some u)→now'[k]?=some (some u)):cnt (comesOf b before now) t≤cnt (comesOf b before now') t:=by
  unfold comesOf
  rw [cnt_map,cnt_map]
  refine List.countP_mono_left fun l hl e=>?_
  unfold come at e ⊢
  cases hb:l.back with
  | true=>rw [hb] at e; exact e
  | false =>
    rw [hb] at e
    simp only [Bool.false_eq_true,if_false] at e ⊢
    cases hn:now[l.whom]? with
    | none=>rw [hn] at e; cases e
    | some o =>
      cases o with
      | none=>rw [hn] at e; cases e
      | some u =>
        rw [hn] at e
        have e1:u+l.beats≤t:=of_decide_eq_true e
        have:=hs l hl
        rw [h l.whom u (by omega) hn]
        exact decide_eq_true e1
theorem low (l:List (Option Int)):∃ B:Int,∀ v,some v∈l→B≤v:=by
  induction l with
  | nil=>exact ⟨0,fun v h=>by cases h⟩
  | cons o r ih =>
    obtain ⟨B,hB⟩:=ih
    cases o with
    | none=>exact ⟨B,fun v h=>by
        rcases List.mem_cons.mp h with z | z
        · cases z
        · exact hB v z⟩
    | some d=>exact ⟨min B d,fun v h=>by
        rcases List.mem_cons.mp h with z | z
        · have:=Option.some.inj z
          omega
        · have:=hB v z
          omega⟩
theorem fix_agree {c:List Bell} (hc:Slow c) {before now now':List (Option Int)} (f:Fix c before now) (f':Fix c before now') {B:Int} (hB:∀ v,some v∈now→B≤v) (hB':∀ v,some v∈now'→B≤v) :
    ∀ (n:Nat) (k:Nat) v,v<B+n→(now[k]?=some (some v)↔now'[k]?=some (some v)):=by
  intro n
  induction n with
  | zero =>
    intro k v hv
    refine ⟨fun e=>?_,fun e=>?_⟩
    · have:=hB v (List.mem_of_getElem? e); omega
    · have:=hB' v (List.mem_of_getElem? e); omega
  | succ n ih =>
    have one:∀ {x y:List (Option Int)},Fix c before x→Fix c before y→(∀ (k:Nat) v,v<B+n→(x[k]?=some (some v)↔y[k]?=some (some v)))→∀ (k:Nat) v,v<B+(n+1:Nat)→x[k]?=some (some v)→y[k]?=some (some v):=by
      intro x y fx fy ih k v hv e
      have hk:k<c.length:=by
        rw [← fx.1]
        exact (List.getElem?_eq_some_iff.mp e).1
      have hb:=List.getElem?_eq_getElem hk
      obtain ⟨o,ho,hd⟩:=fx.2 k _ hb
      rw [e] at ho
      cases ho
      obtain ⟨o',ho',hd'⟩:=fy.2 k _ hb
      have hs:=hc k _ hb
      have a1:=cnt_agree (before:=before) (now:=x) (now':=y) (t:=v) hs fun k u hu z=>(ih k u (by omega)).mp z
      have a2:=cnt_agree (before:=before) (now:=y) (now':=x) (t:=v) hs fun k u hu z=>(ih k u (by omega)).mpr z
      have b1:=cnt_agree (before:=before) (now:=x) (now':=y) (t:=v - 1) hs fun k u hu z=>(ih k u (by omega)).mp z
      have b2:=cnt_agree (before:=before) (now:=y) (now':=x) (t:=v - 1) hs fun k u hu z=>(ih k u (by omega)).mpr z
      obtain ⟨d1,d2⟩:=hd
      have hd2:Due (comesOf c[k] before y) (wants c[k]) (some v):=⟨by omega,by omega⟩
      rw [ho',due_unique hd' hd2]
    intro k v hv
    exact ⟨one f f' ih k v hv,one f' f (fun k v h=>(ih k v h).symm) k v hv⟩
theorem fix_unique {c:List Bell} (hc:Slow c) {before now now':List (Option Int)} (f:Fix c before now) (f':Fix c before now'):now=now':=by
  obtain ⟨B1,h1⟩:=low now
  obtain ⟨B2,h2⟩:=low now'
  have ag:=fix_agree hc f f' (B:=min B1 B2) (fun v h=>by have:=h1 v h; omega) (fun v h=>by have:=h2 v h; omega)
  have all:∀ (k:Nat) v,now[k]?=some (some v)↔now'[k]?=some (some v):=fun k v=>ag (v - min B1 B2+1).toNat k v (by omega)
  refine List.ext_getElem? fun k=>?_
  by_cases hk:k<c.length
  · have e1:=List.getElem?_eq_getElem (show k<now.length by rw [f.1]; exact hk)
    have e2:=List.getElem?_eq_getElem (show k<now'.length by rw [f'.1]; exact hk)
    cases o1:now[k]'(by rw [f.1]; exact hk) with
    | some v =>
      rw [o1] at e1
      rw [e1,(all k v).mp e1]
    | none =>
      rw [o1] at e1
      cases o2:now'[k]'(by rw [f'.1]; exact hk) with
      | none=>rw [o2] at e2; rw [e1,e2]
      | some v =>
        rw [o2] at e2
        have:=(all k v).mpr e2
        rw [e1] at this
        cases this
  · rw [List.getElem?_eq_none (by rw [f.1]; omega),List.getElem?_eq_none (by rw [f'.1]; omega)]
structure Going (c:List Bell) (before now:List (Option Int)):Prop where
  len:now.length=c.length
  found:∀ (k:Nat) b v,c[k]?=some b→now[k]?=some (some v)→Due (comesOf b before now) (wants b) (some v)
  least:∀ (j:Nat) u (k:Nat) b v,now[j]?=some (some u)→c[k]?=some b→now[k]?=some none→Due (comesOf b before now) (wants b) (some v)→u≤v
theorem going_start (c:List Bell) (before:List (Option Int)):Going c before (c.map fun _=>none) where
  len:=List.length_map _
  found:=fun k b v hb e=>by
    rw [List.getElem?_map,hb] at e
    cases e
  least:=fun j u k b v e _ _ _=>by
    rw [List.getElem?_map] at e
    cases h:c[j]? with
    | none=>rw [h] at e; cases e
    | some x=>rw [h] at e; cases e
theorem going_on {c:List Bell} (hc:Slow c) {before now:List (Option Int)} (g:Going c before now) {k:Nat} {b:Bell} {beat:Int} (hb:c[k]?=some b) (hn:now[k]?=some none) (hd:Due (comesOf b before now) (wants b) (some beat))
    (hl:∀ (j:Nat) b' v,c[j]?=some b'→now[j]?=some none→Due (comesOf b' before now) (wants b') (some v)→beat≤v):Going c before (now.set k (some beat)):=by
  have hk:k<now.length:=(List.getElem?_eq_some_iff.mp hn).1
  have old:∀ (j:Nat) u,u<beat→((now.set k (some beat))[j]?=some (some u)→now[j]?=some (some u)):=fun j u hu e=>by
    by_cases hj:j=k
    · subst hj
      rw [List.getElem?_set_self hk] at e
      have:=Option.some.inj (Option.some.inj e)
      omega
    · rw [List.getElem?_set_ne (Ne.symm hj)] at e
      exact e
  have new:∀ (j:Nat) u,(now[j]?=some (some u)→(now.set k (some beat))[j]?=some (some u)):=fun j u e=>by
    by_cases hj:j=k
    · subst hj
      rw [hn] at e
      cases e
    · rw [List.getElem?_set_ne (Ne.symm hj)]
      exact e
  have same:∀ (j:Nat) b',c[j]?=some b'→∀ t,t≤beat→cnt (comesOf b' before (now.set k (some beat))) t=cnt (comesOf b' before now) t:=fun j b' hj t ht=>by
    have a1:=cnt_agree (before:=before) (now:=now.set k (some beat)) (now':=now) (t:=t) (hc j b' hj) fun i u hu z=>old i u (by omega) z
    have a2:=cnt_agree (before:=before) (now:=now) (now':=now.set k (some beat)) (t:=t) (hc j b' hj) fun i u hu z=>new i u z
    omega
  refine ⟨by rw [List.length_set]; exact g.len,fun j b' v hj e=>?_,fun j u i b' v e hi ei hd'=>?_⟩
  · by_cases hjk:j=k
    · subst hjk
      rw [List.getElem?_set_self hk] at e
      obtain rfl:beat=v:=Option.some.inj (Option.some.inj e)
      rw [hb] at hj
      cases hj
      exact ⟨by rw [same j b hb beat (by omega)]; exact hd.1,by rw [same j b hb (beat - 1) (by omega)]; exact hd.2⟩
    · rw [List.getElem?_set_ne (Ne.symm hjk)] at e
      have h1:=g.found j b' v hj e
      have h2:=g.least j v k b beat e hb hn hd
      exact ⟨by rw [same j b' hj v (by omega)]; exact h1.1,by rw [same j b' hj (v - 1) (by omega)]; exact h1.2⟩
  · have hik:i≠k:=fun z=>by
      subst z
      rw [List.getElem?_set_self hk] at ei
      cases ei
    rw [List.getElem?_set_ne (Ne.symm hik)] at ei
    have hbv:beat≤v:=by
      refine Classical.byContradiction fun no=>?_
      have h1:Due (comesOf b' before now) (wants b') (some v):=⟨by rw [← same i b' hi v (by omega)]; exact hd'.1,by rw [← same i b' hi (v - 1) (by omega)]; exact hd'.2⟩
      have:=hl i b' v hi ei h1
      omega
    by_cases hjk:j=k
    · subst hjk
      rw [List.getElem?_set_self hk] at e
      have:=Option.some.inj (Option.some.inj e)
      omega
    · rw [List.getElem?_set_ne (Ne.symm hjk)] at e
      have:=g.least j u k b beat e hb hn hd
      omega
theorem going_end {c:List Bell} {before now:List (Option Int)} (g:Going c before now) (h:∀ (k:Nat) b,c[k]?=some b→now[k]?=some none→Due (comesOf b before now) (wants b) none):Fix c before now:=by
  refine ⟨g.len,fun k b hb=>?_⟩
  have hk:k<now.length:=by rw [g.len]; exact (List.getElem?_eq_some_iff.mp hb).1
  have e:=List.getElem?_eq_getElem hk
  cases o:now[k] with
  | none=>rw [o] at e; exact ⟨none,e,h k b hb e⟩
  | some v=>rw [o] at e; exact ⟨some v,e,g.found k b v hb e⟩
def comesL (bs:List (Option Int)):List Int:=bs.filterMap id
theorem comes_tot (bs:List (Option Int)):(comesL bs).length=tot bs:=by
  induction bs with
  | nil=>rfl
  | cons o r ih =>
    cases o with
    | none=>exact ih
    | some d =>
      show (comesL r).length+1=(some d::r).countP _
      rw [List.countP_cons,ih]
      rfl
theorem comes_cnt (bs:List (Option Int)) (v:Int):((comesL bs).filter fun d=>decide (d≤v)).length=cnt bs v:=by
  induction bs with
  | nil=>rfl
  | cons o r ih =>
    unfold cnt at ih ⊢
    cases o with
    | none=>rw [List.countP_cons]; exact ih
    | some d =>
      show ((d::comesL r).filter fun d=>decide (d≤v)).length=_
      rw [List.countP_cons,List.filter_cons]
      by_cases hd:d≤v
      · rw [if_pos (decide_eq_true hd),List.length_cons,ih]
        simp [leO,hd]
      · rw [if_neg (by simpa using hd),ih]
        simp [leO,hd]
theorem sorted_at {ns:List Int} (o:ns.Pairwise (·≤·)) {i j:Nat} (hi:i≤j) (hj:j<ns.length):ns[i]'(by omega)≤ns[j]:=by
  rcases Nat.lt_or_ge i j with h | h
  · exact List.pairwise_iff_getElem.mp o i j (by omega) hj h
  · have e:i=j:=by omega
    subst e
    exact Int.le_refl _
theorem upto_ge {ns:List Int} (o:ns.Pairwise (·≤·)) {k:Nat} (hk:k<ns.length):k+1≤(ns.filter fun d=>decide (d≤ns[k])).length:=by
  have h1:((ns.take (k+1)).filter fun d=>decide (d≤ns[k]))=ns.take (k+1):=by
    rw [List.filter_eq_self]
    intro a ha
    obtain ⟨i,hi,rfl⟩:=List.getElem_of_mem ha
    rw [List.length_take] at hi
    rw [List.getElem_take]
    exact decide_eq_true (sorted_at o (by omega) hk)
  have h2:((ns.take (k+1)++ns.drop (k+1)).filter fun d=>decide (d≤ns[k])).length=(ns.filter fun d=>decide (d≤ns[k])).length:=by
    rw [List.take_append_drop]
  rw [← h2,List.filter_append,h1,List.length_append,List.length_take]
  omega
theorem upto_le {ns:List Int} (o:ns.Pairwise (·≤·)) {k:Nat} (hk:k<ns.length) {c:Int} (hc:c<ns[k]):(ns.filter fun d=>decide (d≤c)).length≤k:=by
  have h1:((ns.drop k).filter fun d=>decide (d≤c))=[]:=by
    rw [List.filter_eq_nil_iff]
    intro a ha h
    obtain ⟨i,hi,rfl⟩:=List.getElem_of_mem ha
    rw [List.length_drop] at hi
    rw [List.getElem_drop] at h
    have h3:=sorted_at o (i:=k) (j:=k+i) (by omega) (by omega)
    have h4:=of_decide_eq_true h
    omega
  have h2:((ns.take k++ns.drop k).filter fun d=>decide (d≤c)).length=(ns.filter fun d=>decide (d≤c)).length:=by
    rw [List.take_append_drop]
  rw [← h2,List.filter_append,h1,List.append_nil]
  exact Nat.le_trans (List.length_filter_le _ _) (by rw [List.length_take]; omega)
theorem due_none {bs:List (Option Int)} {ns:List Int} {n:Int} (p:ns.Perm (comesL bs)) (h:(ns.length:Int)<n):Due bs n none:=by
  show (tot bs:Int)<n
  rw [← comes_tot,← p.length_eq]
  exact h
theorem due_some {bs:List (Option Int)} {ns:List Int} {n v:Int} (p:ns.Perm (comesL bs)) (o:ns.Pairwise (·≤·)) (h1:1≤n) (hv:ns[(n - 1).toNat]?=some v):Due bs n (some v):=by
  obtain ⟨hk,e⟩:=List.getElem?_eq_some_iff.mp hv
  subst e
  have a:=upto_ge o hk
  have b:=upto_le o hk (c:=ns[(n - 1).toNat] - 1) (by omega)
  have ea:(ns.filter fun d=>decide (d≤ns[(n - 1).toNat])).length=cnt bs ns[(n - 1).toNat]:=by rw [← comes_cnt]; exact (p.filter _).length_eq
  have eb:(ns.filter fun d=>decide (d≤ns[(n - 1).toNat] - 1)).length=cnt bs (ns[(n - 1).toNat] - 1):=by rw [← comes_cnt]; exact (p.filter _).length_eq
  exact ⟨by omega,by omega⟩
end K23
namespace K23
open PySem L2
def oV:Option Int→V
  | none=>.non
  | some i=>.int i
theorem at_o {bs:List (Option Int)} {i:Nat} {y:V} (h:(bs.map oV)[i]?=some y):∃ o,y=oV o∧bs[i]?=some o:=by
  rw [List.getElem?_map] at h
  cases e:bs[i]? with
  | none=>rw [e] at h; cases h
  | some z=>rw [e] at h; exact ⟨z,(Option.some.inj h).symm,rfl⟩
theorem comes_snocN (l:List (Option Int)):comesL (l++[none])=comesL l:=by
  unfold comesL
  rw [List.filterMap_append]
  simp
theorem comes_snocS (l:List (Option Int)) (i:Int):comesL (l++[some i])=comesL l++[i]:=by
  unfold comesL
  rw [List.filterMap_append]
  simp
theorem comes_len (l:List (Option Int)):(comesL l).length≤l.length:=List.length_filterMap_le _ _
def RuleAt (K:PySem.W.Frag) (ff:Addr) (H:Hp) (x:Addr) (n:Int):Prop:=∃ C dx,H x=some (.ins C dx [("need",.int n)])∧Cls K C∧NoAttr K C "need"∧Meth K C "falls" ff
theorem RuleAt.same {K:PySem.W.Frag} {ff:Addr} {H H':Hp} {x:Addr} {n:Int} (r:RuleAt K ff H x n) (s:Same H H'):RuleAt K ff H' x n:=by
  obtain ⟨C,dx,h,r⟩:=r
  exact ⟨C,dx,s _ _ h,r⟩
structure Own (K:PySem.W.Frag) (C fi ff:Addr):Prop where
  cl:Cls K C
  nN:NoAttr K C "need"
  mks:Mk K C fi
  fl:Meth K C "falls" ff
section
variable {P:Program} {w:World} {K:PySem.W.Frag} {mg:Str→Option Value} {base:Heap} {f:Addr} {fd:FuncData}
def sp_whole:Sp:=fun vs H Q _=>∃ i:Int,vs=[.int i]∧Q (.bl true) H
theorem sc_whole:FnScope ["_law_thing"] ["_law_thing"] (defScope s_whole):=⟨rfl,rfl,rfl,by decide +kernel,rfl,by decide +kernel,by decide +kernel⟩
theorem ok_whole (F:Fun K "_law_whole" "_law_whole" s_whole f fd) (B:Blt mg):FnOk P w K mg base CX0 1 f fd ["_law_thing"] sp_whole:=by
  refine F.ok sc_whole (fun vs H Q E h=>?_) (fun cdv A outer s H vs Q E hr h=>?_)
  · obtain ⟨i,rfl,_⟩:=h
    rfl
  obtain ⟨i,rfl,q⟩:=h
  refine ⟨_,(pss_one (ps_ret (pe_and (pe_callB (call_isT "int") rfl B.isinstance_ PyProof.Rows.boot_isinstance (pa_cons (pv 0) (pa_cons (pe_bltn (v:=.ty "int") rfl B.int_ PyProof.Rows.boot_int rfl) pa_nil))) (pe_one (pe_not (pe_callB (call_isT "bool") rfl B.isinstance_ PyProof.Rows.boot_isinstance (pa_cons (pv 0) (pa_cons (pe_bltn (v:=.ty "bool") rfl B.bool_ PyProof.Rows.boot_bool rfl) pa_nil)))))))),?_⟩
  refine ⟨_,rfl,_,_,_,rfl,.int i,kit_ii K,_,rfl,iteT ?_⟩
  refine ⟨_,rfl,_,_,_,rfl,.int i,kit_ib K,_,rfl,?_⟩
  exact q
theorem sc_is_whole:FnScope ["thing"] ["thing"] (defScope s_is_whole):=⟨rfl,rfl,rfl,by decide +kernel,rfl,by decide +kernel,by decide +kernel⟩
theorem ok_is_whole (F:Fun K "is_whole" "is_whole" s_is_whole f fd) (B:Blt mg):FnOk P w K mg base CX0 1 f fd ["thing"] sp_whole:=by
  refine F.ok sc_is_whole (fun vs H Q E h=>?_) (fun cdv A outer s H vs Q E hr h=>?_)
  · obtain ⟨i,rfl,_⟩:=h
    rfl
  obtain ⟨i,rfl,q⟩:=h
  refine ⟨_,(pss_one (ps_ret (pe_and (pe_callB (call_isT "int") rfl B.isinstance_ PyProof.Rows.boot_isinstance (pa_cons (pv 0) (pa_cons (pe_bltn (v:=.ty "int") rfl B.int_ PyProof.Rows.boot_int rfl) pa_nil))) (pe_one (pe_not (pe_callB (call_isT "bool") rfl B.isinstance_ PyProof.Rows.boot_isinstance (pa_cons (pv 0) (pa_cons (pe_bltn (v:=.ty "bool") rfl B.bool_ PyProof.Rows.boot_bool rfl) pa_nil)))))))),?_⟩
  refine ⟨_,rfl,_,_,_,rfl,.int i,kit_ii K,_,rfl,iteT ?_⟩
  refine ⟨_,rfl,_,_,_,rfl,.int i,kit_ib K,_,rfl,?_⟩
  exact q
def sp_init (K:PySem.W.Frag):Sp:=fun vs H Q _=>∃ (p C dx:Addr) (v:V),vs=[.ref p,v]∧H p=some (.ins C dx [])∧Cls K C∧NoAttr K C "need"∧Q .non (upd H p (.ins C dx [("need",v)]))
def sp_init1 (K:PySem.W.Frag):Sp:=fun vs H Q _=>∃ (p C dx:Addr),vs=[.ref p]∧H p=some (.ins C dx [])∧Cls K C∧NoAttr K C "need"∧Q .non (upd H p (.ins C dx [("need",.int 1)]))
theorem sc_Rinit:FnScope ["self","need"] ["self","need"] (defScope s_Rinit):=⟨rfl,rfl,rfl,by decide +kernel,rfl,by decide +kernel,by decide +kernel⟩
theorem ok_Rinit (F:Fun K "__init__" "Rule.__init__" s_Rinit f fd):FnOk P w K mg base CX0 1 f fd ["self","need"] (sp_init K):=by
  refine F.ok sc_Rinit (fun vs H Q E h=>?_) (fun cdv A outer s H vs Q E hr h=>?_)
  · obtain ⟨p,C,dx,v,rfl,_⟩:=h
    rfl
  obtain ⟨p,C,dx,v,rfl,hp,cl,na,q⟩:=h
  refine ⟨_,(pss_one (ps_fld (pv 0) (pv 1) rfl)),?_⟩
  exact ⟨_,rfl,_,rfl,p,C,dx,[],rfl,hp,cl,na,(by show 0<1000; decide),q⟩
theorem sc_Ainit:FnScope ["self","many"] ["self","many"] (defScope s_Ainit):=⟨rfl,rfl,rfl,by decide +kernel,rfl,by decide +kernel,by decide +kernel⟩
theorem ok_Ainit {R g:Addr} {gd:FuncData} (F:Fun K "__init__" "All.__init__" s_Ainit f fd) (mR:mg "Rule"=some (.ref R)) (c:ClsFn K R "__init__" g) (G:FnOk P w K mg base CX0 1 g gd ["self","need"] (sp_init K)) (b:Binds K gd ["self","need"] []) :
    FnOk P w K mg base CX0 2 f fd ["self","many"] (sp_init K):=by
  refine F.ok sc_Ainit (fun vs H Q E h=>?_) (fun cdv A outer s H vs Q E hr h=>?_)
  · obtain ⟨p,C,dx,v,rfl,_⟩:=h
    rfl
  obtain ⟨p,C,dx,v,rfl,hp,cl,na,q⟩:=h
  refine ⟨_,(pss_one (ps_expr (pe_clsfn rfl mR c G hr b .nil pass0 (pa_cons (pv 0) (pa_cons (pv 1) pa_nil))))),?_⟩
  exact ⟨_,rfl,_,rfl,p,C,dx,v,rfl,hp,cl,na,q⟩
theorem sc_Sinit:FnScope ["self","need"] ["self","need"] (defScope s_Sinit):=⟨rfl,rfl,rfl,by decide +kernel,rfl,by decide +kernel,by decide +kernel⟩
theorem ok_Sinit {R g:Addr} {gd:FuncData} (F:Fun K "__init__" "Some.__init__" s_Sinit f fd) (mR:mg "Rule"=some (.ref R)) (c:ClsFn K R "__init__" g) (G:FnOk P w K mg base CX0 1 g gd ["self","need"] (sp_init K)) (b:Binds K gd ["self","need"] []) :
    FnOk P w K mg base CX0 2 f fd ["self","need"] (sp_init K):=by
  refine F.ok sc_Sinit (fun vs H Q E h=>?_) (fun cdv A outer s H vs Q E hr h=>?_)
  · obtain ⟨p,C,dx,v,rfl,_⟩:=h
    rfl
  obtain ⟨p,C,dx,v,rfl,hp,cl,na,q⟩:=h
  refine ⟨_,(pss_one (ps_expr (pe_clsfn rfl mR c G hr b .nil pass0 (pa_cons (pv 0) (pa_cons (pv 1) pa_nil))))),?_⟩
  exact ⟨_,rfl,_,rfl,p,C,dx,v,rfl,hp,cl,na,q⟩
theorem sc_Yinit:FnScope ["self"] ["self"] (defScope s_Yinit):=⟨rfl,rfl,rfl,by decide +kernel,rfl,by decide +kernel,by decide +kernel⟩
theorem ok_Yinit {R g:Addr} {gd:FuncData} (F:Fun K "__init__" "Any.__init__" s_Yinit f fd) (mR:mg "Rule"=some (.ref R)) (c:ClsFn K R "__init__" g) (G:FnOk P w K mg base CX0 1 g gd ["self","need"] (sp_init K)) (b:Binds K gd ["self","need"] []) :
    FnOk P w K mg base CX0 2 f fd ["self"] (sp_init1 K):=by
  refine F.ok sc_Yinit (fun vs H Q E h=>?_) (fun cdv A outer s H vs Q E hr h=>?_)
  · obtain ⟨p,C,dx,rfl,_⟩:=h
    rfl
  obtain ⟨p,C,dx,rfl,hp,cl,na,q⟩:=h
  refine ⟨_,(pss_one (ps_expr (pe_clsfn rfl mR c G hr b .nil pass0 (pa_cons (pv 0) (pa_cons pe_int pa_nil))))),?_⟩
  exact ⟨_,rfl,p,C,dx,.int 1,rfl,hp,cl,na,q⟩
def sp_falls (K:PySem.W.Frag):Sp:=fun vs H Q _=>∃ (x b C dx:Addr) (n:Int) (bs:List (Option Int)),vs=[.ref x,.ref b]∧H x=some (.ins C dx [("need",.int n)])∧Cls K C∧NoAttr K C "need"∧H b=some (.lst (bs.map oV))∧bs.length≤8∧1≤n∧
  ∀ (H':Hp) (o:Option Int),Same H H'→Due bs n o→Q (oV o) H'
theorem sc_falls:FnScope ["self","beats","come"] ["self","beats"] (defScope s_falls):=⟨rfl,rfl,rfl,by decide +kernel,rfl,by decide +kernel,by decide +kernel⟩
theorem ok_falls (F:Fun K "falls" "Rule.falls" s_falls f fd) (B:Blt mg):FnOk P w K mg base CX0 1 f fd ["self","beats"] (sp_falls K):=by
  refine F.ok sc_falls (fun vs H Q E h=>?_) (fun cdv A outer s H vs Q E hr h=>?_)
  · obtain ⟨x,b,C,dx,n,bs,rfl,_⟩:=h
    rfl
  obtain ⟨x,b,C,dx,n,bs,rfl,hx,cl,na,hb,hl8,h1,q⟩:=h
  refine ⟨_,(pss_cons (ps_set (i:=2) sc_falls.nd rfl (Or.inl rfl) (pe_callB call_sorted rfl B.sorted_ PyProof.Rows.boot_sorted (pa_cons (pe_comp ["beat"] [] [] rfl (pi_list (pv 1)) (fun _ _ _ _ _=>pg_name (i:=0) (show List.Nodup [("beat":Str)] by decide +kernel) rfl (Or.inl rfl)) (fun _ _ _ _ _=>pts_one (pt_cmpR op_notN (pv 0) pe_non (nomark _))) (fun _ _ _ _ _=>pv 0)) pa_nil)))
    (pss_cons (ps_if (pt_cmpR op_lt (pe_callB call_len_seq rfl B.len_ PySem.boot_len (pa_cons (pv 2) pa_nil)) (pe_fld (pv 0) rfl) (nomark _))
    (pss_one (ps_ret pe_non))
    pss_nil)
    (pss_one (ps_ret (pe_ix ix_list (pv 2) (pe_op op_sub (pe_fld (pv 0) rfl) pe_int) (fun _ _=>rfl)))))),?_⟩
  refine ⟨_,rfl,b,rfl,⟨_,SqL.of hb⟩,fun D hD=>?_⟩
  have hlm:(bs.map oV).length=bs.length:=List.length_map _
  refine comp_list (K:=K) (a:=b) (xs:=bs.map oV) (fun i ys H2=>Same H H2∧ys=(comesL (bs.take i)).map V.int) ⟨same_new hD _,rfl⟩ (fun i ys H2 _ ⟨s2,_⟩=>SqL.of (s2 _ _ hb)) ?_ ?_
  · rintro i y ys H2 hi ⟨s2,rfl⟩ hD2
    obtain ⟨o,rfl,ho⟩:=at_o hi
    have hil:i<bs.length:=(List.getElem?_eq_some_iff.mp ho).1
    refine ⟨rfl,_,rfl,rfl,_,rfl,?_⟩
    cases o with
    | none =>
      refine iteF ⟨_,⟨s2,rfl⟩,?_⟩
      rw [take_snoc ho,comes_snocN]
      exact hD2
    | some z =>
      refine iteT ⟨_,rfl,_,hD2,?_,_,⟨s2.upd hD _,rfl⟩,?_⟩
      · rw [List.length_map]
        have:=comes_len (bs.take i)
        rw [List.length_take] at this
        exact small1000 (by omega)
      · rw [take_snoc ho,comes_snocS,List.map_append]
        exact upd_same
  · rintro ys H2 ⟨s2,rfl⟩ hD2
    rw [hlm,List.take_length] at hD2
    have hcl:(comesL bs).length≤8:=Nat.le_trans (comes_len bs) hl8
    refine ⟨D,comesL bs,rfl,SqL.of hD2,by omega,fun l ns hl p o=>?_⟩
    have s3:Same H (upd H2 l (.lst (ns.map V.int))):=s2.trans (same_new hl _)
    have hx3:=s3 _ _ hx
    have hl3:(upd H2 l (.lst (ns.map V.int))) l=some (.lst (ns.map V.int)):=upd_same
    have hlen:(ns.map V.int).length=ns.length:=List.length_map _
    refine ⟨_,rfl,l,_,rfl,.inl (SqL.of hl3),_,rfl,x,C,dx,_,_,rfl,hx3,cl,na,rfl,_,_,rfl,rfl,_,rfl,?_⟩
    refine ite2 (fun c=>?_) (fun c=>?_)
    · have c':(((ns.map V.int).length:Nat):Int)<n:=of_decide_eq_true c
      rw [hlen] at c'
      exact q _ none s3 (due_none p c')
    · have c':¬ (((ns.map V.int).length:Nat):Int)<n:=of_decide_eq_false (Bool.eq_false_iff.mpr c)
      rw [hlen] at c'
      have hk:(n - 1).toNat<ns.length:=by omega
      have en:n - 1=(((n - 1).toNat:Nat):Int):=by omega
      have hv:ns[(n - 1).toNat]?=some ns[(n - 1).toNat]:=List.getElem?_eq_getElem hk
      have hat:atI (ns.map V.int) (n - 1)=some (.int ns[(n - 1).toNat]):=by
        have:=at_map hv
        rw [← en] at this
        exact this
      refine ⟨_,rfl,_,rfl,x,C,dx,_,_,rfl,hx3,cl,na,rfl,_,_,rfl,rfl,l,_,_,_,rfl,rfl,SqL.of hl3,hat,?_⟩
      exact q _ (some _) s3 (due_some p o h1 hv)
theorem ne_any_all:¬ (V.str ("any":Str)=V.str ("all":Str)):=by
  intro h
  injection h with h
  exact absurd h (by decide +kernel)
theorem made_same {H:Hp} {x dx C:Addr} {l1 l2:List (Str×V)} (nx:H x=none) (ndx:H dx=none):Same H (upd (upd (upd H dx (.own x)) x (.ins C dx l1)) x (.ins C dx l2)):=fun b o e=>by
  rw [upd_ne (ne_of_none e nx),upd_ne (ne_of_none e nx),upd_ne (ne_of_none e ndx)]
  exact e
def sp_text (K:PySem.W.Frag) (ff:Addr):Sp:=fun vs H Q _=>∃ (t:Str) (many n:Int),vs=[.str t,.int many]∧(t="all"∧n=many∨t="any"∧n=1)∧∀ x H',Same H H'→RuleAt K ff H' x n→Q (.ref x) H'
theorem sc_text:FnScope ["text","many"] ["text","many"] (defScope s_text):=⟨rfl,rfl,rfl,by decide +kernel,rfl,by decide +kernel,by decide +kernel⟩
theorem ok_text {A Y fA fY ff:Addr} {dA dY:FuncData} (F:Fun K "rule_of_text" "rule_of_text" s_text f fd) (mA:mg "All"=some (.ref A)) (mY:mg "Any"=some (.ref Y)) (oA:Own K A fA ff) (oY:Own K Y fY ff)
    (GA:FnOk P w K mg base CX0 2 fA dA ["self","many"] (sp_init K)) (bA:Binds K dA ["self","many"] []) (GY:FnOk P w K mg base CX0 2 fY dY ["self"] (sp_init1 K)) (bY:Binds K dY ["self"] []) :
    FnOk P w K mg base CX0 4 f fd ["text","many"] (sp_text K ff):=by
  refine F.ok sc_text (fun vs H Q E h=>?_) (fun cdv A' outer s H vs Q E hr h=>?_)
  · obtain ⟨t,many,n,rfl,_⟩:=h
    rfl
  obtain ⟨t,many,n,rfl,hw,q⟩:=h
  refine ⟨_,(pss_cons (ps_if (pt_cmpR op_eq (pv 0) pe_str (nomark _))
    (pss_one (ps_ret (pe_make oA.mks GA hr rfl mA bA .nil pass0 (pa_cons (pv 1) pa_nil))))
    pss_nil)
    (pss_cons (ps_if (pt_cmpR op_eq (pv 0) pe_str (nomark _))
    (pss_one (ps_ret (pe_make0 oY.mks GY hr rfl mY bY .nil pass0)))
    pss_nil)
    pss_never)),?_⟩
  refine ⟨_,rfl,rfl,_,rfl,?_⟩
  rcases hw with ⟨rfl,rfl⟩ | ⟨rfl,rfl⟩
  · refine ite2 (fun _=>?_) (fun c=>absurd (decide_eq_true rfl) c)
    refine ⟨_,rfl,fun x dx nx ndx ne=>⟨x,A,dx,_,rfl,upd_same,oA.cl,oA.nN,rfl,?_⟩⟩
    exact q x _ (made_same nx ndx) ⟨A,dx,upd_same,oA.cl,oA.nN,oA.fl⟩
  · refine ite2 (fun c=>absurd (of_decide_eq_true c) ne_any_all) (fun _=>?_)
    refine ⟨_,rfl,rfl,_,rfl,?_⟩
    refine ite2 (fun _=>?_) (fun c=>absurd (decide_eq_true rfl) c)
    refine fun x dx nx ndx ne=>⟨x,Y,dx,rfl,upd_same,oY.cl,oY.nN,rfl,?_⟩
    exact q x _ (made_same nx ndx) ⟨Y,dx,upd_same,oY.cl,oY.nN,oY.fl⟩
def sp_rule (K:PySem.W.Frag) (ff:Addr):Sp:=fun vs H Q _=>∃ (wd:V) (many n:Int),vs=[wd,.int many]∧(wd=.str "all"∧n=many∨wd=.str "any"∧n=1∨wd=.int n∧1≤n∧n≤many)∧∀ x H',Same H H'→RuleAt K ff H' x n→Q (.ref x) H'
theorem sc_rule_of:FnScope ["word","many"] ["word","many"] (defScope s_rule_of):=⟨rfl,rfl,rfl,by decide +kernel,rfl,by decide +kernel,by decide +kernel⟩
theorem ok_rule_of {S fS ff:Addr} {dS:FuncData} (F:Fun K "rule_of" "rule_of" s_rule_of f fd) (B:Blt mg) (mS:mg "Some"=some (.ref S)) (oS:Own K S fS ff) (GS:FnOk P w K mg base CX0 2 fS dS ["self","need"] (sp_init K)) (bS:Binds K dS ["self","need"] [])
    (C_text:Cal P w K mg base 4 "rule_of_text" ["text","many"] (sp_text K ff)) (C_whole:Cal P w K mg base 1 "is_whole" ["thing"] sp_whole):FnOk P w K mg base CX0 5 f fd ["word","many"] (sp_rule K ff):=by
  refine F.ok sc_rule_of (fun vs H Q E h=>?_) (fun cdv A' outer s H vs Q E hr h=>?_)
  · obtain ⟨wd,many,n,rfl,_⟩:=h
    rfl
  obtain ⟨wd,many,n,rfl,hw,q⟩:=h
  have hr3:Room 3 _:=hr.mono (by decide)
  refine ⟨_,(pss_cons (ps_if (pt_val (pe_callB (call_isT "str") rfl B.isinstance_ PyProof.Rows.boot_isinstance (pa_cons (pv 0) (pa_cons (pe_bltn (v:=.ty "str") rfl B.str_ PyProof.Rows.boot_str rfl) pa_nil))))
    (pss_one (ps_ret (pe_fn C_text hr (by decide) rfl (pa_cons (pv 0) (pa_cons (pv 1) pa_nil)))))
    pss_nil)
    (pss_cons (ps_if (PW.pt (pw_and (pt_val (pe_fn C_whole hr (by decide) rfl (pa_cons (pv 0) pa_nil))) (pw_and1 (pt_chain op_le op_le pe_int (pv 0) (pv 1)))))
    (pss_one (ps_ret (pe_make oS.mks GS hr3 rfl mS bS .nil pass0 (pa_cons (pv 0) pa_nil))))
    pss_nil)
    pss_never)),?_⟩
  rcases hw with ⟨rfl,rfl⟩ | ⟨rfl,rfl⟩ | ⟨rfl,h1,h2⟩
  · refine ⟨_,rfl,_,_,_,rfl,.str _,kit_ss K,_,rfl,iteT ?_⟩
    exact ⟨_,rfl,_,rfl,"all",_,_,rfl,.inl ⟨rfl,rfl⟩,q⟩
  · refine ⟨_,rfl,_,_,_,rfl,.str _,kit_ss K,_,rfl,iteT ?_⟩
    exact ⟨_,rfl,_,rfl,"any",_,_,rfl,.inr ⟨rfl,rfl⟩,q⟩
  · refine ⟨_,rfl,_,_,_,rfl,.int _,kit_is K,_,rfl,iteF ?_⟩
    refine ⟨_,rfl,_,rfl,_,rfl,iteT ?_⟩
    refine ⟨_,rfl,_,_,rfl,rfl,_,rfl,?_⟩
    rw [decide_eq_true h1]
    refine iteT ⟨_,rfl,_,_,rfl,rfl,_,rfl,?_⟩
    rw [decide_eq_true h2]
    refine iteT ?_
    refine ⟨_,rfl,fun x dx nx ndx ne=>⟨x,S,dx,_,rfl,upd_same,oS.cl,oS.nN,rfl,?_⟩⟩
    exact q x _ (made_same nx ndx) ⟨S,dx,upd_same,oS.cl,oS.nN,oS.fl⟩
end
end K23
namespace K23
open PySem L2
section
variable {P:Program} {w:World} {K:PySem.W.Frag} {mg:Str→Option Value} {base:Heap} {f:Addr} {fd:FuncData}
def sp_bellrule (K:PySem.W.Frag) (ff:Addr):Sp:=fun vs H Q _=>∃ (v:V) (b:Bell),vs=[v]∧BellAt H v b∧GoodR b.lis.length b.rule∧∀ x H',Same H H'→RuleAt K ff H' x (wants b)→Q (.ref x) H'
theorem sc_rule_of_bell:FnScope ["bell"] ["bell"] (defScope s_rule_of_bell):=⟨rfl,rfl,rfl,by decide +kernel,rfl,by decide +kernel,by decide +kernel⟩
theorem ok_rule_of_bell {ff:Addr} (F:Fun K "rule_of_bell" "rule_of_bell" s_rule_of_bell f fd) (B:Blt mg) (C_rule_of:Cal P w K mg base 5 "rule_of" ["word","many"] (sp_rule K ff)):FnOk P w K mg base CX0 6 f fd ["bell"] (sp_bellrule K ff):=by
  refine F.ok sc_rule_of_bell (fun vs H Q E h=>?_) (fun cdv A outer s H vs Q E hr h=>?_)
  · obtain ⟨v,b,rfl,_⟩:=h
    rfl
  obtain ⟨v,b,rfl,⟨a,t,ls,rfl,ha,ht,pr⟩,gr,q⟩:=h
  refine ⟨_,(pss_one (ps_ret (pe_fn C_rule_of hr (by decide) rfl (pa_cons (pe_ix ix_tup (pv 0) pe_int (fun _ _=>rfl)) (pa_cons (pe_callB call_len_seq rfl B.len_ PySem.boot_len (pa_cons (pe_ix ix_tup (pv 0) pe_int (fun _ _=>rfl)) pa_nil)) pa_nil))))),?_⟩
  refine ⟨_,rfl,a,_,_,_,rfl,rfl,SqT.of ha,rfl,_,rfl,a,_,_,_,rfl,rfl,SqT.of ha,rfl,t,_,rfl,.inr (SqT.of ht),rwV b.rule,_,wants b,rfl,?_,q⟩
  have hl:=paired_len pr
  rw [hl]
  unfold wants
  cases hr:b.rule with
  | all=>exact .inl ⟨rfl,rfl⟩
  | any=>exact .inr (.inl ⟨rfl,rfl⟩)
  | num n =>
    rw [hr] at gr
    exact .inr (.inr ⟨rfl,gr.1,gr.2⟩)
def sp_comes:Sp:=fun vs H Q _=>∃ (v:V) (l:Lis) (p r:Addr) (before now:List (Option Int)),vs=[v,.ref p,.ref r]∧LisAt H v l∧H p=some (.lst (before.map oV))∧H r=some (.lst (now.map oV))∧l.whom<before.length∧l.whom<now.length∧Q (oV (come before now l)) H
theorem at_oV {bs:List (Option Int)} {i:Nat} {o:Option Int} (h:bs[i]?=some o):atI (bs.map oV) (i:Int)=some (oV o):=atI_nat (by rw [List.getElem?_map,h]; rfl)
theorem sc_comes:FnScope ["listening","before","now","stroke"] ["listening","before","now"] (defScope s_comes):=⟨rfl,rfl,rfl,by decide +kernel,rfl,by decide +kernel,by decide +kernel⟩
theorem ok_comes (F:Fun K "listening_comes" "listening_comes" s_comes f fd):FnOk P w K mg base CX0 1 f fd ["listening","before","now"] sp_comes:=by
  refine F.ok sc_comes (fun vs H Q E h=>?_) (fun cdv A outer s H vs Q E hr h=>?_)
  · obtain ⟨v,l,p,r,before,now,rfl,_⟩:=h
    rfl
  obtain ⟨v,l,p,r,before,now,rfl,⟨a,rfl,ha⟩,hp,hr',h1,h2,q⟩:=h
  refine ⟨_,(pss_cons (ps_set (i:=3) sc_comes.nd rfl (Or.inl rfl) (pe_ifExp (pt_cmpR op_eq (pe_ix ix_tup (pv 0) pe_int (fun _ _=>rfl)) pe_int (nomark _)) (pe_ix ix_list (pv 1) (pe_ix ix_tup (pv 0) pe_int (fun _ _=>rfl)) (fun _ _=>rfl)) (pe_ix ix_list (pv 2) (pe_ix ix_tup (pv 0) pe_int (fun _ _=>rfl)) (fun _ _=>rfl))))
    (pss_one (ps_ret (pe_ifExp (pt_cmpR op_isN (pv 3) pe_non (nomark _)) pe_non (pe_op op_add (pv 3) (pe_ix ix_tup (pv 0) pe_int (fun _ _=>rfl))))))),?_⟩
  refine ⟨_,rfl,a,_,_,_,rfl,rfl,SqT.of ha,rfl,rfl,_,rfl,?_⟩
  have e1:=List.getElem?_eq_getElem h1
  have e2:=List.getElem?_eq_getElem h2
  have hx:=SqT.of (K:=K) ha
  cases hb:l.back with
  | true =>
    refine ite2 (fun _=>?_) (fun c=>absurd rfl c)
    refine ⟨_,rfl,_,rfl,a,_,_,_,rfl,rfl,hx,rfl,p,_,_,_,rfl,rfl,SqL.of hp,at_oV e1,?_⟩
    have hc:come before now l=(before[l.whom]).map (·+l.beats):=by
      unfold come
      rw [hb,if_pos rfl,e1]
      rfl
    rw [hc] at q
    cases ho:before[l.whom] with
    | none =>
      rw [ho] at q
      exact ⟨_,rfl,rfl,_,rfl,iteT q⟩
    | some i =>
      rw [ho] at q
      exact ⟨_,rfl,rfl,_,rfl,iteF ⟨_,rfl,_,rfl,a,_,_,_,rfl,rfl,hx,rfl,_,_,rfl,rfl,q⟩⟩
  | false =>
    refine ite2 (fun c=>absurd c (by decide)) (fun _=>?_)
    refine ⟨_,rfl,_,rfl,a,_,_,_,rfl,rfl,hx,rfl,r,_,_,_,rfl,rfl,SqL.of hr',at_oV e2,?_⟩
    have hc:come before now l=(now[l.whom]).map (·+l.beats):=by
      unfold come
      rw [hb,if_neg (by decide),e2]
      rfl
    rw [hc] at q
    cases ho:now[l.whom] with
    | none =>
      rw [ho] at q
      exact ⟨_,rfl,rfl,_,rfl,iteT q⟩
    | some i =>
      rw [ho] at q
      exact ⟨_,rfl,rfl,_,rfl,iteF ⟨_,rfl,_,rfl,a,_,_,_,rfl,rfl,hx,rfl,_,_,rfl,rfl,q⟩⟩
end
end K23
namespace K23
open PySem L2
def RuleV (K:PySem.W.Frag) (ff:Addr) (H:Hp) (v:V) (b:Bell):Prop:=∃ x,v=.ref x∧RuleAt K ff H x (wants b)
def RulesAt (K:PySem.W.Frag) (ff:Addr) (H:Hp) (r:Addr) (c:List Bell):Prop:=∃ rs,H r=some (.lst rs)∧Paired (RuleV K ff H) rs c
theorem RuleV.same {K:PySem.W.Frag} {ff:Addr} {H H':Hp} {v:V} {b:Bell} (s:Same H H') (h:RuleV K ff H v b):RuleV K ff H' v b:=by
  obtain ⟨x,e,q⟩:=h
  exact ⟨x,e,q.same s⟩
theorem RulesAt.same {K:PySem.W.Frag} {ff:Addr} {H H':Hp} {r:Addr} {c:List Bell} (s:Same H H') (h:RulesAt K ff H r c):RulesAt K ff H' r c:=by
  obtain ⟨rs,e,q⟩:=h
  exact ⟨rs,s _ _ e,paired_imp (fun _ _ z=>z.same s) q⟩
def Fine (c:List Bell):Prop:=c.length≤6∧∀ (k:Nat) b,c[k]?=some b→1≤b.lis.length∧b.lis.length≤8∧GoodR b.lis.length b.rule∧∀ l∈b.lis,l.whom<c.length∧1≤l.beats
theorem Fine.slow {c:List Bell} (h:Fine c):Slow c:=fun k b hb l hl=>((h.2 k b hb).2.2.2 l hl).2
theorem wants_pos {b:Bell} (h1:1≤b.lis.length) (h:GoodR b.lis.length b.rule):1≤wants b:=by
  unfold wants
  cases hr:b.rule with
  | all=>show (1:Int)≤(b.lis.length:Int); omega
  | any=>exact Int.le_refl 1
  | num n=>rw [hr] at h; exact h.1
def Best (c:List Bell) (before now:List (Option Int)) (H:Hp) (i:Nat) (v:V):Prop :=
  (v=.non∧∀ (k:Nat) b,k<i→c[k]?=some b→now[k]?=some none→Due (comesOf b before now) (wants b) none)∨
  ∃ (T:Addr) (beat:Int) (k:Nat) (b:Bell),v=.ref T∧H T=some (.tup [.int beat,.int (k:Int)])∧c[k]?=some b∧now[k]?=some none∧Due (comesOf b before now) (wants b) (some beat)∧
    ∀ (j:Nat) b' u,j<i→c[j]?=some b'→now[j]?=some none→Due (comesOf b' before now) (wants b') (some u)→beat≤u
theorem Best.same {c:List Bell} {before now:List (Option Int)} {H H':Hp} {i:Nat} {v:V} (s:Same H H') (h:Best c before now H i v):Best c before now H' i v:=by
  rcases h with h | ⟨T,beat,k,b,e,hT,r⟩
  · exact .inl h
  · exact .inr ⟨T,beat,k,b,e,s _ _ hT,r⟩
theorem Best.skip {c:List Bell} {before now:List (Option Int)} {H:Hp} {i:Nat} {v:V} {u:Int} (h:Best c before now H i v) (hn:now[i]?=some (some u)):Best c before now H (i+1) v:=by
  rcases h with ⟨e,h⟩ | ⟨T,beat,k,b,e,hT,h1,h2,h3,h4⟩
  · refine .inl ⟨e,fun k b hk hb hz=>?_⟩
    rcases Nat.lt_or_ge k i with c1 | c1
    · exact h k b c1 hb hz
    · have ek:k=i:=by omega
      rw [ek,hn] at hz
      cases hz
  · refine .inr ⟨T,beat,k,b,e,hT,h1,h2,h3,fun j b' u' hj hb hz hd=>?_⟩
    rcases Nat.lt_or_ge j i with c1 | c1
    · exact h4 j b' u' c1 hb hz hd
    · have ek:j=i:=by omega
      rw [ek,hn] at hz
      cases hz
theorem Best.late {c:List Bell} {before now:List (Option Int)} {H:Hp} {i:Nat} {v:V} {b:Bell} (h:Best c before now H i v) (hb:c[i]?=some b) (hd:Due (comesOf b before now) (wants b) none):Best c before now H (i+1) v:=by
  rcases h with ⟨e,h⟩ | ⟨T,beat,k,b1,e,hT,h1,h2,h3,h4⟩
  · refine .inl ⟨e,fun k b1 hk hb1 hz=>?_⟩
    rcases Nat.lt_or_ge k i with c1 | c1
    · exact h k b1 c1 hb1 hz
    · obtain rfl:k=i:=by omega
      rw [hb] at hb1
      cases hb1
      exact hd
  · refine .inr ⟨T,beat,k,b1,e,hT,h1,h2,h3,fun j b' u' hj hb1 hz hd1=>?_⟩
    rcases Nat.lt_or_ge j i with c1 | c1
    · exact h4 j b' u' c1 hb1 hz hd1
    · obtain rfl:j=i:=by omega
      rw [hb] at hb1
      cases hb1
      cases due_unique hd hd1
theorem Best.take {c:List Bell} {before now:List (Option Int)} {H:Hp} {i:Nat} {b:Bell} {u:Int} {T:Addr} (h:∀ (j:Nat) b' v,j<i→c[j]?=some b'→now[j]?=some none→Due (comesOf b' before now) (wants b') (some v)→u≤v) (hT:H T=some (.tup [.int u,.int (i:Int)]))
    (hb:c[i]?=some b) (hn:now[i]?=some none) (hd:Due (comesOf b before now) (wants b) (some u)):Best c before now H (i+1) (.ref T):=by
  refine .inr ⟨T,u,i,b,rfl,hT,hb,hn,hd,fun j b' v hj hb' hz hd'=>?_⟩
  rcases Nat.lt_or_ge j i with c1 | c1
  · exact h j b' v c1 hb' hz hd'
  · obtain rfl:j=i:=by omega
    rw [hb] at hb'
    cases hb'
    have:=Option.some.inj (due_unique hd hd')
    omega
section
variable {P:Program} {w:World} {K:PySem.W.Frag} {mg:Str→Option Value} {base:Heap} {f:Addr} {fd:FuncData}
def sp_found (K:PySem.W.Frag) (ff:Addr):Sp:=fun vs H Q _=>∃ (ch:V) (c:List Bell) (r p n:Addr) (before now:List (Option Int)),vs=[ch,.ref r,.ref p,.ref n]∧ChoirAt H ch c∧Fine c∧RulesAt K ff H r c∧H p=some (.lst (before.map oV))∧H n=some (.lst (now.map oV))∧before.length=c.length∧now.length=c.length∧
  ∀ (H':Hp) (v:V),Same H H'→Best c before now H' c.length v→Q v H'
theorem sc_found:FnScope ["choir","rules","before","now","best","number","bell","beat"] ["choir","rules","before","now"] (defScope s_found):=⟨rfl,rfl,rfl,by decide +kernel,rfl,by decide +kernel,by decide +kernel⟩
theorem ok_found {ff:Addr} {df:FuncData} (F:Fun K "next_found" "next_found" s_found f fd) (B:Blt mg) (C_comes:Cal P w K mg base 1 "listening_comes" ["listening","before","now"] sp_comes) (GF:FnOk P w K mg base CX0 1 ff df ["self","beats"] (sp_falls K)) (bF:Binds K df ["self","beats"] []):FnOk P w K mg base CX0 2 f fd ["choir","rules","before","now"] (sp_found K ff):=by
  refine F.ok sc_found (fun vs H Q E h=>?_) (fun cdv A outer s H vs Q E hr h=>?_)
  · obtain ⟨ch,c,r,p,n,before,now,rfl,_⟩:=h
    rfl
  obtain ⟨ch,c,r,p,n,before,now,rfl,⟨a,bs,rfl,ha,prb⟩,fc,⟨rs,hR,prr⟩,hp,hn,lb,ln,q⟩:=h
  have hr1:Room 1 _:=hr.mono (by decide)
  refine ⟨_,(pss_cons (ps_set (i:=4) sc_found.nd rfl (Or.inl rfl) pe_non)
    (pss_cons (ps_for PassesOwn.never rfl (pi_enumT rfl B.enumerate_ (pa_cons (pv 0) pa_nil)) (pg_tup rfl (pgs_cons (pg_name (i:=5) sc_found.nd rfl (Or.inl rfl)) (pgs_cons (pg_name (i:=6) sc_found.nd rfl (Or.inl rfl)) pgs_nil)))
    (pss_one (ps_if (pt_cmpR op_isN (pe_ix ix_list (pv 3) (pv 5) (fun _ _=>rfl)) pe_non (nomark _))
    (pss_cons (ps_set (i:=7) sc_found.nd rfl (Or.inl rfl) (pe_methD (pe_ix ix_list (pv 1) (pv 5) (fun _ _=>rfl)) GF hr1 bF .nil pass0 (pa_cons (pe_comp ["listening"] ["before","now"] [2,3] rfl (pi_tup (pe_ix ix_tup (pv 6) pe_int (fun _ _=>rfl))) (fun _ _ _ _ _=>(pg_name (i:=0) (show List.Nodup [("listening":Str),("before":Str),("now":Str)] by decide +kernel) rfl (Or.inl rfl))) (fun _ _ _ _ _=>pts_nil) (fun _ _ _ _ _=>(pe_fn C_comes hr (by decide) rfl (pa_cons (pv 0) (pa_cons (pv 1) (pa_cons (pv 2) pa_nil)))))) pa_nil)))
    (pss_one (ps_if (PW.pt (pw_and (pt_cmpR op_notN (pv 7) pe_non (nomark _)) (pw_and1 (PW.pt (pw_or (pt_cmpR op_isN (pv 4) pe_non (nomark _)) (pw_or1 (pt_cmpR op_lt (pv 7) (pe_ix ix_tup (pv 4) pe_int (fun _ _=>rfl)) (nomark _))))))))
    (pss_one (ps_set (i:=4) sc_found.nd rfl (Or.inl rfl) (pe_tup (pa_cons (pv 7) (pa_cons (pv 5) pa_nil)))))
    pss_nil)))
    pss_nil)))
    (pss_one (ps_ret (pv 4))))),?_⟩
  have hbl:=paired_len prb
  refine ⟨_,rfl,a,rfl,⟨_,SqT.of ha⟩,for_enumT (K:=K) (a:=a) (xs:=bs) (fun i σ H2=>∃ (v:V) (o5 o6 o7:Option V),σ=[some (.ref a),some (.ref r),some (.ref p),some (.ref n),some v,o5,o6,o7]∧Same H H2∧Best c before now H2 i v)
    ⟨.non,none,none,none,rfl,.refl H,.inl ⟨rfl,fun k b hk=>absurd hk (Nat.not_lt_zero k)⟩⟩ (fun i σ H2 _ ⟨_,_,_,_,_,s2,_⟩=>SqT.of (s2 _ _ ha)) ?_ ?_⟩
  · rintro i y σ H2 T hi ⟨v,o5,o6,o7,rfl,s2,hbest⟩ hT
    obtain ⟨b,hb,⟨x,t,ls,rfl,hx,ht,prl⟩⟩:=paired_at prb hi
    have hic:i<c.length:=(List.getElem?_eq_some_iff.mp hb).1
    obtain ⟨rv,hrv,⟨ro,rfl,hro⟩⟩:=paired_at' prr hb
    have s3:Same H2 (upd H2 T (.tup [.int (i:Int),.ref x])):=same_new hT _
    have s23:=s2.trans s3
    have eT:(upd H2 T (.tup [.int (i:Int),.ref x])) T=some (.tup [.int (i:Int),.ref x]):=upd_same
    refine ⟨T,_,rfl,SqT.of eT,rfl,_,_,rfl,_,_,rfl,rfl,?_⟩
    have hbest3:=hbest.same s3
    generalize upd H2 T (.tup [.int (i:Int),.ref x])=H3 at s3 s23 eT hbest3 ⊢
    have en:=List.getElem?_eq_getElem (show i<now.length by omega)
    refine ⟨_,rfl,_,rfl,n,_,_,_,rfl,rfl,SqL.of (s23 _ _ hn),at_oV en,rfl,_,rfl,?_⟩
    cases ho:now[i]'(by omega) with
    | some u =>
      rw [ho] at en
      exact iteF ⟨v,_,_,_,rfl,s23,hbest3.skip en⟩
    | none =>
      rw [ho] at en
      refine iteT ?_
      obtain ⟨C,dx,hro',cl,na,mt⟩:=hro.same s23
      obtain ⟨g1,g8,gr,gl⟩:=fc.2 i b hb
      refine ⟨_,rfl,_,rfl,r,_,_,_,rfl,rfl,SqL.of (s23 _ _ hR),atI_nat hrv,C,ro,dx,_,rfl,hro',cl,mt,rfl,?_⟩
      refine ⟨_,rfl,x,_,_,_,rfl,rfl,SqT.of (s23 _ _ hx),rfl,t,rfl,⟨_,SqT.of (s23 _ _ ht)⟩,fun D hD=>?_⟩
      have hll:=paired_len prl
      refine comp_tup (K:=K) (a:=t) (xs:=ls) (fun j ys H4=>Same H3 H4∧ys=((b.lis.take j).map (come before now)).map oV) ⟨same_new hD _,rfl⟩ (fun j ys H4 _ ⟨z,_⟩=>SqT.of (z _ _ (s23 _ _ ht))) ?_ ?_
      · rintro j y ys H4 hj ⟨s4,rfl⟩ hD4
        obtain ⟨l,hl,hla⟩:=paired_at prl hj
        have s04:=s23.trans s4
        obtain ⟨w1,w2⟩:=gl l (List.mem_of_getElem? hl)
        refine ⟨rfl,tTrue_ite ?_⟩
        refine ⟨_,rfl,_,rfl,_,rfl,y,l,p,n,before,now,rfl,hla.mono (Same.tup s04),s04 _ _ hp,s04 _ _ hn,by omega,by omega,?_⟩
        refine ⟨_,hD4,?_,_,⟨s4.upd hD _,rfl⟩,?_⟩
        · rw [List.length_map,List.length_map,List.length_take]
          exact small1000 (by omega)
        · rw [take_snoc hl,List.map_append,List.map_append]
          exact upd_same
      · rintro ys H4 ⟨s4,rfl⟩ hD4
        rw [hll,List.take_length] at hD4
        have s04:=s23.trans s4
        refine ⟨ro,D,C,dx,wants b,b.lis.map (come before now),rfl,s4 _ _ hro',cl,na,hD4,by rw [List.length_map]; exact g8,wants_pos g1 gr,fun H5 o s5 hd=>?_⟩
        have s35:=s4.trans s5
        have s05:=s23.trans s35
        have hbest5:=hbest3.same s35
        cases o with
        | none=>exact ⟨_,rfl,rfl,_,rfl,iteF (iteF ⟨v,_,_,_,rfl,s05,hbest5.late hb hd⟩)⟩
        | some u =>
          refine ⟨_,rfl,rfl,_,rfl,iteT ?_⟩
          rcases hbest5 with ⟨rfl,hno⟩ | ⟨T2,beat,k,b2,rfl,hT2,h1,h2,h3,h4⟩
          · refine ⟨_,rfl,rfl,_,rfl,iteT (iteT ?_)⟩
            refine ⟨_,rfl,_,rfl,(by show 2≤sizeLine; decide),fun l hl=>?_⟩
            refine ⟨_,_,_,_,rfl,s05.trans (same_new hl _),Best.take (fun j b' z hj hb' hz hd'=>?_) upd_same hb en hd⟩
            cases due_unique (hno j b' hj hb' hz) hd'
          · refine ⟨_,rfl,rfl,_,rfl,iteF ?_⟩
            refine ⟨_,rfl,_,rfl,T2,_,_,_,rfl,rfl,SqT.of hT2,rfl,_,_,rfl,rfl,_,rfl,?_⟩
            refine ite2 (fun cc=>?_) (fun cc=>?_)
            · have hlt:u<beat:=of_decide_eq_true cc
              refine ⟨_,rfl,_,rfl,(by show 2≤sizeLine; decide),fun l hl=>?_⟩
              refine ⟨_,_,_,_,rfl,s05.trans (same_new hl _),Best.take (fun j b' z hj hb' hz hd'=>?_) upd_same hb en hd⟩
              have:=h4 j b' z hj hb' hz hd'
              omega
            · have hge:¬ u<beat:=of_decide_eq_false (Bool.eq_false_iff.mpr cc)
              refine ⟨_,_,_,_,rfl,s05,.inr ⟨T2,beat,k,b2,rfl,hT2,h1,h2,h3,fun j b' z hj hb' hz hd'=>?_⟩⟩
              rcases Nat.lt_or_ge j i with c1 | c1
              · exact h4 j b' z c1 hb' hz hd'
              · obtain rfl:j=i:=by omega
                rw [hb] at hb'
                cases hb'
                have:=Option.some.inj (due_unique hd hd')
                omega
  · rintro σ H2 ⟨v,o5,o6,o7,rfl,s2,hbest⟩
    rw [hbl] at hbest
    exact ⟨_,rfl,q H2 v s2 hbest⟩
end
end K23
namespace K23
open PySem L2
def isNon:V→Bool
  | .non=>true
  | _=>false
theorem countNon (now:List (Option Int)):(now.map oV).countP isNon=now.countP (·.isNone):=by
  rw [List.countP_map]
  refine List.countP_congr fun o _=>?_
  cases o <;> rfl
theorem count_set {now:List (Option Int)} {k:Nat} {u:Int} (h:now[k]?=some none):(now.set k (some u)).countP (·.isNone)<now.countP (·.isNone):=by
  induction now generalizing k with
  | nil=>cases h
  | cons o r ih =>
    cases k with
    | zero =>
      have e:o=none:=by simpa using h
      subst e
      simp
    | succ k =>
      have:=ih (k:=k) (by simpa using h)
      simp only [List.set_cons_succ,List.countP_cons]
      omega
theorem set_oV (now:List (Option Int)) (k:Nat) (u:Int):(now.map oV).set k (.int u)=(now.set k (some u)).map oV:=by
  rw [List.map_set]
  rfl
def left (n:Addr) (H:Hp):Nat:=match H n with
  | some (.lst xs)=>xs.countP isNon
  | _=>0
theorem left_at {n:Addr} {H:Hp} {now:List (Option Int)} (h:H n=some (.lst (now.map oV))):left n H=now.countP (·.isNone):=by
  unfold left
  rw [h]
  exact countNon now
section
variable {P:Program} {w:World} {K:PySem.W.Frag} {mg:Str→Option Value} {base:Heap} {f:Addr} {fd:FuncData}
def sp_behind (K:PySem.W.Frag) (ff:Addr):Sp:=fun vs H Q _=>∃ (ch:V) (c:List Bell) (r p:Addr) (before:List (Option Int)),vs=[ch,.ref r,.ref p]∧ChoirAt H ch c∧Fine c∧RulesAt K ff H r c∧H p=some (.lst (before.map oV))∧before.length=c.length∧
  ∀ (H':Hp) (n:Addr) (now:List (Option Int)),Same H H'→H n=none→H' n=some (.lst (now.map oV))→Fix c before now→Q (.ref n) H'
theorem sc_behind:FnScope ["choir","rules","before","now","found"] ["choir","rules","before"] (defScope s_behind):=⟨rfl,rfl,rfl,by decide +kernel,rfl,by decide +kernel,by decide +kernel⟩
theorem ok_behind {ff:Addr} (F:Fun K "strokes_behind" "strokes_behind" s_behind f fd) (C_found:Cal P w K mg base 2 "next_found" ["choir","rules","before","now"] (sp_found K ff)):FnOk P w K mg base CX0 3 f fd ["choir","rules","before"] (sp_behind K ff):=by
  refine F.ok sc_behind (fun vs H Q E h=>?_) (fun cdv A outer s H vs Q E hr h=>?_)
  · obtain ⟨ch,c,r,p,before,rfl,_⟩:=h
    rfl
  obtain ⟨ch,c,r,p,before,rfl,hch,fc,hru,hp,lb,q⟩:=h
  obtain ⟨a,bs,rfl,ha,prb⟩:=id hch
  refine ⟨_,(pss_cons (ps_setComp (i:=3) ["bell"] [] [] rfl sc_behind.nd rfl (Or.inl rfl) (pi_tup (pv 0)) (fun _ _ _ _ _=>(pg_name (i:=0) (show List.Nodup [("bell":Str)] by decide +kernel) rfl (Or.inl rfl))) (fun _ _ _ _ _=>pts_nil) (fun _ _ _ _ _=>pe_non))
    (pss_cons (ps_set (i:=4) sc_behind.nd rfl (Or.inl rfl) (pe_fn C_found hr (by decide) rfl (pa_cons (pv 0) (pa_cons (pv 1) (pa_cons (pv 2) (pa_cons (pv 3) pa_nil))))))
    (pss_cons (ps_while PassesOwn.never (pt_cmpR op_notN (pv 4) pe_non (nomark _))
    (pss_cons (ps_asg (pe_ix ix_tup (pv 4) pe_int (fun _ _=>rfl)) (pg_sub (pv 3) (pe_ix ix_tup (pv 4) pe_int (fun _ _=>rfl)) set_list))
    (pss_one (ps_set (i:=4) sc_behind.nd rfl (Or.inl rfl) (pe_fn C_found hr (by decide) rfl (pa_cons (pv 0) (pa_cons (pv 1) (pa_cons (pv 2) (pa_cons (pv 3) pa_nil)))))))))
    (pss_one (ps_ret (pv 3)))))),?_⟩
  have hbl:=paired_len prb
  refine ⟨_,rfl,a,rfl,⟨_,SqT.of ha⟩,fun n hn=>?_⟩
  refine comp_tup (K:=K) (a:=a) (xs:=bs) (fun j ys H2=>Same H H2∧ys=((c.take j).map fun _=>none).map oV) ⟨same_new hn _,rfl⟩ (fun j ys H2 _ ⟨z,_⟩=>SqT.of (z _ _ ha)) ?_ ?_
  · rintro j y ys H2 hj ⟨s2,rfl⟩ hD
    obtain ⟨b,hb,_⟩:=paired_at prb hj
    have hj6:j<c.length:=(List.getElem?_eq_some_iff.mp hb).1
    have:=fc.1
    refine ⟨rfl,tTrue_ite ?_⟩
    refine ⟨_,hD,?_,_,⟨s2.upd hn _,rfl⟩,?_⟩
    · rw [List.length_map,List.length_map,List.length_take]
      exact small1000 (by omega)
    · rw [take_snoc hb,List.map_append,List.map_append]
      exact upd_same
  · rintro ys H2 ⟨s2,rfl⟩ hD
    rw [hbl,List.take_length] at hD
    refine ⟨_,rfl,_,rfl,_,rfl,_,rfl,.ref a,c,r,p,n,before,c.map fun _=>none,rfl,hch.mono (Same.tup s2),fc,hru.same s2,s2 _ _ hp,hD,lb,List.length_map _,fun H3 v s3 hbest=>?_⟩
    refine while_by (fun σ H4=>∃ (v:V) (now:List (Option Int)),σ=[some (.ref a),some (.ref r),some (.ref p),some (.ref n),some v]∧Same H H4∧H4 n=some (.lst (now.map oV))∧Going c before now∧Best c before now H4 c.length v) (fun _ H4=>left n H4) ⟨v,_,rfl,s2.trans s3,s3 _ _ hD,going_start c before,hbest⟩ ?_ ?_
    · rintro σ H4 ⟨v,now,rfl,s4,hn4,go,hbest⟩
      rcases hbest with ⟨rfl,hno⟩ | ⟨T,beat,k,b,rfl,hT,hb,hk,hd,hl⟩
      · refine ⟨_,rfl,rfl,_,rfl,iteF ?_⟩
        exact ⟨_,rfl,q H4 n now s4 hn hn4 (going_end go fun k b hb hz=>hno k b (List.getElem?_eq_some_iff.mp hb).1 hb hz)⟩
      · have hkc:k<c.length:=(List.getElem?_eq_some_iff.mp hb).1
        have hkn:k<now.length:=(List.getElem?_eq_some_iff.mp hk).1
        refine ⟨_,rfl,rfl,_,rfl,iteT ?_⟩
        refine ⟨_,rfl,T,_,_,_,rfl,rfl,SqT.of hT,rfl,_,rfl,_,rfl,T,_,_,_,rfl,rfl,SqT.of hT,rfl,n,_,_,k,rfl,rfl,hn4,?_,?_⟩
        · unfold ixN
          rw [if_pos (by omega),List.length_map,if_pos (by omega),Int.toNat_natCast]
        rw [set_oV]
        have s5:=s4.upd hn (.lst ((now.set k (some beat)).map oV))
        have hn5:=upd_same (H:=H4) (a:=n) (o:=.lst ((now.set k (some beat)).map oV))
        have go5:=going_on fc.slow go hb hk hd fun j b' u hj hz hd'=>hl j b' u (List.getElem?_eq_some_iff.mp hj).1 hj hz hd'
        have l4:=left_at hn4
        generalize upd H4 n (.lst ((now.set k (some beat)).map oV))=H5 at s5 hn5 ⊢
        refine ⟨_,rfl,_,rfl,_,rfl,_,rfl,.ref a,c,r,p,n,before,now.set k (some beat),rfl,hch.mono (Same.tup s5),fc,hru.same s5,s5 _ _ hp,hn5,lb,by rw [List.length_set]; exact go.len,fun H6 v6 s6 hbest6=>?_⟩
        refine ⟨⟨v6,_,rfl,s5.trans s6,s6 _ _ hn5,go5,hbest6⟩,?_⟩
        show left n H6<left n H4
        rw [l4,left_at (s6 _ _ hn5)]
        exact count_set hk
    · rintro σ H4 Q1 Q2 hq ⟨z1,e1,e2,z2,e3,h⟩
      exact ⟨z1,e1,e2,z2,e3,hq _ _ h⟩
end
end K23
namespace K23
open PySem L2
structure Rows (c:List Bell) (rows:List (List (Option Int))):Prop where
  first:∀ row,rows[0]?=some row→row=c.map fun b=>some b.start
  next:∀ (n:Nat) x y,rows[n]?=some x→rows[n+1]?=some y→Fix c x y
theorem Rows.len {c:List Bell} {rows:List (List (Option Int))} (h:Rows c rows):∀ (n:Nat) x,rows[n]?=some x→x.length=c.length
  | 0,x,e=>by rw [h.first x e,List.length_map]
  | n+1,x,e=>by
    have hn:n<rows.length:=by have:=(List.getElem?_eq_some_iff.mp e).1; omega
    exact (h.next n _ x (List.getElem?_eq_getElem hn) e).1
theorem Rows.snoc {c:List Bell} {rows:List (List (Option Int))} {row:List (Option Int)} (h:Rows c rows) (h0:rows=[]→row=c.map fun b=>some b.start) (h1:∀ x,rows[rows.length - 1]?=some x→0<rows.length→Fix c x row):Rows c (rows++[row]) where
  first:=fun r e=>by
    by_cases hn:rows=[]
    · subst hn
      have:row=r:=by simpa using e
      rw [← this]
      exact h0 rfl
    · have hp:0<rows.length:=List.length_pos_iff.mpr hn
      rw [List.getElem?_append_left hp] at e
      exact h.first r e
  next:=fun n x y ex ey=>by
    have hlt:=(List.getElem?_eq_some_iff.mp ey).1
    rw [List.length_append] at hlt
    have hlt':n+1<rows.length+1:=hlt
    have hn:n<rows.length:=by omega
    rw [List.getElem?_append_left hn] at ex
    by_cases hn1:n+1<rows.length
    · rw [List.getElem?_append_left hn1] at ey
      exact h.next n x y ex ey
    · have e:n+1=rows.length:=by omega
      rw [e,List.getElem?_concat_length] at ey
      cases ey
      exact h1 x (by rw [← e]; exact ex) (by omega)
def RowAt (N:Addr→Prop) (H:Hp) (v:V) (row:List (Option Int)):Prop:=∃ a,v=.ref a∧N a∧H a=some (.lst (row.map oV))
section
variable {P:Program} {w:World} {K:PySem.W.Frag} {mg:Str→Option Value} {base:Heap} {f:Addr} {fd:FuncData}
def sp_strokes:Sp:=fun vs H Q _=>∃ (ch:V) (c:List Bell) (many:Nat),vs=[ch,.int ((many:Int) - 1)]∧ChoirAt H ch c∧Fine c∧many≤100000∧
  ∀ (H':Hp) (t:Addr) (told:List V) (rows:List (List (Option Int))),Same H H'→H t=none→H' t=some (.lst told)→Paired (RowAt (fun a=>H a=none∧a≠t) H') told rows→rows.length=many→Rows c rows→Q (.ref t) H'
theorem sc_strokes:FnScope ["choir","many","rules","told","n"] ["choir","many"] (defScope s_strokes):=⟨rfl,rfl,rfl,by decide +kernel,rfl,by decide +kernel,by decide +kernel⟩
theorem RowAt.same {N:Addr→Prop} {H H':Hp} {v:V} {row:List (Option Int)} (s:Same H H') (h:RowAt N H v row):RowAt N H' v row:=by
  obtain ⟨a,e,n,q⟩:=h
  exact ⟨a,e,n,s _ _ q⟩
theorem small5 {n:Nat} (h:n≤100002):n<sizeLine:=Nat.lt_of_le_of_lt h (by decide)
theorem ok_strokes {ff:Addr} (F:Fun K "strokes" "strokes" s_strokes f fd) (B:Blt mg) (C_rule_of_bell:Cal P w K mg base 6 "rule_of_bell" ["bell"] (sp_bellrule K ff)) (C_behind:Cal P w K mg base 3 "strokes_behind" ["choir","rules","before"] (sp_behind K ff)):FnOk P w K mg base CX0 7 f fd ["choir","many"] sp_strokes:=by
  refine F.ok sc_strokes (fun vs H Q E h=>?_) (fun cdv A outer s H vs Q E hr h=>?_)
  · obtain ⟨ch,c,many,rfl,_⟩:=h
    rfl
  obtain ⟨ch,c,many,rfl,hch,fc,hm,q⟩:=h
  obtain ⟨a,bs,rfl,ha,prb⟩:=id hch
  refine ⟨_,(pss_cons (ps_setComp (i:=2) ["bell"] [] [] rfl sc_strokes.nd rfl (Or.inl rfl) (pi_tup (pv 0)) (fun _ _ _ _ _=>(pg_name (i:=0) (show List.Nodup [("bell":Str)] by decide +kernel) rfl (Or.inl rfl))) (fun _ _ _ _ _=>pts_nil) (fun _ _ _ _ _=>(pe_fn C_rule_of_bell hr (by decide) rfl (pa_cons (pv 0) pa_nil))))
    (pss_cons (ps_set (i:=3) sc_strokes.nd rfl (Or.inl rfl) (pe_lst pa_nil))
    (pss_cons (ps_for PassesOwn.never rfl (pi_range1 rfl B.range_ (pa_cons (pe_op op_add (pv 1) pe_int) pa_nil)) (pg_name (i:=4) sc_strokes.nd rfl (Or.inl rfl))
    (pss_one (ps_if (pt_cmpR op_eq (pv 4) pe_int (nomark _))
    (pss_one (ps_expr (pe_bm PySem.F.plainAttrs_list PySem.F.slot_list_append PySem.F.type_list_append mt_append (pv 3) (pa_cons (pe_comp ["bell"] [] [] rfl (pi_tup (pv 0)) (fun _ _ _ _ _=>(pg_name (i:=0) (show List.Nodup [("bell":Str)] by decide +kernel) rfl (Or.inl rfl))) (fun _ _ _ _ _=>pts_nil) (fun _ _ _ _ _=>(pe_ix (ix_tupC (K:=K) rfl) (pv 0) pe_int (fun _ _=>rfl)))) pa_nil))))
    (pss_one (ps_expr (pe_bm PySem.F.plainAttrs_list PySem.F.slot_list_append PySem.F.type_list_append mt_append (pv 3) (pa_cons (pe_fn C_behind hr (by decide) rfl (pa_cons (pv 0) (pa_cons (pv 2) (pa_cons (pe_ix ix_list (pv 3) (pe_op op_sub (pv 4) pe_int) (fun _ _=>rfl)) pa_nil)))) pa_nil)))))))
    (pss_one (ps_ret (pv 3)))))),?_⟩
  have hbl:=paired_len prb
  have h6:=fc.1
  refine ⟨_,rfl,a,rfl,⟨_,SqT.of ha⟩,fun r hr0=>?_⟩
  refine comp_tup (K:=K) (a:=a) (xs:=bs) (fun j ys H2=>Same H H2∧Paired (RuleV K ff H2) ys (c.take j)) ⟨same_new hr0 _,.nil⟩ (fun j ys H2 _ ⟨z,_⟩=>SqT.of (z _ _ ha)) ?_ ?_
  · rintro j y ys H2 hj ⟨s2,pr2⟩ hD
    obtain ⟨b,hb,hbv⟩:=paired_at prb hj
    have hj6:j<c.length:=(List.getElem?_eq_some_iff.mp hb).1
    refine ⟨rfl,tTrue_ite ?_⟩
    refine ⟨_,rfl,y,b,rfl,hbv.mono (Same.tup s2),(fc.2 j b hb).2.2.1,fun x H3 s3 hx=>?_⟩
    have hD3:=s3 _ _ hD
    refine ⟨_,hD3,?_,_,⟨(s2.trans s3).upd hr0 _,?_⟩,upd_same⟩
    · rw [paired_len pr2,List.length_take]
      exact small1000 (by omega)
    · have up:∀ (v:V) (b:Bell),RuleV K ff H3 v b→RuleV K ff (upd H3 r (.lst (ys++[.ref x]))) v b:=by
        rintro v b ⟨x,rfl,C,dx,hx,z⟩
        refine ⟨x,rfl,C,dx,?_,z⟩
        rw [upd_ne (ne_of hx hD3 (by intro z; cases z))]
        exact hx
      rw [take_snoc hb]
      exact paired_snoc (up _ _ ⟨x,rfl,hx⟩) (paired_imp (fun _ _ z=>up _ _ (z.same s3)) pr2)
  · rintro ys H2 ⟨s2,pr2⟩ hD
    rw [hbl,List.take_length] at pr2
    refine ⟨(by show 0≤sizeLine; decide),fun t ht=>?_⟩
    have nt:H t=none:=s2.free ht
    have hru2:RulesAt K ff H2 r c:=⟨ys,hD,pr2⟩
    have s3:Same H2 (upd H2 t (.lst [])):=same_new ht _
    have hrt:r≠t:=ne_of_none hD ht
    refine ⟨_,rfl,_,_,rfl,rfl,((many:Nat):Int),?_,by omega,by omega,?_⟩
    · show [V.int ((many:Int) - 1+1)]=[V.int (many:Int)]
      rw [Int.sub_add_cancel]
    refine for_range (lo:=0) (n:=(((many:Nat):Int)).toNat) (fun i σ H3=>∃ (told:List V) (rows:List (List (Option Int))) (o4:Option V),σ=[some (.ref a),some (.int ((many:Int) - 1)),some (.ref r),some (.ref t),o4]∧Same H H3∧RulesAt K ff H3 r c∧H3 t=some (.lst told)∧
        Paired (RowAt (fun a=>H a=none∧a≠t) H3) told rows∧rows.length=i∧Rows c rows)
      ⟨[],[],none,rfl,s2.trans s3,hru2.same s3,upd_same,.nil,rfl,⟨fun _ e=>(nomatch e),fun _ _ _ e=>(nomatch e)⟩⟩ ?_ ?_
    · rintro i σ H3 hi ⟨told,rows,o4,rfl,s03,hru,ht3,prt,hri,hrows⟩
      have hti:=(paired_len prt).trans hri
      rw [Int.zero_add]
      have step:∀ (H4:Hp) (n:Addr) (now:List (Option Int)),Same H3 H4→H3 n=none→H4 n=some (.lst (now.map oV))→Rows c (rows++[now])→Same H (upd H4 t (.lst (told++[.ref n])))∧RulesAt K ff (upd H4 t (.lst (told++[.ref n]))) r c∧Paired (RowAt (fun a=>H a=none∧a≠t) (upd H4 t (.lst (told++[.ref n])))) (told++[.ref n]) (rows++[now]):=fun H4 n now s4 hn hn4 hrn=>by
        have hnt:n≠t:=fun e=>by rw [e,ht3] at hn; cases hn
        have ht4:=s4 _ _ ht3
        have up:∀ (v:V) (row:List (Option Int)),RowAt (fun a=>H a=none∧a≠t) H4 v row→RowAt (fun a=>H a=none∧a≠t) (upd H4 t (.lst (told++[.ref n]))) v row:=by
          rintro v row ⟨x,e,⟨x1,x2⟩,x3⟩
          exact ⟨x,e,⟨x1,x2⟩,by rw [upd_ne x2]; exact x3⟩
        refine ⟨(s03.trans s4).upd nt _,?_,paired_snoc (up _ _ ⟨n,rfl,⟨s03.free hn,hnt⟩,hn4⟩) (paired_imp (fun _ _ z=>up _ _ (z.same s4)) prt)⟩
        obtain ⟨rs,e,pr⟩:=hru.same s4
        refine ⟨rs,by rw [upd_ne hrt]; exact e,paired_imp ?_ pr⟩
        rintro v b ⟨x,rfl,C,dx,hx,z⟩
        refine ⟨x,rfl,C,dx,?_,z⟩
        rw [upd_ne (ne_of hx ht4 (by intro z; cases z))]
        exact hx
      refine ⟨_,rfl,rfl,_,rfl,?_⟩
      refine ite2 (fun cc=>?_) (fun cc=>?_)
      · have hi0:i=0:=by
          have e:V.int (i:Int)=V.int 0:=of_decide_eq_true cc
          injection e with e
          omega
        refine ⟨_,rfl,.inl ⟨rfl,_,SqL.of ht3⟩,_,rfl,a,rfl,⟨_,SqT.of (s03 _ _ ha)⟩,fun D hD=>?_⟩
        refine comp_tup (K:=K) (a:=a) (xs:=bs) (fun j ys H4=>Same H3 H4∧ys=((c.take j).map fun b=>some b.start).map oV) ⟨same_new hD _,rfl⟩ (fun j ys H4 _ ⟨z,_⟩=>SqT.of ((s03.trans z) _ _ ha)) ?_ ?_
        · rintro j y ys H4 hj ⟨s4,rfl⟩ hD4
          obtain ⟨b,hb,⟨x,tt,ls,rfl,hx,_⟩⟩:=paired_at prb hj
          have hj6:j<c.length:=(List.getElem?_eq_some_iff.mp hb).1
          refine ⟨rfl,tTrue_ite ?_⟩
          refine ⟨_,rfl,x,_,_,_,rfl,rfl,SqT.of ((s03.trans s4) _ _ hx),rfl,_,hD4,?_,_,⟨s4.upd hD _,rfl⟩,?_⟩
          · rw [List.length_map,List.length_map,List.length_take]
            exact small1000 (by omega)
          · rw [take_snoc hb,List.map_append,List.map_append]
            exact upd_same
        · rintro ys H4 ⟨s4,rfl⟩ hD4
          rw [hbl,List.take_length] at hD4
          have hr0:rows=[]:=List.eq_nil_of_length_eq_zero (by omega)
          have hrn:Rows c (rows++[c.map fun b=>some b.start]):=hrows.snoc (fun _=>rfl) (fun x _ h=>by rw [hr0] at h; cases h)
          obtain ⟨z1,z2,z3⟩:=step H4 D _ s4 hD hD4 hrn
          exact ⟨t,_,_,rfl,rfl,s4 _ _ ht3,by rw [hti]; exact small5 (by omega),_,_,_,rfl,z1,z2,upd_same,z3,by rw [List.length_append,hri]; rfl,hrn⟩
      · have hi1:1≤i:=by
          rcases Nat.eq_zero_or_pos i with e | e
          · exact absurd (by rw [e]; rfl) cc
          · exact e
        have hv:=List.getElem?_eq_getElem (show i - 1<told.length by omega)
        obtain ⟨row,hrow,⟨p,ep,_,hp3⟩⟩:=paired_at prt hv
        have hat:atI told ((i:Int) - 1)=some (.ref p):=by
          have e:(i:Int) - 1=((i - 1:Nat):Int):=by omega
          rw [e,← ep]
          exact atI_nat hv
        refine ⟨_,rfl,.inl ⟨rfl,_,SqL.of ht3⟩,_,rfl,_,rfl,_,rfl,_,rfl,_,_,rfl,rfl,t,_,_,_,rfl,rfl,SqL.of ht3,hat,.ref a,c,r,p,row,rfl,hch.mono (Same.tup s03),fc,hru,hp3,hrows.len _ _ hrow,fun H4 n now s4 hn hn4 hfix=>?_⟩
        have hrn:Rows c (rows++[now]):=hrows.snoc (fun e=>by rw [e] at hri; exact absurd hri.symm (by show ¬ i=0; omega)) (fun x hx _=>by rw [hri,hrow] at hx; cases hx; exact hfix)
        obtain ⟨z1,z2,z3⟩:=step H4 n now s4 hn hn4 hrn
        exact ⟨t,_,_,rfl,rfl,s4 _ _ ht3,by rw [hti]; exact small5 (by omega),_,_,_,rfl,z1,z2,upd_same,z3,by rw [List.length_append,hri]; rfl,hrn⟩
    · rintro σ H3 ⟨told,rows,o4,rfl,s03,hru,ht3,prt,hri,hrows⟩
      exact ⟨_,rfl,q H3 t told rows s03 nt ht3 prt (by rw [hri]; omega) hrows⟩
end
end K23
namespace K23
open PySem L2
theorem fine_of {waits:Bool} {c:List Bell} (h:GoodC waits c) (h6:c.length≤6):Fine c:=by
  refine ⟨h6,fun k b hb=>?_⟩
  have g:=h.1 k b hb
  have:=g.n6
  exact ⟨g.n1,by omega,g.r,fun l hl=>⟨(g.l l hl).1,(g.l l hl).2.1⟩⟩
end K23
namespace K23
open PySem L2
def LQ (l0 l1:Lis):Prop:=l0.whom=l1.whom∧l0.back=l1.back∧l0.beats≤l1.beats
def Quick (c0 c1:List Bell):Prop:=∀ (k:Nat) b1,c1[k]?=some b1→∃ b0,c0[k]?=some b0∧wants b0=wants b1∧Paired LQ b0.lis b1.lis
theorem leO_some {o:Option Int} {v:Int} (h:leO o v=true):∃ u,o=some u∧u≤v:=by
  cases o with
  | none=>cases h
  | some u=>exact ⟨u,rfl,of_decide_eq_true h⟩
theorem come_some {before now:List (Option Int)} {l:Lis} {u:Int} (h:come before now l=some u):∃ w,(if l.back then before else now)[l.whom]?=some (some w)∧u=w+l.beats:=by
  unfold come at h
  cases e:(if l.back then before else now)[l.whom]? with
  | none=>rw [e] at h; cases h
  | some o =>
    rw [e] at h
    cases o with
    | none=>cases h
    | some w=>exact ⟨w,rfl,(Option.some.inj h).symm⟩
def later (d:Int) (r:List (Option Int)):List (Option Int):=r.map (Option.map (·+d))
structure Btw (lo hi:Int) (r r':List (Option Int)):Prop where
  len:r.length=r'.length
  le:∀ (k:Nat) v,r'[k]?=some (some v)→∃ u,r[k]?=some (some u)∧u+lo≤v
  ge:∀ (k:Nat) u,r[k]?=some (some u)→∃ v,r'[k]?=some (some v)∧v≤u+hi
end K23
namespace L2
open PySem PySem.Spec PyProof.Rows
section
variable {X:Cx}
theorem op_neT (hu:X.A.units+64<cLine):OpR X (compareOp .NotEq) (fun x y H Q=>∃ (p q:Addr) (xs ys:List V) (e:Nat→Bool),x=.ref p∧y=.ref q∧SqT X.K H p xs∧SqT X.K H q ys∧(∀ (i:Nat) u v,xs[i]?=some u→ys[i]?=some v→EqH X.K H 0 u v (e i))∧
    Q (.bl (!((List.range (min xs.length ys.length)).all e && xs.length == ys.length))) H):=by
  intro pins s σ H x y v u Q I rx ry h
  obtain ⟨p,q,xs,ys,e,rfl,rfl,ha,hb,he,hq⟩:=h
  cases rx
  cases ry
  obtain ⟨us,r1,p1,_⟩:=I.tuple ha
  obtain ⟨ws,r2,p2,_⟩:=I.tuple hb
  have l1:=r1.length
  have l2:=r2.length
  refine SeqAt.RcNeAt.tuples (e:=e) (IsTup.tup p1) (IsTup.tup p2) (by omega) (each_at r1 r2 fun i x y u v e1 e2 ru rv=>(he i x y e1 e2).at I (by show X.A.units+1+_<cLine; omega) ru rv) _ _ _ _ ⟨.bl _,H,I,?_,hq⟩
  show Value.bool _=Value.bool _
  rw [List.size_toArray,List.size_toArray,← l1,← l2]
end
end L2
namespace K23
open PySem L2
def pickAt (c:List Bell) (fi la:Int) (n:Nat) (x:List (Option Int)) (k:Nat):List D3:=match c[k]?,x[k]? with
  | some b,some (some v)=>if fi≤v∧v≤la then [(v,b.name,(n:Int))] else []
  | _,_=>[]
def pickRow (c:List Bell) (fi la:Int) (n:Nat) (x:List (Option Int)):Nat→List D3
  | 0=>[]
  | k+1=>pickRow c fi la n x k++pickAt c fi la n x k
def rowOf (rows:List (List (Option Int))) (n:Nat):List (Option Int):=(rows[n]?).getD []
def pickAll (c:List Bell) (fi la:Int) (rows:List (List (Option Int))):Nat→List D3
  | 0=>[]
  | n+1=>pickAll c fi la rows n++pickRow c fi la n (rowOf rows n) c.length
theorem rowOf_at {rows:List (List (Option Int))} {n:Nat} {x:List (Option Int)} (h:rows[n]?=some x):rowOf rows n=x:=by
  unfold rowOf
  rw [h]
  rfl
theorem pickAt_some {c:List Bell} {fi la:Int} {n:Nat} {x:List (Option Int)} {k:Nat} {b:Bell} {v:Int} (h1:c[k]?=some b) (h2:x[k]?=some (some v)):pickAt c fi la n x k=if fi≤v∧v≤la then [(v,b.name,(n:Int))] else []:=by
  unfold pickAt
  rw [h1,h2]
theorem pickAt_none {c:List Bell} {fi la:Int} {n:Nat} {x:List (Option Int)} {k:Nat} (h2:x[k]?=some none):pickAt c fi la n x k=[]:=by
  unfold pickAt
  rw [h2]
  cases c[k]? <;> rfl
theorem pickAt_len (c:List Bell) (fi la:Int) (n:Nat) (x:List (Option Int)) (k:Nat):(pickAt c fi la n x k).length≤1:=by
  unfold pickAt
  split
  · split
    · exact Nat.le_refl 1
    · exact Nat.zero_le 1
  · exact Nat.zero_le 1
theorem pickRow_len (c:List Bell) (fi la:Int) (n:Nat) (x:List (Option Int)):∀ k,(pickRow c fi la n x k).length≤k
  | 0=>Nat.le_refl 0
  | k+1=>by
    have:=pickRow_len c fi la n x k
    have:=pickAt_len c fi la n x k
    unfold pickRow
    rw [List.length_append]
    omega
theorem pickAll_len (c:List Bell) (fi la:Int) (rows:List (List (Option Int))):∀ n,(pickAll c fi la rows n).length≤n * c.length
  | 0=>by rw [Nat.zero_mul]; exact Nat.le_refl 0
  | n+1=>by
    have:=pickAll_len c fi la rows n
    have:=pickRow_len c fi la n (rowOf rows n) c.length
    unfold pickAll
    rw [List.length_append,Nat.succ_mul]
    omega
theorem pickRow_nil {c:List Bell} {fi la:Int} {n:Nat} {x:List (Option Int)} (h:∀ (k:Nat) v,x[k]?=some (some v)→la<v):∀ k,pickRow c fi la n x k=[]
  | 0=>rfl
  | k+1=>by
    unfold pickRow
    rw [pickRow_nil h k]
    show pickAt c fi la n x k=[]
    unfold pickAt
    split
    · rename_i b v h1 h2
      have:=h k v h2
      rw [if_neg (by omega)]
    · rfl
theorem pickAll_cut {c:List Bell} {fi la:Int} {rows:List (List (Option Int))} {k:Nat} (h:∀ (n:Nat) x,k≤n→rows[n]?=some x→∀ (j:Nat) v,x[j]?=some (some v)→la<v):∀ m,k+m≤rows.length→pickAll c fi la rows (k+m)=pickAll c fi la rows k
  | 0,_=>rfl
  | m+1,hl=>by
    have e:=List.getElem?_eq_getElem (show k+m<rows.length by omega)
    show pickAll c fi la rows (k+m)++pickRow c fi la (k+m) (rowOf rows (k+m)) c.length=_
    rw [pickAll_cut h m (by omega),rowOf_at e,pickRow_nil (h _ _ (by omega) e),List.append_nil]
theorem pickAll_same {c:List Bell} {fi la:Int} {rows rows':List (List (Option Int))}:∀ n,(∀ i,i<n→rows[i]?=rows'[i]?)→pickAll c fi la rows n=pickAll c fi la rows' n
  | 0,_=>rfl
  | n+1,h=>by
    unfold pickAll rowOf
    rw [pickAll_same n fun i hi=>h i (by omega),h n (by omega)]
theorem fix_low {c:List Bell} (hc:Slow c) (hw:∀ (k:Nat) b,c[k]?=some b→1≤wants b) {before now:List (Option Int)} (f:Fix c before now) {m:Int} (hm:∀ (k:Nat) v,before[k]?=some (some v)→m≤v):∀ (k:Nat) v,now[k]?=some (some v)→m+1≤v:=by
  obtain ⟨B,hB⟩:=low now
  have go:∀ (n:Nat) (k:Nat) x,now[k]?=some (some x)→x<B+n→m+1≤x:=by
    intro n
    induction n with
    | zero=>intro k x hx hl; have:=hB x (List.mem_of_getElem? hx); omega
    | succ n ih =>
      intro k x hx hl
      have hkc:k<c.length:=by rw [← f.1]; exact (List.getElem?_eq_some_iff.mp hx).1
      have eb:=List.getElem?_eq_getElem hkc
      obtain ⟨o,ho,hd⟩:=f.2 k _ eb
      rw [hx] at ho
      cases ho
      have w1:=hw k _ eb
      have hp:0<cnt (comesOf c[k] before now) x:=by have:=hd.1; omega
      unfold cnt at hp
      rw [List.countP_pos_iff] at hp
      obtain ⟨o,hmem,ho⟩:=hp
      obtain ⟨l,hl',rfl⟩:=List.mem_map.mp hmem
      obtain ⟨u,eu,hu⟩:=leO_some ho
      obtain ⟨w,hw,ew⟩:=come_some eu
      have l2:=hc k _ eb l hl'
      cases hbk:l.back with
      | true =>
        rw [hbk] at hw
        have:=hm _ w hw
        omega
      | false =>
        rw [hbk] at hw
        have:=ih _ w hw (by omega)
        omega
  intro k x hx
  exact go (x - B+1).toNat k x hx (by have:=hB x (List.mem_of_getElem? hx); omega)
theorem rows_low {c:List Bell} (hc:Slow c) (hw:∀ (k:Nat) b,c[k]?=some b→1≤wants b) {rows:List (List (Option Int))} (h:Rows c rows) {m:Int} (hm:∀ b∈c,m≤b.start):∀ (n:Nat) x,rows[n]?=some x→∀ (k:Nat) v,x[k]?=some (some v)→m+n≤v
  | 0,x,e,k,v,hv=>by
    rw [h.first x e,List.getElem?_map] at hv
    cases hb:c[k]? with
    | none=>rw [hb] at hv; cases hv
    | some b =>
      rw [hb] at hv
      have:b.start=v:=Option.some.inj (Option.some.inj hv)
      have:=hm b (List.mem_of_getElem? hb)
      omega
  | n+1,x,e,k,v,hv=>by
    have hl:=(List.getElem?_eq_some_iff.mp e).1
    have e':=List.getElem?_eq_getElem (show n<rows.length by omega)
    have:=fix_low hc hw (h.next n _ x e' e) (m:=m+n) (rows_low hc hw h hm n _ e') k v hv
    omega
theorem rows_pref {c:List Bell} (hc:Slow c) {rows rows':List (List (Option Int))} (h:Rows c rows) (h':Rows c rows'):∀ n,n<rows.length→n<rows'.length→rows[n]?=rows'[n]?
  | 0,h1,h2=>by
    have e1:=List.getElem?_eq_getElem h1
    have e2:=List.getElem?_eq_getElem h2
    rw [e1,e2,h.first _ e1,h'.first _ e2]
  | n+1,h1,h2=>by
    have e1:=List.getElem?_eq_getElem h1
    have e2:=List.getElem?_eq_getElem h2
    have d1:=List.getElem?_eq_getElem (show n<rows.length by omega)
    have d2:=List.getElem?_eq_getElem (show n<rows'.length by omega)
    have ih:=rows_pref hc h h' n (by omega) (by omega)
    have f1:=h.next n _ _ d1 e1
    have f2:=h'.next n _ _ d2 e2
    rw [d1,d2] at ih
    rw [Option.some.inj ih] at f1
    rw [e1,e2,fix_unique hc f1 f2]
def Least (c:List Bell) (m:Int):Prop:=(∀ b∈c,m≤b.start)∧∃ b∈c,b.start=m
theorem Least.one {c:List Bell} {m m':Int} (h:Least c m) (h':Least c m'):m=m':=by
  obtain ⟨b,hb,e⟩:=h.2
  obtain ⟨b',hb',e'⟩:=h'.2
  have:=h.1 b' hb'
  have:=h'.1 b hb
  omega
theorem least_of {c:List Bell} {M:Int} (h1:M∈c.map (·.start)) (h2:∀ a,a∈c.map (·.start)→M≤a):Least c M:=by
  obtain ⟨b,hb,e⟩:=List.mem_map.mp h1
  exact ⟨fun b' hb'=>h2 _ (List.mem_map.mpr ⟨b',hb',rfl⟩),b,hb,e⟩
def But (t:Addr) (H H':Hp):Prop:=∀ a o,a≠t→H a=some o→H' a=some o
theorem But.refl (t:Addr) (H:Hp):But t H H:=fun _ _ _ h=>h
theorem But.trans {t:Addr} {H H1 H2:Hp} (a:But t H H1) (b:But t H1 H2):But t H H2:=fun c o n h=>b c o n (a c o n h)
theorem Same.but {t:Addr} {H H':Hp} (s:Same H H'):But t H H':=fun a o _ h=>s a o h
theorem But.upd {t:Addr} {H H':Hp} (s:But t H H') (o:HO):But t H (upd H' t o):=fun a u n h=>by rw [upd_ne n]; exact s a u n h
theorem D3At.but {t:Addr} {H H':Hp} {ws:List V} (ht:H t=some (.lst ws)) (s:But t H H') {v:V} {d:D3} (h:D3At H v d):D3At H' v d:=by
  obtain ⟨a,e,q⟩:=h
  exact ⟨a,e,s _ _ (ne_of q ht (by intro z; cases z)) q⟩
theorem oV_at {x:List (Option Int)} {k:Nat} {v:V} (h:(x.map oV)[k]?=some v):∃ o,x[k]?=some o∧v=oV o:=by
  rw [List.getElem?_map] at h
  cases e:x[k]? with
  | none=>rw [e] at h; cases h
  | some o=>rw [e] at h; exact ⟨o,rfl,(Option.some.inj h).symm⟩
theorem atI_oV {x:List (Option Int)} {k:Nat} {o:Option Int} (h:x[k]?=some o):atI (x.map oV) (k:Int)=some (oV o):=atI_nat (by rw [List.getElem?_map,h]; rfl)
section
variable {P:Program} {w:World} {K:PySem.W.Frag} {mg:Str→Option Value} {base:Heap} {f:Addr} {fd:FuncData}
def sp_heard:Sp:=fun vs H Q _=>∃ (ch:V) (c:List Bell) (fi la m:Int) (k:Nat),vs=[ch,.int fi,.int la]∧ChoirAt H ch c∧Fine c∧1≤c.length∧Least c m∧la - m+1=k∧k≤2100∧k * c.length≤3000∧
  ∀ (H':Hp) (t:Addr) (vs:List V) (rows:List (List (Option Int))),Same H H'→H t=none→H' t=some (.lst vs)→rows.length=k→Rows c rows→Paired (D3At H') vs (sortB (pickAll c fi la rows k))→Q (.ref t) H'
theorem sc_heard:FnScope ["choir","first","last","many","told","n","beats","bell","beat"] ["choir","first","last"] (defScope s_heard):=⟨rfl,rfl,rfl,by decide +kernel,rfl,by decide +kernel,by decide +kernel⟩
theorem ok_heard (F:Fun K "heard" "heard" s_heard f fd) (B:Blt mg) (C_strokes:Cal P w K mg base 7 "strokes" ["choir","many"] sp_strokes):FnOk P w K mg base CX0 8 f fd ["choir","first","last"] sp_heard:=by
  refine F.ok sc_heard (fun vs H Q E h=>?_) (fun cdv A outer s H vs Q E hr h=>?_)
  · obtain ⟨ch,c,fi,la,m,k,rfl,_⟩:=h
    rfl
  obtain ⟨ch,c,fi,la,m,kk,rfl,hch,fc,c1,lm,ek,k2,k3,q⟩:=h
  refine ⟨_,(pss_cons (ps_set (i:=3) sc_heard.nd rfl (Or.inl rfl) (pe_op op_sub (pv 2) (pe_callB (call_minL rfl) rfl B.min_ PyProof.Rows.boot_min (pa_cons (pe_comp ["bell"] [] [] rfl (pi_tup (pv 0)) (fun _ _ _ _ _=>(pg_name (i:=0) (show List.Nodup [("bell":Str)] by decide +kernel) rfl (Or.inl rfl))) (fun _ _ _ _ _=>pts_nil) (fun _ _ _ _ _=>(pe_ix (ix_tupC (K:=K) rfl) (pv 0) pe_int (fun _ _=>rfl)))) pa_nil))))
    (pss_cons (ps_set (i:=4) sc_heard.nd rfl (Or.inl rfl) (pe_lst pa_nil))
    (pss_cons (ps_for PassesOwn.never rfl (pi_enum rfl B.enumerate_ (pa_cons (pe_fn C_strokes hr (by decide) rfl (pa_cons (pv 0) (pa_cons (pv 3) pa_nil))) pa_nil)) (pg_tup rfl (pgs_cons (pg_name (i:=5) sc_heard.nd rfl (Or.inl rfl)) (pgs_cons (pg_name (i:=6) sc_heard.nd rfl (Or.inl rfl)) pgs_nil)))
    (pss_one (ps_for PassesOwn.never rfl (pi_zip true false rfl B.zip_ (pa_cons (pv 0) (pa_cons (pv 6) pa_nil))) (pg_tup rfl (pgs_cons (pg_name (i:=7) sc_heard.nd rfl (Or.inl rfl)) (pgs_cons (pg_name (i:=8) sc_heard.nd rfl (Or.inl rfl)) pgs_nil)))
    (pss_one (ps_if (PW.pt (pw_and (pt_cmpR op_notN (pv 8) pe_non (nomark _)) (pw_and1 (pt_chain op_le op_le (pv 1) (pv 8) (pv 2)))))
    (pss_one (ps_expr (pe_bm PySem.F.plainAttrs_list PySem.F.slot_list_append PySem.F.type_list_append mt_append (pv 4) (pa_cons (pe_tup (pa_cons (pv 8) (pa_cons (pe_ix ix_tup (pv 7) pe_int (fun _ _=>rfl)) (pa_cons (pv 5) pa_nil)))) pa_nil))))
    pss_nil)))))
    (pss_one (ps_ret (pe_callB call_sortedB rfl B.sorted_ PyProof.Rows.boot_sorted (pa_cons (pv 4) pa_nil))))))),?_⟩
  obtain ⟨ca,bs,rfl,hca,prb⟩:=id hch
  have lb:=paired_len prb
  have c6:=fc.1
  refine ⟨_,rfl,_,rfl,ca,rfl,⟨_,SqT.of hca⟩,fun D hD=>?_⟩
  refine comp_tup (K:=K) (a:=ca) (xs:=bs) (fun j ys H1=>Same H H1∧ys=((c.take j).map (·.start)).map V.int) ⟨same_new hD _,rfl⟩ (fun j ys H1 _ ⟨z,_⟩=>SqT.of (z _ _ hca)) ?_ ?_
  · rintro j y ys H1 hj ⟨s1,rfl⟩ hD1
    obtain ⟨b,hb,⟨x,tt,ls,rfl,hx,_⟩⟩:=paired_at prb hj
    have hj6:j<c.length:=(List.getElem?_eq_some_iff.mp hb).1
    refine ⟨rfl,tTrue_ite ?_⟩
    refine ⟨_,rfl,x,_,_,_,rfl,rfl,SqT.of (s1 _ _ hx),rfl,_,hD1,?_,_,⟨s1.upd hD _,rfl⟩,?_⟩
    · rw [List.length_map,List.length_map,List.length_take]
      exact small1000 (by omega)
    · rw [take_snoc hb,List.map_append,List.map_append]
      exact upd_same
  rintro ys H1 ⟨s1,rfl⟩ hD1
  rw [lb,List.take_length] at hD1
  refine ⟨D,_,rfl,SqL.of hD1,by rw [List.length_map]; omega,fun M M1 M2=>?_⟩
  obtain rfl:=lm.one (least_of M1 M2)
  clear M1 M2
  refine ⟨_,_,rfl,rfl,?_⟩
  refine ⟨(by show 0≤sizeLine; decide),fun t ht=>?_⟩
  have s2:=same_new ht (.lst [])
  have nt:H t=none:=s1.free ht
  refine ⟨_,rfl,_,rfl,.ref ca,c,kk,?_,hch.mono (Same.tup (s1.trans s2)),fc,by omega,fun H2 t1 told rows s3 n1 ht1 pr1 hl1 R1=>?_⟩
  · show [V.ref ca,V.int (la - m)]=[V.ref ca,V.int ((kk:Int) - 1)]
    rw [show la - m=(kk:Int) - 1 by omega]
  have htt:(upd H1 t (.lst [])) t=some (.lst []):=upd_same
  have ht2:H2 t=some (.lst []):=s3 _ _ htt
  have t1t:t1≠t:=fun e=>by rw [e,htt] at n1; cases n1
  have s13:=s1.trans (s2.trans s3)
  have hca2:=s13 _ _ hca
  have cat:ca≠t:=ne_of_none hca nt
  have e1:=paired_len pr1
  refine ⟨t1,rfl,⟨_,SqL.of ht1⟩,?_⟩
  refine for_enum (K:=K) (a:=t1) (xs:=told) (fun i σ H4=>∃ (o5 o6 o7 o8:Option V) (ws:List V),σ=[some (.ref ca),some (.int fi),some (.int la),some (.int (la - m)),some (.ref t),o5,o6,o7,o8]∧But t H2 H4∧H4 t=some (.lst ws)∧Paired (D3At H4) ws (pickAll c fi la rows i))
    ⟨none,none,none,none,[],rfl,.refl t H2,ht2,.nil⟩ ?_ ?_ ?_
  · rintro i σ H4 _ ⟨o5,o6,o7,o8,ws,rfl,b4,_⟩
    exact SqL.of (b4 _ _ t1t ht1)
  · rintro i v σ H4 T hv ⟨o5,o6,o7,o8,ws,rfl,b4,ht4,pd⟩ hT
    obtain ⟨rx,erx,xa,rfl,⟨xn,_⟩,hxa⟩:=paired_at pr1 hv
    have xt:xa≠t:=fun e=>by rw [e,htt] at xn; cases xn
    have lx:=R1.len i rx erx
    have b5:But t H4 (upd H4 T (.tup [.int (i:Int),.ref xa])):=Same.but (same_new hT _)
    have hT5:(upd H4 T (.tup [.int (i:Int),.ref xa])) T=some (.tup [.int (i:Int),.ref xa]):=upd_same
    have ht5:=same_new hT (.tup [.int (i:Int),.ref xa]) _ _ ht4
    generalize (upd H4 T (.tup [.int (i:Int),.ref xa]))=H5 at b5 hT5 ht5 ⊢
    have b35:=b4.trans b5
    have pd5:=paired_imp (fun _ _ z=>D3At.but ht4 b5 z) pd
    have hca5:=b35 _ _ cat hca2
    have hxa5:=b35 _ _ xt hxa
    refine ⟨T,_,rfl,SqT.of hT5,rfl,_,_,rfl,_,_,rfl,rfl,?_⟩
    refine ⟨_,rfl,_,rfl,ca,xa,rfl,⟨_,SqT.of hca5⟩,⟨_,SqL.of hxa5⟩,?_⟩
    refine for_zip (K:=K) (t1:=true) (t2:=false) (a:=ca) (b:=xa) (xs:=bs) (ys:=rx.map oV) (fun k σ H6=>∃ (o7 o8:Option V) (ws:List V),σ=[some (.ref ca),some (.int fi),some (.int la),some (.int (la - m)),some (.ref t),some (.int (i:Int)),some (.ref xa),o7,o8]∧But t H5 H6∧H6 t=some (.lst ws)∧Paired (D3At H6) ws (pickAll c fi la rows i++pickRow c fi la i rx k))
      ⟨o7,o8,ws,rfl,.refl t H5,ht5,by unfold pickRow; rw [List.append_nil]; exact pd5⟩ ?_ ?_ ?_
    · rintro k σ H6 _ ⟨o7,o8,ws,rfl,b6,_⟩
      exact ⟨SqT.of (b6 _ _ cat hca5),SqL.of (b6 _ _ xt hxa5)⟩
    · rintro k y y' σ H6 T' hy hy' ⟨o7,o8,ws,rfl,b6,ht6,pd6⟩ hT'
      obtain ⟨o,eo,rfl⟩:=oV_at hy'
      obtain ⟨b,hb,ba,tt,ls,rfl,hba,_⟩:=paired_at prb hy
      have b7:But t H6 (upd H6 T' (.tup [.ref ba,oV o])):=Same.but (same_new hT' _)
      have hT7:(upd H6 T' (.tup [.ref ba,oV o])) T'=some (.tup [.ref ba,oV o]):=upd_same
      have ht7:=same_new hT' (.tup [.ref ba,oV o]) _ _ ht6
      generalize (upd H6 T' (.tup [.ref ba,oV o]))=H7 at b7 hT7 ht7 ⊢
      have pd7:=paired_imp (fun _ _ z=>D3At.but ht6 b7 z) pd6
      have b57:=b6.trans b7
      have hk:k<c.length:=(List.getElem?_eq_some_iff.mp hb).1
      refine ⟨T',_,rfl,SqT.of hT7,rfl,_,_,rfl,_,_,rfl,rfl,?_⟩
      refine ⟨_,rfl,rfl,_,rfl,?_⟩
      cases o with
      | none =>
        refine iteF (iteF ⟨_,_,ws,rfl,b57,ht7,?_⟩)
        unfold pickRow
        rw [pickAt_none eo,List.append_nil]
        exact pd7
      | some v =>
        have hba7:=b57 _ _ (ne_of_none hba nt) (b35 _ _ (ne_of_none hba nt) (s13 _ _ hba))
        refine iteT ?_
        refine ⟨_,rfl,_,rfl,_,_,rfl,rfl,_,rfl,?_⟩
        have no:¬ (fi≤v∧v≤la)→Paired (D3At H7) ws (pickAll c fi la rows i++pickRow c fi la i rx (k+1)):=fun n=>by
          unfold pickRow
          rw [pickAt_some hb eo,if_neg n,List.append_nil]
          exact pd7
        refine ite2 (fun c1'=>?_) (fun c1'=>?_)
        · refine ⟨_,rfl,_,_,rfl,rfl,_,rfl,?_⟩
          refine ite2 (fun c2'=>?_) (fun c2'=>?_)
          · have l1:fi≤v:=of_decide_eq_true c1'
            have l2:v≤la:=of_decide_eq_true c2'
            refine ⟨_,rfl,.inl ⟨rfl,_,SqL.of ht7⟩,_,rfl,_,rfl,ba,_,_,_,rfl,rfl,SqT.of hba7,rfl,_,rfl,(by show 3≤sizeLine; decide),fun d hd=>?_⟩
            have s8:=same_new hd (.tup [.int v,.str b.name,.int (i:Int)])
            have ht8:=s8 _ _ ht7
            have hd8:(upd H7 d (.tup [.int v,.str b.name,.int (i:Int)])) d=some (.tup [.int v,.str b.name,.int (i:Int)]):=upd_same
            have dt:d≠t:=ne_of hd8 ht8 (by intro z; cases z)
            have lw:=paired_len pd7
            rw [List.length_append] at lw
            have l3:=pickAll_len c fi la rows i
            have l4:=pickRow_len c fi la i rx k
            have hi:i<kk:=by have:=(List.getElem?_eq_some_iff.mp erx).1; omega
            have l5:i * c.length+c.length≤kk * c.length:=by rw [← Nat.succ_mul]; exact Nat.mul_le_mul_right _ hi
            refine ⟨t,ws,_,rfl,rfl,ht8,small5 (by omega),?_⟩
            have b9:But t H7 (upd (upd H7 d (.tup [.int v,.str b.name,.int (i:Int)])) t (.lst (ws++[.ref d]))):=(Same.but s8).upd _
            refine ⟨_,_,ws++[.ref d],rfl,b57.trans b9,upd_same,?_⟩
            unfold pickRow
            rw [pickAt_some hb eo,if_pos ⟨l1,l2⟩,← List.append_assoc]
            exact paired_snoc ⟨d,rfl,by rw [upd_ne dt]; exact hd8⟩ (paired_imp (fun _ _ z=>D3At.but ht7 b9 z) pd7)
          · exact ⟨_,_,ws,rfl,b57,ht7,no fun n=>c2' (decide_eq_true n.2)⟩
        · exact ⟨_,rfl,iteF ⟨_,_,ws,rfl,b57,ht7,no fun n=>c1' (decide_eq_true n.1)⟩⟩
    · rintro σ H6 ⟨o7,o8,ws,rfl,b6,ht6,pd6⟩
      refine ⟨_,_,o7,o8,ws,rfl,b35.trans b6,ht6,?_⟩
      rw [List.length_map,lx,lb,Nat.min_self] at pd6
      unfold pickAll
      rw [rowOf_at erx]
      exact pd6
  · rintro σ H4 ⟨o5,o6,o7,o8,ws,rfl,b4,ht4,pd⟩
    rw [e1,hl1] at pd
    have l1:=pickAll_len c fi la rows kk
    refine ⟨_,rfl,t,ws,_,rfl,SqL.of ht4,pd,by omega,fun r vs' hr' pd'=>?_⟩
    have s9:=same_new hr' (.lst vs')
    refine q _ r vs' rows ?_ ?_ upd_same hl1 R1 (paired_imp (fun _ _ ⟨a,e,z⟩=>⟨a,e,s9 _ _ z⟩) pd')
    · exact fun a o e=>s9 _ _ (b4 _ _ (ne_of_none e nt) (s13 _ _ e))
    · cases e:H r with
      | none=>rfl
      | some o =>
        have:=b4 _ _ (ne_of_none e nt) (s13 _ _ e)
        rw [this] at hr'
        cases hr'
end
end K23
namespace K23
open PySem L2
theorem kit_ll (K:PySem.W.Frag):PySem.W.kitOne K (.type "list") (.type "list")=some true:=by kernel_rfl
theorem kit_tt (K:PySem.W.Frag):PySem.W.kitOne K (.type "tuple") (.type "tuple")=some true:=by kernel_rfl
theorem d3_eq {K:PySem.W.Frag} {H:Hp} {d:D3}:∀ (i:Nat) u v,(d3V d)[i]?=some u→(d3V d)[i]?=some v→EqH K H 0 u v true:=fun i u v eu ev=>by
  rw [eu] at ev
  cases ev
  have hi:∀ z:Int,eqV (.int z) (.int z)=true:=fun z=>beq_self_eq_true z
  have hs:∀ z:Str,eqV (.str z) (.str z)=true:=fun z=>beq_self_eq_true z
  have eu':u=.int d.1∨u=.str d.2.1∨u=.int d.2.2:=by
    have:=List.mem_of_getElem? eu
    simpa [d3V] using this
  rcases eu' with rfl | rfl | rfl
  · have:=EqH.flat (K:=K) (H:=H) (n:=0) (x:=.int d.1) (y:=.int d.1) rfl rfl
    rw [hi] at this
    exact this
  · have:=EqH.flat (K:=K) (H:=H) (n:=0) (x:=.str d.2.1) (y:=.str d.2.1) rfl rfl
    rw [hs] at this
    exact this
  · have:=EqH.flat (K:=K) (H:=H) (n:=0) (x:=.int d.2.2) (y:=.int d.2.2) rfl rfl
    rw [hi] at this
    exact this
section
variable {P:Program} {w:World} {K:PySem.W.Frag} {mg:Str→Option Value} {base:Heap} {f:Addr} {fd:FuncData}
def sp_alike (_:PySem.W.Frag):Sp:=fun vs H Q _=>∃ (t u:Addr) (vs1 vs2:List V) (ds:List D3),vs=[.ref t,.ref u]∧H t=some (.lst vs1)∧H u=some (.lst vs2)∧Paired (D3At H) vs1 ds∧Paired (D3At H) vs2 ds∧ds.length≤3000∧Q (.bl true) H
theorem sc_alike:FnScope ["_law_told","_law_due","_law_k","_law_one"] ["_law_told","_law_due"] (defScope s_alike):=⟨rfl,rfl,rfl,by decide +kernel,rfl,by decide +kernel,by decide +kernel⟩
theorem ok_alike (F:Fun K "_law_alike" "_law_alike" s_alike f fd) (B:Blt mg) (C_whole:Cal P w K mg base 1 "_law_whole" ["_law_thing"] sp_whole):FnOk P w K mg base CX0 2 f fd ["_law_told","_law_due"] (sp_alike K):=by
  refine F.ok sc_alike (fun vs H Q E h=>?_) (fun cdv A outer s H vs Q E hr h=>?_)
  · obtain ⟨t,u,vs1,vs2,ds,rfl,_⟩:=h
    rfl
  obtain ⟨t,u,vs1,vs2,ds,rfl,ht,hu,p1,p2,l3,q⟩:=h
  refine ⟨_,(pss_cons (ps_if (PW.pt (pw_or (pt_not (pt_val (pe_callB (call_isT "list") rfl B.isinstance_ PyProof.Rows.boot_isinstance (pa_cons (pv 0) (pa_cons (pe_bltn (v:=.ty "list") rfl B.list_ PyProof.Rows.boot_list rfl) pa_nil))))) (pw_or1 (pt_cmpR op_ne (pe_callB call_len_seq rfl B.len_ PySem.boot_len (pa_cons (pv 0) pa_nil)) (pe_callB call_len_seq rfl B.len_ PySem.boot_len (pa_cons (pv 1) pa_nil)) (nomark _)))))
    (pss_one (ps_ret pe_bl))
    pss_nil)
    (pss_cons (ps_for PassesOwn.never rfl (pi_range1 rfl B.range_ (pa_cons (pe_callB call_len_seq rfl B.len_ PySem.boot_len (pa_cons (pv 1) pa_nil)) pa_nil)) (pg_name (i:=2) sc_alike.nd rfl (Or.inl rfl))
    (pss_cons (ps_set (i:=3) sc_alike.nd rfl (Or.inl rfl) (pe_ix ix_list (pv 0) (pv 2) (fun _ _=>rfl)))
    (pss_cons (ps_if (PW.pt (pw_or (pt_not (pt_val (pe_callB (call_isT "tuple") rfl B.isinstance_ PyProof.Rows.boot_isinstance (pa_cons (pv 3) (pa_cons (pe_bltn (v:=.ty "tuple") rfl B.tuple_ PyProof.Rows.boot_tuple rfl) pa_nil))))) (pw_or (pt_cmpR op_ne (pe_callB call_len_seq rfl B.len_ PySem.boot_len (pa_cons (pv 3) pa_nil)) pe_int (nomark _)) (pw_or (pt_not (pt_val (pe_fn C_whole hr (by decide) rfl (pa_cons (pe_ix ix_tup (pv 3) pe_int (fun _ _=>rfl)) pa_nil)))) (pw_or1 (pt_not (pt_val (pe_fn C_whole hr (by decide) rfl (pa_cons (pe_ix ix_tup (pv 3) pe_int (fun _ _=>rfl)) pa_nil)))))))))
    (pss_one (ps_ret pe_bl))
    pss_nil)
    (pss_one (ps_if (PW.pt (pw_or (pt_not (pt_val (pe_callB (call_isT "str") rfl B.isinstance_ PyProof.Rows.boot_isinstance (pa_cons (pe_ix ix_tup (pv 3) pe_int (fun _ _=>rfl)) (pa_cons (pe_bltn (v:=.ty "str") rfl B.str_ PyProof.Rows.boot_str rfl) pa_nil))))) (pw_or1 (pt_cmpR (op_neT hr.units) (pv 3) (pe_ix ix_list (pv 1) (pv 2) (fun _ _=>rfl)) (nomark _)))))
    (pss_one (ps_ret pe_bl))
    pss_nil)))))
    (pss_one (ps_ret pe_bl)))),?_⟩
  have l1:=paired_len p1
  have l2:=paired_len p2
  refine ⟨_,rfl,_,_,_,rfl,.lst ht,kit_ll K,_,rfl,iteF ?_⟩
  refine ⟨_,rfl,t,_,rfl,.inl (SqL.of ht),_,rfl,u,_,rfl,.inl (SqL.of hu),rfl,_,rfl,?_⟩
  rw [l1,l2]
  refine ite2 (fun cc=>absurd cc (by simp)) (fun _=>?_)
  refine ⟨_,rfl,u,_,rfl,.inl (SqL.of hu),_,rfl,(by omega),(by omega),?_⟩
  rw [l2,Int.toNat_natCast]
  refine for_range (lo:=0) (n:=ds.length) (fun i σ H1=>∃ (o2 o3:Option V),σ=[some (.ref t),some (.ref u),o2,o3]∧H1=H) ⟨none,none,rfl,rfl⟩ ?_ ?_
  · rintro i σ H1 hi ⟨o2,o3,rfl,rfl⟩
    rw [Int.zero_add]
    have e1:=List.getElem?_eq_getElem (show i<vs1.length by omega)
    have e2:=List.getElem?_eq_getElem (show i<vs2.length by omega)
    obtain ⟨d,ed,x,ex,hx⟩:=paired_at p1 e1
    obtain ⟨d',ed',y,ey,hy⟩:=paired_at p2 e2
    rw [ed] at ed'
    cases ed'
    rw [ex] at e1
    rw [ey] at e2
    refine ⟨_,rfl,_,rfl,t,_,_,_,rfl,rfl,SqL.of ht,atI_nat e1,?_⟩
    refine ⟨_,rfl,_,_,_,rfl,.tup hx,kit_tt K,_,rfl,iteF ?_⟩
    refine ⟨_,rfl,x,_,rfl,.inr (SqT.of hx),rfl,_,rfl,iteF ?_⟩
    refine ⟨_,rfl,x,_,_,_,rfl,rfl,SqT.of hx,rfl,_,rfl,_,rfl,iteF ?_⟩
    refine ⟨_,rfl,x,_,_,_,rfl,rfl,SqT.of hx,rfl,_,rfl,_,rfl,iteF ?_⟩
    refine ⟨_,rfl,x,_,_,_,rfl,rfl,SqT.of hx,rfl,_,_,_,rfl,.str _,kit_ss K,_,rfl,iteF ?_⟩
    refine ⟨_,rfl,_,rfl,_,rfl,u,_,_,_,rfl,rfl,SqL.of hu,atI_nat e2,x,y,_,_,(fun _=>true),rfl,rfl,SqT.of hx,SqT.of hy,d3_eq,_,rfl,?_⟩
    exact iteF ⟨_,_,rfl,rfl⟩
  · rintro σ H1 ⟨o2,o3,rfl,rfl⟩
    exact q
end
end K23
namespace K23
open PySem L2
theorem D3At.same {H H':Hp} (s:Same H H') {v:V} {d:D3} (h:D3At H v d):D3At H' v d:=by
  obtain ⟨a,e,q⟩:=h
  exact ⟨a,e,s _ _ q⟩
theorem pick_told {c:List Bell} {fi la m:Int} {k r:Nat} (hc:Slow c) (hw:∀ (k:Nat) b,c[k]?=some b→1≤wants b) (lm:Least c m) {rows rows':List (List (Option Int))} (h:Rows c rows) (h':Rows c rows') (hr:rows.length=r+1) (hk:rows'.length=k) (ek:la - m+1=k) (kr:k≤r+1):pickAll c fi la rows' k=pickAll c fi la rows (r+1):=by
  have e1:pickAll c fi la rows' k=pickAll c fi la rows k:=pickAll_same k fun i hi=>rows_pref hc h' h i (by omega) (by omega)
  have e2:=pickAll_cut (c:=c) (fi:=fi) (la:=la) (rows:=rows) (k:=k) (fun n x hn e j v hv=>by
    have:=rows_low hc hw h lm.1 n x e j v hv
    omega) (r+1 - k) (by omega)
  rw [e1,← e2,show k+(r+1 - k)=r+1 by omega]
section
variable {P:Program} {w:World} {K:PySem.W.Frag} {mg:Str→Option Value} {base:Heap} {f:Addr} {fd:FuncData}
def sp_law (K:PySem.W.Frag):Sp:=fun vs H Q _=>∃ (a:Addr) (ns:List Int),vs=[.ref a]∧SqL K H a (ns.map V.int)∧ns.length≤63∧∀ H',Q (.bl true) H'
theorem sc_law:FnScope ["_law_script","_law_pack_here","_law_reach","_law_most","_law_way","_law_back","_law_forth","_law_choir_here","_law_least","_law_first","_law_last","_law_due","_law_told","_law_n","_law_row","_law_k"] ["_law_script"] (defScope s_law):=⟨rfl,rfl,rfl,by decide +kernel,rfl,by decide +kernel,by decide +kernel⟩
theorem ok_law (F:Fun K "law" "law" s_law f fd) (B:Blt mg) (C_pack:Cal P w K mg base 2 "_law_pack" ["_law_script"] (sp_pack K)) (C_draw:Cal P w K mg base 1 "_law_draw" ["_law_pack_here","_law_many"] (sp_draw K)) (C_choir:Cal P w K mg base 3 "_law_choir" ["_law_pack_here","_law_most","_law_waits"] (sp_choir K))
    (C_strokes:Cal P w K mg base 7 "strokes" ["choir","many"] sp_strokes) (C_heard:Cal P w K mg base 8 "heard" ["choir","first","last"] sp_heard) (C_alike:Cal P w K mg base 2 "_law_alike" ["_law_told","_law_due"] (sp_alike K)):FnOk P w K mg base CX0 9 f fd ["_law_script"] (sp_law K):=by
  refine F.ok sc_law (fun vs H Q E h=>?_) (fun cdv A outer s H vs Q E hr h=>?_)
  · obtain ⟨a,ns,rfl,_⟩:=h
    rfl
  obtain ⟨a,ns,rfl,hS,h63,q⟩:=h
  refine ⟨_,(pss_cons (ps_set (i:=1) sc_law.nd rfl (Or.inl rfl) (pe_fn C_pack hr (by decide) rfl (pa_cons (pv 0) pa_nil)))
    (pss_cons (ps_set (i:=2) sc_law.nd rfl (Or.inl rfl) (pe_fn C_draw hr (by decide) rfl (pa_cons (pv 1) (pa_cons pe_int pa_nil))))
    (pss_cons (ps_set (i:=3) sc_law.nd rfl (Or.inl rfl) pe_int)
    (pss_cons (ps_set (i:=4) sc_law.nd rfl (Or.inl rfl) (pe_fn C_draw hr (by decide) rfl (pa_cons (pv 1) (pa_cons pe_int pa_nil))))
    (pss_join (ps_if (pt_cmpR op_eq (pv 4) pe_int (nomark _))
    (pss_one (ps_set (i:=2) sc_law.nd rfl (Or.inl rfl) (pe_op op_add (pv 2) pe_int)))
    pss_nil)
    (pss_join (ps_if (pt_cmpR op_eq (pv 4) pe_int (nomark _))
    (pss_cons (ps_set (i:=2) sc_law.nd rfl (Or.inl rfl) (pe_op op_add (pe_op op_add pe_int (pe_op op_mul pe_int (pv 2))) (pe_fn C_draw hr (by decide) rfl (pa_cons (pv 1) (pa_cons pe_int pa_nil)))))
    (pss_one (ps_set (i:=3) sc_law.nd rfl (Or.inl rfl) pe_int)))
    pss_nil)
    (pss_cons (ps_set (i:=5) sc_law.nd rfl (Or.inl rfl) (pe_fn C_draw hr (by decide) rfl (pa_cons (pv 1) (pa_cons pe_int pa_nil))))
    (pss_cons (ps_set (i:=6) sc_law.nd rfl (Or.inl rfl) (pe_fn C_draw hr (by decide) rfl (pa_cons (pv 1) (pa_cons pe_int pa_nil))))
    (pss_cons (ps_set (i:=7) sc_law.nd rfl (Or.inl rfl) (pe_fn C_choir hr (by decide) rfl (pa_cons (pv 1) (pa_cons (pv 3) (pa_cons (pe_cmpR op_eq (pe_fn C_draw hr (by decide) rfl (pa_cons (pv 1) (pa_cons pe_int pa_nil))) pe_int (nomark _)) pa_nil)))))
    (pss_cons (ps_set (i:=8) sc_law.nd rfl (Or.inl rfl) (pe_callB (call_minL rfl) rfl B.min_ PyProof.Rows.boot_min (pa_cons (pe_comp ["_law_bell"] [] [] rfl (pi_tup (pv 7)) (fun _ _ _ _ _=>(pg_name (i:=0) (show List.Nodup [("_law_bell":Str)] by decide +kernel) rfl (Or.inl rfl))) (fun _ _ _ _ _=>pts_nil) (fun _ _ _ _ _=>(pe_ix (ix_tupC (K:=K) rfl) (pv 0) pe_int (fun _ _=>rfl)))) pa_nil)))
    (pss_cons (ps_set (i:=9) sc_law.nd rfl (Or.inl rfl) (pe_op op_add (pe_callB (call_max2 rfl) rfl B.max_ PyProof.Rows.boot_max (pa_cons pe_int (pa_cons (pe_op op_sub (pv 8) (pv 5)) pa_nil))) (pe_op op_mul (pv 6) (pe_op op_mod (pv 6) pe_int))))
    (pss_cons (ps_set (i:=10) sc_law.nd rfl (Or.inl rfl) (pe_op op_add (pv 8) (pv 2)))
    (pss_join (ps_if (pt_cmpR op_eq (pv 6) pe_int (nomark _))
    (pss_one (ps_set (i:=10) sc_law.nd rfl (Or.inl rfl) (pe_callB (call_max2 rfl) rfl B.max_ PyProof.Rows.boot_max (pa_cons pe_int (pa_cons (pe_op op_sub (pv 8) pe_int) pa_nil)))))
    pss_nil)
    (pss_cons (ps_set (i:=11) sc_law.nd rfl (Or.inl rfl) (pe_lst pa_nil))
    (pss_cons (ps_for PassesOwn.never rfl (pi_enum rfl B.enumerate_ (pa_cons (pe_fn C_strokes hr (by decide) rfl (pa_cons (pv 7) (pa_cons (pv 2) pa_nil))) pa_nil)) (pg_tup rfl (pgs_cons (pg_name (i:=13) sc_law.nd rfl (Or.inl rfl)) (pgs_cons (pg_name (i:=14) sc_law.nd rfl (Or.inl rfl)) pgs_nil)))
    (pss_one (ps_for PassesOwn.never rfl (pi_range1 rfl B.range_ (pa_cons (pe_callB call_len_seq rfl B.len_ PySem.boot_len (pa_cons (pv 7) pa_nil)) pa_nil)) (pg_name (i:=15) sc_law.nd rfl (Or.inl rfl))
    (pss_one (ps_if (PW.pt (pw_and (pt_cmpR op_notN (pe_ix ix_list (pv 14) (pv 15) (fun _ _=>rfl)) pe_non (nomark _)) (pw_and1 (pt_chain op_le op_le (pv 9) (pe_ix ix_list (pv 14) (pv 15) (fun _ _=>rfl)) (pv 10)))))
    (pss_one (ps_expr (pe_bm PySem.F.plainAttrs_list PySem.F.slot_list_append PySem.F.type_list_append mt_append (pv 11) (pa_cons (pe_tup (pa_cons (pe_ix ix_list (pv 14) (pv 15) (fun _ _=>rfl)) (pa_cons (pe_ix ix_tup (pe_ix ix_tup (pv 7) (pv 15) (fun _ _=>rfl)) pe_int (fun _ _=>rfl)) (pa_cons (pv 13) pa_nil)))) pa_nil))))
    pss_nil)))))
    (pss_cons (ps_set (i:=11) sc_law.nd rfl (Or.inl rfl) (pe_callB call_sortedB rfl B.sorted_ PyProof.Rows.boot_sorted (pa_cons (pv 11) pa_nil)))
    (pss_cons (ps_set (i:=12) sc_law.nd rfl (Or.inl rfl) (pe_fn C_heard hr (by decide) rfl (pa_cons (pv 7) (pa_cons (pv 9) (pa_cons (pv 10) pa_nil)))))
    (pss_cons (ps_if (pt_not (pt_val (pe_fn C_alike hr (by decide) rfl (pa_cons (pv 12) (pa_cons (pv 11) pa_nil)))))
    (pss_one (ps_ret pe_bl))
    pss_nil)
    (pss_cons (ps_if (pt_cmpR op_gt (pv 2) pe_int (nomark _))
    (pss_one (ps_ret pe_bl))
    pss_nil)
    (pss_cons (ps_expr (pe_bm PySem.F.plainAttrs_list PySem.F.slot_list_append PySem.F.type_list_append mt_append (pv 12) (pa_cons pe_non pa_nil)))
    (pss_one (ps_ret (pe_fn C_alike hr (by decide) rfl (pa_cons (pe_fn C_heard hr (by decide) rfl (pa_cons (pv 7) (pa_cons (pv 9) (pa_cons (pv 10) pa_nil)))) (pa_cons (pv 11) pa_nil))))))))))))))))))))))))),?_⟩
  refine ⟨_,rfl,a,ns,rfl,hS,fun p H1 hp0 s1 P1=>?_⟩
  refine ⟨_,rfl,a,p,ns,25,rfl,P1,by decide,by decide,fun d1 H2 d10 d11 s2 P2=>?_⟩
  refine ⟨_,rfl,a,p,ns,16,rfl,P2,by decide,by decide,fun d2 H3 d20 d21 s3 P3=>?_⟩
  obtain ⟨r0,rfl⟩:=Int.eq_ofNat_of_zero_le d10
  refine ⟨fun σ H'=>∃ r:Nat,(r≤90∧(d2=6→r≤24))∧σ=[some (.ref a),some (.ref p),some (.int r),some (.int 6),some (.int d2),none,none,none,none,none,none,none,none,none,none,none]∧PackAt K ns a p H',?_,?_⟩
  · refine ⟨_,rfl,rfl,_,rfl,?_⟩
    refine ite2 (fun c5=>?_) (fun _=>?_)
    · have e5:V.int d2=V.int 5:=of_decide_eq_true c5
      injection e5 with e5
      exact ⟨_,rfl,_,_,rfl,rfl,r0+66,⟨by omega,by omega⟩,rfl,P3⟩
    · exact ⟨r0,⟨by omega,by omega⟩,rfl,P3⟩
  rintro σ H4 ⟨r1,⟨r90,r24⟩,rfl,P4⟩
  refine ⟨fun σ H'=>∃ (r mo:Nat),((mo=6∧r≤90)∨(mo=1∧r≤2000))∧σ=[some (.ref a),some (.ref p),some (.int r),some (.int mo),some (.int d2),none,none,none,none,none,none,none,none,none,none,none]∧PackAt K ns a p H',?_,?_⟩
  · refine ⟨_,rfl,rfl,_,rfl,?_⟩
    refine ite2 (fun c6=>?_) (fun _=>?_)
    · have e6:V.int d2=V.int 6:=of_decide_eq_true c6
      injection e6 with e6
      have r24:=r24 e6
      refine ⟨_,rfl,_,_,rfl,rfl,.inl ⟨by decide,by decide⟩,_,_,rfl,rfl,_,rfl,a,p,ns,61,rfl,P4,by decide,by decide,fun d3 H5 d30 d31 s5 P5=>?_⟩
      obtain ⟨r3,rfl⟩:=Int.eq_ofNat_of_zero_le d30
      refine ⟨_,_,rfl,rfl,?_⟩
      exact ⟨500+60 * r1+r3,1,.inr ⟨rfl,by omega⟩,rfl,P5⟩
    · exact ⟨r1,6,.inl ⟨rfl,r90⟩,rfl,P4⟩
  clear r90 r24 P4 r1
  rintro σ H5 ⟨r,mo,hmo,rfl,P5⟩
  refine ⟨_,rfl,a,p,ns,12,rfl,P5,by decide,by decide,fun back H6 b0 b1 s6 P6=>?_⟩
  refine ⟨_,rfl,a,p,ns,16,rfl,P6,by decide,by decide,fun forth H7 f0 f1 s7 P7=>?_⟩
  refine ⟨_,rfl,_,rfl,_,rfl,a,p,ns,2,rfl,P7,by decide,by decide,fun dw H8 w0 w1 s8 P8=>?_⟩
  refine ⟨rfl,a,p,ns,mo,decide (V.int dw=V.int 0),rfl,P8,by omega,by omega,fun ch c H9 s9 P9 hch c1 cm gc=>?_⟩
  have fc:Fine c:=fine_of gc (by omega)
  have sl:=fc.slow
  have hw:∀ (k:Nat) b,c[k]?=some b→1≤wants b:=fun k b hb=>wants_pos (fc.2 k b hb).1 (fc.2 k b hb).2.2.1
  have big:(r+1) * c.length≤3000:=by
    rcases hmo with ⟨rfl,h⟩ | ⟨rfl,h⟩
    · exact Nat.le_trans (Nat.mul_le_mul (show r+1≤91 by omega) cm) (by decide)
    · exact Nat.le_trans (Nat.mul_le_mul (show r+1≤2001 by omega) cm) (by decide)
  have r2000:r≤2000:=by omega
  have cm6:c.length≤6:=by omega
  clear hmo cm
  obtain ⟨ca,bs,rfl,hca,prb⟩:=id hch
  have lb:=paired_len prb
  refine ⟨_,rfl,ca,rfl,⟨_,SqT.of hca⟩,fun D hD=>?_⟩
  refine comp_tup (K:=K) (a:=ca) (xs:=bs) (fun j ys H1=>Same H9 H1∧ys=((c.take j).map (·.start)).map V.int) ⟨same_new hD _,rfl⟩ (fun j ys H1 _ ⟨z,_⟩=>SqT.of (z _ _ hca)) ?_ ?_
  · rintro j y ys H1 hj ⟨s1,rfl⟩ hD1
    obtain ⟨b,hb,⟨x,tt,ls,rfl,hx,_⟩⟩:=paired_at prb hj
    have hj6:j<c.length:=(List.getElem?_eq_some_iff.mp hb).1
    refine ⟨rfl,tTrue_ite ?_⟩
    refine ⟨_,rfl,x,_,_,_,rfl,rfl,SqT.of (s1 _ _ hx),rfl,_,hD1,?_,_,⟨s1.upd hD _,rfl⟩,?_⟩
    · rw [List.length_map,List.length_map,List.length_take]
      exact small1000 (by omega)
    · rw [take_snoc hb,List.map_append,List.map_append]
      exact upd_same
  rintro ys H10 ⟨s10,rfl⟩ hD1
  rw [lb,List.take_length] at hD1
  refine ⟨D,_,rfl,SqL.of hD1,by rw [List.length_map]; omega,fun m M1 M2=>?_⟩
  have lm:=least_of M1 M2
  clear M1 M2 hD
  have m0:0≤m:=by
    obtain ⟨b,hb,e⟩:=lm.2
    obtain ⟨k,hk⟩:=List.getElem?_of_mem hb
    have:=(gc.1 k b hk).s0
    omega
  refine ⟨_,rfl,_,rfl,_,_,rfl,rfl,_,_,rfl,_,rfl,_,rfl,_,_,rfl,rfl,show (0:Int)<3 by decide,_,_,rfl,rfl,.inl ⟨by omega,by omega⟩,_,_,rfl,rfl,?_⟩
  dsimp only
  generalize (if m - back > 0 then m - back else 0)+forth * (forth % 3)=fi
  refine ⟨_,rfl,_,rfl,_,_,rfl,rfl,?_⟩
  have hch10:=hch.mono (Same.tup s10)
  have hca10:=s10 _ _ hca
  refine ⟨fun σ H'=>∃ (la:Int) (k:Nat),(la - m+1=k∧k≤r+1)∧σ=[some (.ref a),some (.ref p),some (.int r),some (.int mo),some (.int d2),some (.int back),some (.int forth),some (.ref ca),some (.int m),some (.int fi),some (.int la),none,none,none,none,none]∧H'=H10,?_,?_⟩
  · refine ⟨_,rfl,rfl,_,rfl,?_⟩
    refine ite2 (fun _=>?_) (fun _=>?_)
    · refine ⟨_,rfl,_,_,rfl,rfl,_,_,rfl,?_⟩
      by_cases hm1:m - 1 > 0
      · exact ⟨m - 1,0,⟨by omega,by omega⟩,by rw [if_pos hm1]; rfl,rfl⟩
      · refine ⟨0,(1 - m).toNat,⟨by omega,by omega⟩,by rw [if_neg hm1]; rfl,rfl⟩
    · exact ⟨m+r,r+1,⟨by omega,by omega⟩,rfl,rfl⟩
  rintro σ H' ⟨la,k,⟨ek,kr⟩,rfl,rfl⟩
  have kbig:k * c.length≤3000:=Nat.le_trans (Nat.mul_le_mul_right _ kr) big
  refine ⟨(by show 0≤sizeLine; decide),fun t ht=>?_⟩
  have s11:=same_new ht (.lst [])
  have htt:(upd H' t (.lst [])) t=some (.lst []):=upd_same
  have cat:ca≠t:=ne_of_none hca10 ht
  refine ⟨_,rfl,_,rfl,.ref ca,c,r+1,?_,hch10.mono (Same.tup s11),fc,by omega,fun H2 t1 told rows s3 n1 ht1 pr1 hl1 R1=>?_⟩
  · show [V.ref ca,V.int (r:Int)]=[V.ref ca,V.int (((r+1:Nat):Int) - 1)]
    rw [show (((r+1:Nat):Int) - 1)=(r:Int) by omega]
  have ht2:H2 t=some (.lst []):=s3 _ _ htt
  have t1t:t1≠t:=fun e=>by rw [e,htt] at n1; cases n1
  have s12:=s11.trans s3
  have hca2:=s12 _ _ hca10
  have e1:=paired_len pr1
  refine ⟨t1,rfl,⟨_,SqL.of ht1⟩,?_⟩
  refine for_enum (K:=K) (a:=t1) (xs:=told) (fun i σ H4=>∃ (o5 o6 o7:Option V) (ws:List V),σ=[some (.ref a),some (.ref p),some (.int r),some (.int mo),some (.int d2),some (.int back),some (.int forth),some (.ref ca),some (.int m),some (.int fi),some (.int la),some (.ref t),none,o5,o6,o7]∧But t H2 H4∧H4 t=some (.lst ws)∧Paired (D3At H4) ws (pickAll c fi la rows i))
    ⟨none,none,none,[],rfl,.refl t H2,ht2,.nil⟩ ?_ ?_ ?_
  · rintro i σ H4 _ ⟨o5,o6,o7,ws,rfl,b4,_⟩
    exact SqL.of (b4 _ _ t1t ht1)
  · rintro i v σ H4 T hv ⟨o5,o6,o7,ws,rfl,b4,ht4,pd⟩ hT
    obtain ⟨rx,erx,xa,rfl,⟨xn,_⟩,hxa⟩:=paired_at pr1 hv
    have xt:xa≠t:=fun e=>by rw [e,htt] at xn; cases xn
    have lx:=R1.len i rx erx
    have b5:But t H4 (upd H4 T (.tup [.int (i:Int),.ref xa])):=Same.but (same_new hT _)
    have hT5:(upd H4 T (.tup [.int (i:Int),.ref xa])) T=some (.tup [.int (i:Int),.ref xa]):=upd_same
    have ht5:=same_new hT (.tup [.int (i:Int),.ref xa]) _ _ ht4
    generalize (upd H4 T (.tup [.int (i:Int),.ref xa]))=H5 at b5 hT5 ht5 ⊢
    have b35:=b4.trans b5
    have pd5:=paired_imp (fun _ _ z=>D3At.but ht4 b5 z) pd
    have hca5:=b35 _ _ cat hca2
    have hxa5:=b35 _ _ xt hxa
    refine ⟨T,_,rfl,SqT.of hT5,rfl,_,_,rfl,_,_,rfl,rfl,?_⟩
    refine ⟨_,rfl,ca,_,rfl,.inr (SqT.of hca5),_,rfl,(by rw [lb]; omega),(by rw [lb]; omega),?_⟩
    rw [lb,Int.toNat_natCast]
    refine for_range (lo:=0) (n:=c.length) (fun j σ H6=>∃ (o7:Option V) (ws:List V),σ=[some (.ref a),some (.ref p),some (.int r),some (.int mo),some (.int d2),some (.int back),some (.int forth),some (.ref ca),some (.int m),some (.int fi),some (.int la),some (.ref t),none,some (.int (i:Int)),some (.ref xa),o7]∧But t H5 H6∧H6 t=some (.lst ws)∧Paired (D3At H6) ws (pickAll c fi la rows i++pickRow c fi la i rx j))
      ⟨o7,ws,rfl,.refl t H5,ht5,by unfold pickRow; rw [List.append_nil]; exact pd5⟩ ?_ ?_
    · rintro j σ H7 hj ⟨o7,ws,rfl,b57,ht7,pd7⟩
      rw [Int.zero_add]
      have hb:=List.getElem?_eq_getElem hj
      obtain ⟨bv,ebv,ba,tt,ls,rfl,hba,_⟩:=paired_at' prb hb
      have eo:=List.getElem?_eq_getElem (show j<rx.length by omega)
      have hxa7:=b57 _ _ xt hxa5
      have hca7:=b57 _ _ cat hca5
      have hba10:=s10 _ _ hba
      have hba7:=b57 _ _ (ne_of_none hba10 ht) (b35 _ _ (ne_of_none hba10 ht) (s12 _ _ hba10))
      generalize rx[j]=o at eo
      refine ⟨_,rfl,_,rfl,xa,_,_,_,rfl,rfl,SqL.of hxa7,atI_oV eo,rfl,_,rfl,?_⟩
      cases o with
      | none =>
        refine iteF (iteF ⟨_,ws,rfl,b57,ht7,?_⟩)
        unfold pickRow
        rw [pickAt_none eo,List.append_nil]
        exact pd7
      | some v =>
        refine iteT ?_
        refine ⟨_,rfl,_,rfl,_,rfl,xa,_,_,_,rfl,rfl,SqL.of hxa7,atI_oV eo,_,_,rfl,rfl,_,rfl,?_⟩
        have no:¬ (fi≤v∧v≤la)→Paired (D3At H7) ws (pickAll c fi la rows i++pickRow c fi la i rx (j+1)):=fun n=>by
          unfold pickRow
          rw [pickAt_some hb eo,if_neg n,List.append_nil]
          exact pd7
        refine ite2 (fun c1'=>?_) (fun c1'=>?_)
        · refine ⟨_,rfl,_,_,rfl,rfl,_,rfl,?_⟩
          refine ite2 (fun c2'=>?_) (fun c2'=>?_)
          · have l1:fi≤v:=of_decide_eq_true c1'
            have l2:v≤la:=of_decide_eq_true c2'
            refine ⟨_,rfl,.inl ⟨rfl,_,SqL.of ht7⟩,_,rfl,_,rfl,xa,_,_,_,rfl,rfl,SqL.of hxa7,atI_oV eo,_,rfl,_,rfl,ca,_,_,_,rfl,rfl,SqT.of hca7,atI_nat ebv,ba,_,_,_,rfl,rfl,SqT.of hba7,rfl,_,rfl,(by show 3≤sizeLine; decide),fun d hd=>?_⟩
            have s8:=same_new hd (.tup [.int v,.str c[j].name,.int (i:Int)])
            have ht8:=s8 _ _ ht7
            have hd8:(upd H7 d (.tup [.int v,.str c[j].name,.int (i:Int)])) d=some (.tup [.int v,.str c[j].name,.int (i:Int)]):=upd_same
            have dt:d≠t:=ne_of hd8 ht8 (by intro z; cases z)
            have lw:=paired_len pd7
            rw [List.length_append] at lw
            have l3:=pickAll_len c fi la rows i
            have l4:=pickRow_len c fi la i rx j
            have hi:i<r+1:=by have:=(List.getElem?_eq_some_iff.mp erx).1; omega
            have l5:i * c.length+c.length≤(r+1) * c.length:=by rw [← Nat.succ_mul]; exact Nat.mul_le_mul_right _ hi
            refine ⟨t,ws,_,rfl,rfl,ht8,small5 (by omega),?_⟩
            have b9:But t H7 (upd (upd H7 d (.tup [.int v,.str c[j].name,.int (i:Int)])) t (.lst (ws++[.ref d]))):=(Same.but s8).upd _
            refine ⟨_,ws++[.ref d],rfl,b57.trans b9,upd_same,?_⟩
            unfold pickRow
            rw [pickAt_some hb eo,if_pos ⟨l1,l2⟩,← List.append_assoc]
            exact paired_snoc ⟨d,rfl,by rw [upd_ne dt]; exact hd8⟩ (paired_imp (fun _ _ z=>D3At.but ht7 b9 z) pd7)
          · exact ⟨_,ws,rfl,b57,ht7,no fun n=>c2' (decide_eq_true n.2)⟩
        · exact ⟨_,rfl,iteF ⟨_,ws,rfl,b57,ht7,no fun n=>c1' (decide_eq_true n.1)⟩⟩
    · rintro σ H6 ⟨o7,ws,rfl,b6,ht6,pd6⟩
      refine ⟨_,_,o7,ws,rfl,b35.trans b6,ht6,?_⟩
      unfold pickAll
      rw [rowOf_at erx]
      exact pd6
  rintro σ H4 ⟨o5,o6,o7,ws,rfl,b4,ht4,pd⟩
  rw [e1,hl1] at pd
  have l1:=pickAll_len c fi la rows (r+1)
  refine ⟨_,rfl,t,ws,_,rfl,SqL.of ht4,pd,by omega,fun u vs2 hu pd2=>?_⟩
  have s13:=same_new hu (.lst vs2)
  have hu5:(upd H4 u (.lst vs2)) u=some (.lst vs2):=upd_same
  replace pd2:=paired_imp (fun _ _ z=>D3At.same s13 z) pd2
  have hch5:ChoirAt (upd H4 u (.lst vs2)) (.ref ca) c:=by
    refine hch10.mono fun b xs e=>?_
    exact s13 _ _ (b4 _ _ (ne_of_none e ht) (s12 _ _ e))
  generalize upd H4 u (.lst vs2)=H5 at s13 hu5 pd2 hch5 ⊢
  have lsz:(sortB (pickAll c fi la rows (r+1))).length≤3000:=by rw [sortB_len]; omega
  refine ⟨_,rfl,_,rfl,_,rfl,.ref ca,c,fi,la,m,k,rfl,hch5,fc,c1,lm,ek,by omega,kbig,fun H6 t6 vs6 rows6 s6 n6 ht6 hl6 R6 pd6=>?_⟩
  rw [pick_told sl hw lm R1 R6 hl1 hl6 ek kr] at pd6
  have hu6:=s6 _ _ hu5
  have pd26:=paired_imp (fun _ _ z=>D3At.same s6 z) pd2
  refine ⟨_,rfl,_,rfl,t6,u,vs6,vs2,_,rfl,ht6,hu6,pd6,pd26,lsz,_,rfl,iteF ?_⟩
  refine ⟨_,rfl,_,_,rfl,rfl,_,rfl,?_⟩
  refine ite2 (fun _=>q _) (fun _=>?_)
  refine ⟨_,rfl,.inl ⟨rfl,_,SqL.of ht6⟩,t6,vs6,_,rfl,rfl,ht6,?_,?_⟩
  · have:=paired_len pd6
    exact small5 (by omega)
  have ut6:u≠t6:=fun e=>by rw [← e,hu5] at n6; cases n6
  have b7:But t6 H6 (upd H6 t6 (.lst (vs6++[.non]))):=(But.refl t6 H6).upd _
  have hu7:=b7 _ _ ut6 hu6
  have pd27:=paired_imp (fun _ _ z=>D3At.but ht6 b7 z) pd26
  have hch7:ChoirAt (upd H6 t6 (.lst (vs6++[.non]))) (.ref ca) c:=by
    refine hch5.mono fun b xs e=>?_
    exact b7 _ _ (ne_of_none e n6) (s6 _ _ e)
  generalize upd H6 t6 (.lst (vs6++[.non]))=H7 at b7 hu7 pd27 hch7 ⊢
  refine ⟨_,rfl,_,rfl,_,rfl,.ref ca,c,fi,la,m,k,rfl,hch7,fc,c1,lm,ek,by omega,kbig,fun H8 t8 vs8 rows8 s8 n8 ht8 hl8 R8 pd8=>?_⟩
  rw [pick_told sl hw lm R1 R8 hl1 hl8 ek kr] at pd8
  exact ⟨_,rfl,t8,u,vs8,vs2,_,rfl,ht8,s8 _ _ hu7,pd8,paired_imp (fun _ _ z=>D3At.same s8 z) pd27,lsz,q _⟩
end
end K23
namespace K23
open PySem L2
theorem own_mk {K:PySem.W.Frag} {C fi ff:Addr} (i:PySem.W.findIn K (.ref C) "__init__"=some (some (.ref fi))) (fl:PySem.W.findIn K (.ref C) "falls"=some (some (.ref ff))) (pg:PySem.W.plainGet K C Str.empty=true) (hd:PySem.W.hasDictIn K C=true) (po:PySem.W.plainOver K C=true)
    (sa:PySem.W.findIn K (.ref C) "__setattr__"=some (some (.builtin "object.__setattr__"))) (n:PySem.W.findIn K (.ref C) "need"=some none) (mk:PySem.W.makesIn K C=true) (fn:PySem.W.isFn K (.ref fi)=true) (kc:PySem.W.keepIn K (.ref C)=true)
    (ffn:PySem.W.isFn K (.ref ff)=true) (fk:PySem.W.keepIn K (.ref ff)=true):Own K C fi ff:=⟨⟨pg,hd,po,sa⟩,n,⟨mk,i,fn,kc⟩,⟨fl,ffn,fk⟩⟩
theorem clsfn_mk {K:PySem.W.Frag} {C g:Addr} {m:Str} (a:PySem.W.findCls K (.ref C) (.type "type") m=some (.val (.ref g))) (rd:PySem.W.readsIn K C (.type "type")=true)
    (sp:PySem.W.specialIn K (.ref C) "__getattribute__"=some (some (.builtin "type.__getattribute__"))) (kp:PySem.W.keepIn K (.ref g)=true):ClsFn K C m g:=⟨rd,a,sp,kp⟩
theorem all {P:Program} {w:World} {K:PySem.W.Frag} {h:Heap} {mg:Str→Option Value} {fa R A Y S fR fA fY fS ff:Addr} (X:K.In h) (G:h.Ns mainGlobals mg) (hfa:mg "law"=some (.ref fa)) (B:Blt mg)
    (aR:PySem.W.nsIn K mainGlobals "Rule"=some (some (.ref R))) (aA:PySem.W.nsIn K mainGlobals "All"=some (some (.ref A))) (aY:PySem.W.nsIn K mainGlobals "Any"=some (some (.ref Y))) (aS:PySem.W.nsIn K mainGlobals "Some"=some (some (.ref S)))
    (cR:ClsFn K R "__init__" fR) (oA:Own K A fA ff) (oY:Own K Y fY ff) (oS:Own K S fS ff)
    (FR:∃ fd,Fun K "__init__" "Rule.__init__" s_Rinit fR fd) (FA:∃ fd,Fun K "__init__" "All.__init__" s_Ainit fA fd) (FY:∃ fd,Fun K "__init__" "Any.__init__" s_Yinit fY fd) (FS:∃ fd,Fun K "__init__" "Some.__init__" s_Sinit fS fd) (FF:∃ fd,Fun K "falls" "Rule.falls" s_falls ff fd)
    (F__law_nth:FunAt K "_law_nth" s_nth) (F__law_pack:FunAt K "_law_pack" s_pack) (F__law_draw:FunAt K "_law_draw" s_draw) (F__law_next:FunAt K "_law_next" s_next) (F__law_name:FunAt K "_law_name" s_name) (F__law_rule:FunAt K "_law_rule" s_rule) (F__law_listening:FunAt K "_law_listening" s_listening) (F__law_choir:FunAt K "_law_choir" s_choir) (F_rule_of_text:FunAt K "rule_of_text" s_text) (F_is_whole:FunAt K "is_whole" s_is_whole) (F_rule_of:FunAt K "rule_of" s_rule_of) (F_rule_of_bell:FunAt K "rule_of_bell" s_rule_of_bell) (F_listening_comes:FunAt K "listening_comes" s_comes) (F_next_found:FunAt K "next_found" s_found) (F_strokes_behind:FunAt K "strokes_behind" s_behind) (F_strokes:FunAt K "strokes" s_strokes) (F_heard:FunAt K "heard" s_heard) (F__law_whole:FunAt K "_law_whole" s_whole) (F__law_alike:FunAt K "_law_alike" s_alike) (F_law:FunAt K "law" s_law) :
    ∃ fd:FuncData,(∀ (s:Shared) (u:Value),BindsTo s fd ⟨[u],[]⟩ [("_law_script",u)])∧∀ base:Heap,K.In base→base.Ns mainGlobals mg→FnOk P w K mg base CX0 9 fa fd ["_law_script"] (sp_law K):=by
  refine F_law.law X G hfa (fun _ _ _ _ _ _ _=>rfl) fun base _ _ f fd F=>?_
  obtain ⟨dR,FR⟩:=FR; obtain ⟨dA,FA⟩:=FA; obtain ⟨dY,FY⟩:=FY; obtain ⟨dS,FS⟩:=FS; obtain ⟨df,FF⟩:=FF
  have mR:=PySem.W.mg_of X G aR
  have GR:FnOk P w K mg base CX0 1 fR dR ["self","need"] (sp_init K):=ok_Rinit FR
  have bR:Binds K dR ["self","need"] []:=FR.binds (ps:=["self","need"]) fun _ _ _ _ _ _ us hl=>by obtain ⟨a,b,rfl⟩:=len2 hl; rfl
  have GA:FnOk P w K mg base CX0 2 fA dA ["self","many"] (sp_init K):=ok_Ainit FA mR cR GR bR
  have bA:Binds K dA ["self","many"] []:=FA.binds (ps:=["self","many"]) fun _ _ _ _ _ _ us hl=>by obtain ⟨a,b,rfl⟩:=len2 hl; rfl
  have GY:FnOk P w K mg base CX0 2 fY dY ["self"] (sp_init1 K):=ok_Yinit FY mR cR GR bR
  have bY:Binds K dY ["self"] []:=FY.binds (ps:=["self"]) fun _ _ _ _ _ _ us hl=>by obtain ⟨a,rfl⟩:=len1 hl; rfl
  have GS:FnOk P w K mg base CX0 2 fS dS ["self","need"] (sp_init K):=ok_Sinit FS mR cR GR bR
  have bS:Binds K dS ["self","need"] []:=FS.binds (ps:=["self","need"]) fun _ _ _ _ _ _ us hl=>by obtain ⟨a,b,rfl⟩:=len2 hl; rfl
  have GF:FnOk P w K mg base CX0 1 ff df ["self","beats"] (sp_falls K):=ok_falls FF B
  have bF:Binds K df ["self","beats"] []:=FF.binds (ps:=["self","beats"]) fun _ _ _ _ _ _ us hl=>by obtain ⟨a,b,rfl⟩:=len2 hl; rfl
  have C__law_nth:Cal P w K mg base 1 "_law_nth" ["_law_script","_law_k"] (sp_nth K):=F__law_nth.cal X G (fun _ _ _ _ _ _ us hl=>by obtain ⟨a,b,rfl⟩:=len2 hl; rfl) fun f fd F=>ok_nth F B
  have C__law_pack:Cal P w K mg base 2 "_law_pack" ["_law_script"] (sp_pack K):=F__law_pack.cal X G (fun _ _ _ _ _ _ us hl=>by obtain ⟨a,rfl⟩:=len1 hl; rfl) fun f fd F=>ok_pack F C__law_nth
  have C__law_draw:Cal P w K mg base 1 "_law_draw" ["_law_pack_here","_law_many"] (sp_draw K):=F__law_draw.cal X G (fun _ _ _ _ _ _ us hl=>by obtain ⟨a,b,rfl⟩:=len2 hl; rfl) fun f fd F=>ok_draw F B
  have C__law_next:Cal P w K mg base 2 "_law_next" ["_law_pack_here"] (sp_next K):=F__law_next.cal X G (fun _ _ _ _ _ _ us hl=>by obtain ⟨a,rfl⟩:=len1 hl; rfl) fun f fd F=>ok_next F C__law_nth
  have C__law_name:Cal P w K mg base 2 "_law_name" ["_law_pack_here","_law_seen"] (sp_name K):=F__law_name.cal X G (fun _ _ _ _ _ _ us hl=>by obtain ⟨a,b,rfl⟩:=len2 hl; rfl) fun f fd F=>ok_name F B C__law_draw
  have C__law_rule:Cal P w K mg base 2 "_law_rule" ["_law_pack_here","_law_style","_law_count"] (sp_rulep K):=F__law_rule.cal X G (fun _ _ _ _ _ _ us hl=>by obtain ⟨a,b,c,rfl⟩:=len3 hl; rfl) fun f fd F=>ok_rulep F C__law_draw
  have C__law_listening:Cal P w K mg base 2 "_law_listening" ["_law_pack_here","_law_k","_law_many","_law_waits"] (sp_listening K):=F__law_listening.cal X G (fun _ _ _ _ _ _ us hl=>by obtain ⟨a,b,c,d,rfl⟩:=len4 hl; rfl) fun f fd F=>ok_listening F B C__law_draw
  have C__law_choir:Cal P w K mg base 3 "_law_choir" ["_law_pack_here","_law_most","_law_waits"] (sp_choir K):=F__law_choir.cal X G (fun _ _ _ _ _ _ us hl=>by obtain ⟨a,b,c,rfl⟩:=len3 hl; rfl) fun f fd F=>ok_choir F B C__law_draw C__law_next C__law_name C__law_rule C__law_listening
  have C_rule_of_text:Cal P w K mg base 4 "rule_of_text" ["text","many"] (sp_text K ff):=F_rule_of_text.cal X G (fun _ _ _ _ _ _ us hl=>by obtain ⟨a,b,rfl⟩:=len2 hl; rfl) fun f fd F=>ok_text F (PySem.W.mg_of X G aA) (PySem.W.mg_of X G aY) oA oY GA bA GY bY
  have C_is_whole:Cal P w K mg base 1 "is_whole" ["thing"] sp_whole:=F_is_whole.cal X G (fun _ _ _ _ _ _ us hl=>by obtain ⟨a,rfl⟩:=len1 hl; rfl) fun f fd F=>ok_is_whole F B
  have C_rule_of:Cal P w K mg base 5 "rule_of" ["word","many"] (sp_rule K ff):=F_rule_of.cal X G (fun _ _ _ _ _ _ us hl=>by obtain ⟨a,b,rfl⟩:=len2 hl; rfl) fun f fd F=>ok_rule_of F B (PySem.W.mg_of X G aS) oS GS bS C_rule_of_text C_is_whole
  have C_rule_of_bell:Cal P w K mg base 6 "rule_of_bell" ["bell"] (sp_bellrule K ff):=F_rule_of_bell.cal X G (fun _ _ _ _ _ _ us hl=>by obtain ⟨a,rfl⟩:=len1 hl; rfl) fun f fd F=>ok_rule_of_bell F B C_rule_of
  have C_listening_comes:Cal P w K mg base 1 "listening_comes" ["listening","before","now"] sp_comes:=F_listening_comes.cal X G (fun _ _ _ _ _ _ us hl=>by obtain ⟨a,b,c,rfl⟩:=len3 hl; rfl) fun f fd F=>ok_comes F
  have C_next_found:Cal P w K mg base 2 "next_found" ["choir","rules","before","now"] (sp_found K ff):=F_next_found.cal X G (fun _ _ _ _ _ _ us hl=>by obtain ⟨a,b,c,d,rfl⟩:=len4 hl; rfl) fun f fd F=>ok_found F B C_listening_comes GF bF
  have C_strokes_behind:Cal P w K mg base 3 "strokes_behind" ["choir","rules","before"] (sp_behind K ff):=F_strokes_behind.cal X G (fun _ _ _ _ _ _ us hl=>by obtain ⟨a,b,c,rfl⟩:=len3 hl; rfl) fun f fd F=>ok_behind F C_next_found
  have C_strokes:Cal P w K mg base 7 "strokes" ["choir","many"] sp_strokes:=F_strokes.cal X G (fun _ _ _ _ _ _ us hl=>by obtain ⟨a,b,rfl⟩:=len2 hl; rfl) fun f fd F=>ok_strokes F B C_rule_of_bell C_strokes_behind
  have C_heard:Cal P w K mg base 8 "heard" ["choir","first","last"] sp_heard:=F_heard.cal X G (fun _ _ _ _ _ _ us hl=>by obtain ⟨a,b,c,rfl⟩:=len3 hl; rfl) fun f fd F=>ok_heard F B C_strokes
  have C__law_whole:Cal P w K mg base 1 "_law_whole" ["_law_thing"] sp_whole:=F__law_whole.cal X G (fun _ _ _ _ _ _ us hl=>by obtain ⟨a,rfl⟩:=len1 hl; rfl) fun f fd F=>ok_whole F B
  have C__law_alike:Cal P w K mg base 2 "_law_alike" ["_law_told","_law_due"] (sp_alike K):=F__law_alike.cal X G (fun _ _ _ _ _ _ us hl=>by obtain ⟨a,b,rfl⟩:=len2 hl; rfl) fun f fd F=>ok_alike F B C__law_whole
  exact ok_law F B C__law_pack C__law_draw C__law_choir C_strokes C_heard C__law_alike
end K23
def PySem.W.Fast.tw10883075055479622796:Nat:=0
def PySem.W.Fast.tw9625445665008334684:Nat:=0
def PySem.W.Fast.tw2445499004632457412:Nat:=0
def PySem.W.Fast.tw1127188786837123099:Nat:=0
def PySem.W.Fast.tw5525443796001607602:Nat:=0
def PySem.W.Fast.tw16894551310232115627:Nat:=0
def PySem.W.Fast.tw556572289083298916:Nat:=0
def PySem.W.Fast.tw5107992670399784181:Nat:=0
def PySem.W.Fast.tw4034673983582263056:Nat:=0
def PySem.W.Fast.tw6863297685513374758:Nat:=0
def PySem.W.Fast.tw18199096864954634088:Nat:=0
def PySem.W.Fast.tw9054527596248058110:Nat:=0
def PySem.W.Fast.tw8247381934081795745:Nat:=0
open PySem PySem.W PyProof.Rows
set_option maxRecDepth 100000 in
set_option maxHeartbeats 0 in
theorem PySem.Challenge.cw_earbells_k23_what_is_heard_holds : PySem.Challenge.rw_earbells_k23_what_is_heard.Holds := by
  w_on; o_law; k_head; (case hw=>w_witness2)
  k_fill
  refine L2.walk_ofK (l:=PySem.Challenge.rw_earbells_k23_what_is_heard) (n:=63) (k:=9) (x:="_law_script") (CX:=L2.CX0) (sp:=K23.sp_law) rfl (by decide) rfl ⟨rfl,by decide,by decide⟩ (fun w h Y=>PySem.W.kIn_of Y) ?F (fun K H a ns hl hO hS=>⟨a,ns,rfl,hS,hl,fun _=>rfl⟩) (fun _ _ _ _ z=>z)
  case F =>
    intro w mg fa h KX G hmg
    refine' K23.all KX G hmg ?B ?aR ?aA ?aY ?aS ?cR ?oA ?oY ?oS ?FR ?FA ?FY ?FS ?FF ?F__law_nth ?F__law_pack ?F__law_draw ?F__law_next ?F__law_name ?F__law_rule ?F__law_listening ?F__law_choir ?F_rule_of_text ?F_is_whole ?F_rule_of ?F_rule_of_bell ?F_listening_comes ?F_next_found ?F_strokes_behind ?F_strokes ?F_heard ?F__law_whole ?F__law_alike ?F_law
    case B =>
      refine' K23.blt_mk KX G ?z1 ?z2 ?z3 ?z4 ?z5 ?z6 ?z7 ?z8 ?z9 ?z10 ?z11 ?z12 ?z13 ?z14 ?z15 ?z16 ?z17 ?z18 ?z19 ?z20
      all_goals k_is
    (case aR=>k_is); (case aA=>k_is); (case aY=>k_is); (case aS=>k_is)
    (case cR=>refine' K23.clsfn_mk ?cRa ?cRb ?cRc ?cRd; (case cRa=>k_is); (case cRb=>k_is); (case cRc=>k_is); (case cRd=>k_is))
    (case oA=>refine' K23.own_mk ?oAa ?oAb ?oAc ?oAd ?oAe ?oAf ?oAg ?oAh ?oAi ?oAj ?oAk ?oAl; (case oAa=>k_is); (case oAb=>k_is); all_goals k_is)
    (case oY=>refine' K23.own_mk ?oYa ?oYb ?oYc ?oYd ?oYe ?oYf ?oYg ?oYh ?oYi ?oYj ?oYk ?oYl; (case oYa=>k_is); (case oYb=>k_is); all_goals k_is)
    (case oS=>refine' K23.own_mk ?oSa ?oSb ?oSc ?oSd ?oSe ?oSf ?oSg ?oSh ?oSi ?oSj ?oSk ?oSl; (case oSa=>k_is); (case oSb=>k_is); all_goals k_is)
    (case FR=>refine' L2.fun_ex ?FRl ?FRc ?FRk; (case FRl=>k_is); (case FRc=>k_is); (case FRk=>k_is))
    (case FA=>refine' L2.fun_ex ?FAl ?FAc ?FAk; (case FAl=>k_is); (case FAc=>k_is); (case FAk=>k_is))
    (case FY=>refine' L2.fun_ex ?FYl ?FYc ?FYk; (case FYl=>k_is); (case FYc=>k_is); (case FYk=>k_is))
    (case FS=>refine' L2.fun_ex ?FSl ?FSc ?FSk; (case FSl=>k_is); (case FSc=>k_is); (case FSk=>k_is))
    (case FF=>refine' L2.fun_ex ?FFl ?FFc ?FFk; (case FFl=>k_is); (case FFc=>k_is); (case FFk=>k_is))
    all_goals (refine' L2.funAt_mk ?a ?l ?c ?k; (case a=>k_is); (case l=>k_is); (case c=>k_is); (case k=>k_is))
#print axioms PySem.Challenge.cw_earbells_k23_what_is_heard_holds
end
