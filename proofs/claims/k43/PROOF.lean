import PyProof.Rows.All
import Wide.All
import OpenK.AllK
import Wide.FinOn
import Lean
import PyProof.EqAt
import PyProof.EqKinds
import PyProof.TupleCall
import PyProof.NeKinds
import PySem.Challenge.RW_earbells_k43_whole_round_and_pace
set_option Elab.async false
set_option linter.all false
set_option maxRecDepth 100000
noncomputable section
namespace PySem.W.Fast
def tw1115177575196888531:Nat:=0
def tw4586566141475745164:Nat:=0
def tw12265589154884206823:Nat:=0
def tw17875236093016715968:Nat:=0
def tw14582578726714865473:Nat:=0
def tw8586644820990440687:Nat:=0
def tw11384280819907088858:Nat:=0
def tw1384772516853706570:Nat:=0
def tw5404232355309451219:Nat:=0
def tw9135444760516160619:Nat:=0
def tw14250672729041178342:Nat:=0
def tw6133463289678408772:Nat:=0
def tw13173801415643104388:Nat:=0
def tw16139991573379577456:Nat:=0
def tw14247025424128669121:Nat:=0
def tw8546828276331548918:Nat:=0
def tw3003367254772605285:Nat:=0
def tw3697330738567415009:Nat:=0
def tw14792924077475784641:Nat:=0
def tw13856125662003939399:Nat:=0
def tw9291931688586441799:Nat:=0
def tw13717116855086054241:Nat:=0
def tw15640073202471000489:Nat:=0
def tw14696419215475745589:Nat:=0
def tw7977081976107700640:Nat:=0
def tw762907144416650662:Nat:=0
def tw7653467206723995480:Nat:=0
def tw17531737981164284277:Nat:=0
def tw13804325727793018503:Nat:=0
def tw2594101779452001595:Nat:=0
def tw13166105681032347892:Nat:=0
def tw10173399081508407702:Nat:=0
def tw7343789980074177624:Nat:=0
def tw7532254213255646146:Nat:=0
def tw513469478707532791:Nat:=0
def tw13912034171084113627:Nat:=0
def tw14051628372275035437:Nat:=0
def tw4905869868795531417:Nat:=0
def tw2164665508762099631:Nat:=0
def tw2167084114738634101:Nat:=0
def tw9895988763758797928:Nat:=0
def tw11479488747690194989:Nat:=0
def tw16752048319891718668:Nat:=0
def tw18347873104084041700:Nat:=0
def tw14359497036524901927:Nat:=0
def tw3850738196720540271:Nat:=0
def tw15856273201274969927:Nat:=0
def tw179655921909116624:Nat:=0
def tw6108142645588699954:Nat:=0
def tw13665064552045710439:Nat:=0
def tw17819895146681969641:Nat:=0
def tw14089496000276584620:Nat:=0
def tw12540104804991092261:Nat:=0
def tw1292897724975100985:Nat:=0
def tw18423394133661963746:Nat:=0
def tw574211410541719971:Nat:=0
def tw4278630932206441105:Nat:=0
def tw17927134935599476839:Nat:=0
def tw4494304820560808366:Nat:=0
def tw5168001021051791831:Nat:=0
def tw3381202894272276468:Nat:=0
def tw5204619540610972037:Nat:=0
def tw15600407336156805374:Nat:=0
def tw10444649206559494017:Nat:=0
def tw693375454895484928:Nat:=0
def tw8086079607626312850:Nat:=0
def tw2901038782971438059:Nat:=0
def tw11714809694969602958:Nat:=0
def tw5740470639619512143:Nat:=0
def tw14278715718784133889:Nat:=0
def tw687111716645671898:Nat:=0
def tw15239909908971687040:Nat:=0
def tw11660157585520436694:Nat:=0
def tw11336654036207360478:Nat:=0
def tw427142115702154253:Nat:=0
def tw15422108136414532984:Nat:=0
def tw11427603252486648156:Nat:=0
def tw14076223694980734680:Nat:=0
def tw13321110692418798809:Nat:=0
def tw13872805096586528532:Nat:=0
def tw7377644661500620342:Nat:=0
def tw13964055129868194870:Nat:=0
def tw7190368342215263612:Nat:=0
def tw7530444466004233359:Nat:=0
def tw4387188134818436669:Nat:=0
def tw12550574306910578586:Nat:=0
def tw7834050030018589275:Nat:=0
def tw11659401275223724774:Nat:=0
def tw13174573682362893859:Nat:=0
def tw10878777548670294879:Nat:=0
def tw15733120392141920567:Nat:=0
def tw7362776484952077702:Nat:=0
def tw2186985915286341805:Nat:=0
def tw11088875664768283329:Nat:=0
def tw17338366857713953488:Nat:=0
def tw3813713801194780863:Nat:=0
def tw2744559235718961792:Nat:=0
def tw12987310486697667619:Nat:=0
def tw13276581714495012766:Nat:=0
def tw16074755720452108809:Nat:=0
def tw3104478002574667121:Nat:=0
def tw14045504935832804943:Nat:=0
def tw10360505811545664721:Nat:=0
def tw17445177917224251136:Nat:=0
def tw2123062824032701200:Nat:=0
def tw6564115121874360394:Nat:=0
def tw545419206156073221:Nat:=0
def tw2368395492709416718:Nat:=0
def tw4288336904777720508:Nat:=0
def tw15420137147106313416:Nat:=0
def tw17341911483998231404:Nat:=0
def tw17995532893078755892:Nat:=0
def tw10290796717313197328:Nat:=0
def tw17960805325997042982:Nat:=0
def tw5543962270996299743:Nat:=0
def tw17526373571444637318:Nat:=0
def tw2273409894881949615:Nat:=0
def tw9189409375292948962:Nat:=0
def tw4527464821390131737:Nat:=0
def tw8747884367769185707:Nat:=0
def tw3166197455113750917:Nat:=0
def tw7735361627160262212:Nat:=0
def tw12149331561455882114:Nat:=0
def tw10890631633294865899:Nat:=0
def tw3921454763276732603:Nat:=0
def tw11822255627074492178:Nat:=0
def tw11242247164637212115:Nat:=0
def tw7624495833351179393:Nat:=0
def tw3876014320557096713:Nat:=0
def tw5425979650598255380:Nat:=0
def tw7526900578042948455:Nat:=0
def tw7832300194934257421:Nat:=0
def tw9957515291244582662:Nat:=0
def tw6860215968872108057:Nat:=0
def tw11389923222322452739:Nat:=0
def tw1479450716237602711:Nat:=0
def tw14885370409307919398:Nat:=0
def tw7704736519256297195:Nat:=0
def tw8151953770261482801:Nat:=0
def tw16761530939691145478:Nat:=0
def tw10364764833854298911:Nat:=0
def tw640637563314273993:Nat:=0
def tw15229022165028300444:Nat:=0
def tw9816426358176581878:Nat:=0
def tw4775330681463880165:Nat:=0
def tw4422080187879785371:Nat:=0
def tw25565706531970893:Nat:=0
def tw15880927528403522073:Nat:=0
def tw8171290940145474529:Nat:=0
def tw10807313800322116168:Nat:=0
def tw5420893894468700807:Nat:=0
def tw2721553341705205:Nat:=0
def tw11490685299592253916:Nat:=0
def tw3772377638196345242:Nat:=0
def tw8529687116386244289:Nat:=0
def tw11207126129661471972:Nat:=0
def tw4614964258290365860:Nat:=0
def tw9490148160036015122:Nat:=0
def tw8123350253013501251:Nat:=0
def tw15341806842890273158:Nat:=0
def tw4973144832277727314:Nat:=0
def tw8992919312496618919:Nat:=0
def tw8466398283909786737:Nat:=0
def tw14104360467802861659:Nat:=0
def tw5997309957786831082:Nat:=0
def tw6368796082686170843:Nat:=0
def tw10285638623749506754:Nat:=0
def tw7033870662810920050:Nat:=0
def tw13196781844553674491:Nat:=0
def tw12691563498016764268:Nat:=0
def tw7159321537041018583:Nat:=0
def tw4204086536355166685:Nat:=0
def tw8606607262046597763:Nat:=0
def tw5662020977596174939:Nat:=0
def tw1928690139642287751:Nat:=0
def tw18227110253099009201:Nat:=0
def tw1119750792848186902:Nat:=0
def tw15302324520906882119:Nat:=0
def tw17874123429152448882:Nat:=0
def tw4505599616158234597:Nat:=0
def tw1232726618235305093:Nat:=0
def tw16923440114398438087:Nat:=0
def tw2411636220165905567:Nat:=0
def tw11790343625788854508:Nat:=0
def tw18329705860118124360:Nat:=0
def tw3918247499837472641:Nat:=0
def tw14935215092881458518:Nat:=0
def tw17065174983881328549:Nat:=0
def tw10893120315587446873:Nat:=0
def tw10105740085067219877:Nat:=0
def tw16131664655506781973:Nat:=0
def tw15997968361028401103:Nat:=0
def tw9304149015902714053:Nat:=0
def tw16429557609327013311:Nat:=0
def tw4306474626954970343:Nat:=0
def tw9642950433458649534:Nat:=0
def tw18184040790013079760:Nat:=0
def tw15679601772370467383:Nat:=0
def tw12123822577660379904:Nat:=0
def tw1365873661321047669:Nat:=0
def tw4006520472543040440:Nat:=0
def tw5559468673425743600:Nat:=0
def tw4283684278493960490:Nat:=0
def tw5007459783592857570:Nat:=0
def tw4908252217051620842:Nat:=0
def tw15110053879263497400:Nat:=0
def tw8765636411009200095:Nat:=0
def tw6926741045984429070:Nat:=0
def tw10771144825263548322:Nat:=0
def tw5373964407196655522:Nat:=0
def tw3149396217585326279:Nat:=0
def tw16316550060982890653:Nat:=0
def tw9736228091145192874:Nat:=0
def tw7348886795476279343:Nat:=0
def tw17955361308247619079:Nat:=0
def tw13471185339563260576:Nat:=0
def tw6006700337375441774:Nat:=0
def tw5815607016890596882:Nat:=0
def tw6873568919045876873:Nat:=0
def tw17577469083514096977:Nat:=0
def tw3236340068218973077:Nat:=0
def tw5447942238254456992:Nat:=0
def tw4055471382150708629:Nat:=0
def tw18159621382041970779:Nat:=0
def tw278261670401038736:Nat:=0
def tw13945232969166946546:Nat:=0
def tw6280363315125579100:Nat:=0
def tw3749728728641887646:Nat:=0
def tw2401873678869485741:Nat:=0
def tw8826023933566926737:Nat:=0
def tw1113643754899222303:Nat:=0
def tw7720547395369415415:Nat:=0
def tw7688499304201261746:Nat:=0
def tw11809650042476676024:Nat:=0
def tw12768370653712441166:Nat:=0
def tw6918785659429303923:Nat:=0
def tw5005243652634288074:Nat:=0
def tw11493463446307879708:Nat:=0
def tw8590829318787659117:Nat:=0
def tw15757512958590350992:Nat:=0
def tw8322085496653619703:Nat:=0
def tw5758756189779655191:Nat:=0
def tw5666342437971444084:Nat:=0
def tw14820100495644134977:Nat:=0
def tw3579017545306392961:Nat:=0
def tw13406645461041244596:Nat:=0
def tw9395109369742887195:Nat:=0
def tw6963864656832958668:Nat:=0
def tw11888945114699950033:Nat:=0
def tw6722653772914722328:Nat:=0
def tw7775456570686947579:Nat:=0
def tw13200732350841147119:Nat:=0
def tw18253614749730353907:Nat:=0
def tw16828752286978326744:Nat:=0
def tw11814834629701317090:Nat:=0
def tw1733153396337084475:Nat:=0
def tw7903847544049701170:Nat:=0
def tw17408740314853787498:Nat:=0
def tw10678458979834805392:Nat:=0
def tw5904159619459500363:Nat:=0
def tw16421227493867274406:Nat:=0
def tw12774392142116835998:Nat:=0
def tw2169702548289773820:Nat:=0
def tw13372787230438998993:Nat:=0
def tw2027657822799348002:Nat:=0
def tw12336463503591404537:Nat:=0
def tw6527995405775886415:Nat:=0
def tw17118946616130703286:Nat:=0
def tw6606859690407801151:Nat:=0
def tw2319076960821564672:Nat:=0
def tw14417287751640475084:Nat:=0
def tw15768832178782442043:Nat:=0
def tw16426882963175542769:Nat:=0
def tw16266937694768842711:Nat:=0
def tw12714688634240387118:Nat:=0
def tw3846729878816356494:Nat:=0
def tw2927449608240727160:Nat:=0
def tw1407979184433059118:Nat:=0
def tw783202816944784875:Nat:=0
def tw12163024515568144782:Nat:=0
def tw15282982773109095800:Nat:=0
def tw18072517185584566593:Nat:=0
def tw17361529495198243214:Nat:=0
def tw16114448230300195819:Nat:=0
def tw9915049446262314250:Nat:=0
def tw2079519800874355608:Nat:=0
def tw1333533434451356164:Nat:=0
def tw7426250169120069842:Nat:=0
def tw8216554928909839733:Nat:=0
def tw5932803175337174894:Nat:=0
def tw7602936387346243470:Nat:=0
def tw9564527667880154629:Nat:=0
def tw3035104114024270041:Nat:=0
def tw5100927960877764590:Nat:=0
def tw11041088237061896441:Nat:=0
def tw17443853940459153258:Nat:=0
def tw4474341082027969362:Nat:=0
def tw17507898812085440121:Nat:=0
def tw17285337054112279257:Nat:=0
def tw10924821604335291157:Nat:=0
def tw5552587807338110010:Nat:=0
def tw2636172404013757025:Nat:=0
def tw12617868747505865573:Nat:=0
def tw2389868989558078831:Nat:=0
def tw18052175030566908772:Nat:=0
def tw14450278458025066202:Nat:=0
def tw14233760806218669583:Nat:=0
def tw5992176195016038048:Nat:=0
def tw1975860982195769619:Nat:=0
def tw8387339690918632658:Nat:=0
def tw18358185887175029760:Nat:=0
def tw7231180413385774735:Nat:=0
def tw12095293176723843521:Nat:=0
def tw16004314982531674404:Nat:=0
def tw4842065121884783830:Nat:=0
def tw16200174765521780903:Nat:=0
def tw16883793368617946790:Nat:=0
def tw4305019857256934599:Nat:=0
def tw6292905403089084672:Nat:=0
def tw10965818010141551048:Nat:=0
def tw11390568720981646319:Nat:=0
def tw7602080516787737974:Nat:=0
def tw13899855494619335419:Nat:=0
def tw10514496245742802779:Nat:=0
def tw5928348004596405571:Nat:=0
def tw18416280263386107490:Nat:=0
def tw15881947291266115946:Nat:=0
def tw1759883903309716557:Nat:=0
def tw6021199930730155335:Nat:=0
def tw833634979958159804:Nat:=0
def tw11373022929810492848:Nat:=0
def tw5340165132312872540:Nat:=0
def tw475625368024508028:Nat:=0
def tw670026322896241769:Nat:=0
def tw15303630216657648435:Nat:=0
def tw289665508039529212:Nat:=0
def tw5321200664604302934:Nat:=0
def tw3608888518021498748:Nat:=0
def tw16367773439474371723:Nat:=0
def tw12204140122259409047:Nat:=0
def tw8200021120412317065:Nat:=0
def tw3384035447904531202:Nat:=0
def tw16254570000887249693:Nat:=0
def tw3763293465408018462:Nat:=0
def tw7972971029814013022:Nat:=0
def tw4036540513804106753:Nat:=0
def tw12588238346355164244:Nat:=0
def tw11862828162314309248:Nat:=0
def tw3176231262892528896:Nat:=0
def tw12079448646079860397:Nat:=0
def tw17970467120351157086:Nat:=0
def tw16962612859178381251:Nat:=0
def tw4758479696455102705:Nat:=0
def tw11842844867281848356:Nat:=0
def tw11986693939706373250:Nat:=0
def tw17843881799088845298:Nat:=0
def tw5741893915559298122:Nat:=0
def tw1336884000779419135:Nat:=0
def tw368874473966764799:Nat:=0
def tw6786185542883012865:Nat:=0
def tw2074348315607276594:Nat:=0
def tw18349333820423996978:Nat:=0
def tw12956418111511725990:Nat:=0
def tw15221411031825716198:Nat:=0
def tw2861005788390389091:Nat:=0
end PySem.W.Fast
namespace L2
open PySem PySem.Spec PyProof.Rows
abbrev Key:=Sum Int Str
def keyIs:Key→Value→Bool
  | .inl k,v=>Value.isInt k v
  | .inr x,v=>Value.isStrOf x v
def keyH (w:World):Key→Int
  | .inl k=>hashInt k
  | .inr x=>hashStr w x
theorem keyIs_shape:∀ {k:Key} {v:Value},keyIs k v=true→(∃ i t,k=Sum.inl i∧v=Value.int i t)∨(∃ x t,k=Sum.inr x∧v=Value.str x t)
  | .inl i,v,h=>by
    obtain ⟨t,e⟩:=Value.isInt_shape (k:=i) (v:=v) h
    exact .inl ⟨i,t,rfl,e⟩
  | .inr x,v,h=>by
    obtain ⟨t,e⟩:=Value.isStrOf_shape (x:=x) (v:=v) h
    exact .inr ⟨x,t,rfl,e⟩
theorem keyIs_int (i:Int) (t:Tok):keyIs (.inl i) (.int i t)=true:=by simp [keyIs,Value.isInt]
theorem keyIs_str (x:Str) (t:Tok):keyIs (.inr x) (.str x t)=true:=by simp [keyIs,Value.isStrOf]
theorem key_ll (a b:Int):decide ((Sum.inl a:Key)=Sum.inl b)=(a == b):=by
  by_cases e:a=b
  · subst e; simp
  · have h:¬ (Sum.inl a:Key)=Sum.inl b:=fun q=>e (Sum.inl.inj q)
    rw [decide_eq_false h]
    exact (beq_eq_false_iff_ne.mpr e).symm
theorem key_rr (a b:Str):decide ((Sum.inr a:Key)=Sum.inr b)=decide (a=b):=by
  by_cases e:a=b
  · subst e; simp
  · have h:¬ (Sum.inr a:Key)=Sum.inr b:=fun q=>e (Sum.inr.inj q)
    rw [decide_eq_false h,decide_eq_false e]
theorem key_lr (a:Int) (b:Str):decide ((Sum.inl a:Key)=Sum.inr b)=false:=decide_eq_false (fun q=>nomatch q)
theorem key_rl (a:Str) (b:Int):decide ((Sum.inr a:Key)=Sum.inl b)=false:=decide_eq_false (fun q=>nomatch q)
def mixKind (prog:Program) (w:World):PySem.KeyKind prog w Key where
  is:=keyIs
  hash:=keyH w
  inj:=fun v a b ha hb=>by
    rcases keyIs_shape ha with ⟨i,t,rfl,rfl⟩ | ⟨x,t,rfl,rfl⟩
    · rcases keyIs_shape hb with ⟨j,u,rfl,e⟩ | ⟨y,u,rfl,e⟩
      · injection e with e1 _; rw [e1]
      · exact nomatch e
    · rcases keyIs_shape hb with ⟨j,u,rfl,e⟩ | ⟨y,u,rfl,e⟩
      · exact nomatch e
      · injection e with e1 _; rw [e1]
  byValue:=fun k v h=>by
    rcases keyIs_shape h with ⟨i,t,rfl,rfl⟩ | ⟨x,t,rfl,rfl⟩ <;> rfl
  pyHash:=fun hv h=>by
    rcases keyIs_shape hv with ⟨i,t,rfl,rfl⟩ | ⟨x,t,rfl,rfl⟩
    · exact wpAny_pyHash_int h
    · exact wpAny_pyHash_str h
  eqBool:=fun hu hv h=>by
    rcases keyIs_shape hu with ⟨i,t,rfl,rfl⟩ | ⟨x,t,rfl,rfl⟩
    · rcases keyIs_shape hv with ⟨j,u,rfl,rfl⟩ | ⟨y,u,rfl,rfl⟩
      · rw [key_ll] at h; exact wpAny_eqBool_int h
      · rw [key_lr] at h; exact SeqAt.EqAt.int_str i t y u _ _ _ _ h
    · rcases keyIs_shape hv with ⟨j,u,rfl,rfl⟩ | ⟨y,u,rfl,rfl⟩
      · rw [key_rl] at h; exact SeqAt.EqAt.str_int x t j u _ _ _ _ h
      · rw [key_rr] at h; exact wpAny_eqBool_str h
  «strs»:=fun k x t v h=>by
    rcases keyIs_shape h with ⟨i,u,rfl,e⟩ | ⟨y,u,rfl,e⟩
    · exact nomatch e
    · injection e with e1 _
      subst e1
      cases v <;> rfl
theorem mixKind_int (prog:Program) (w:World) (i:Int) (t:Tok):(mixKind prog w).is (.inl i) (.int i t)=true:=keyIs_int i t
theorem mixKind_str (prog:Program) (w:World) (x:Str) (t:Tok):(mixKind prog w).is (.inr x) (.str x t)=true:=keyIs_str x t
end L2
namespace L2
open PySem PySem.Spec PyProof.Rows
inductive V where
  | non | bl (b:Bool) | int (i:Int) | str (x:Str) | byt (b:Array UInt8) | flt (b:UInt64) | ref (a:Addr) | ty (n:String)
  deriving DecidableEq
def RelV:V→Value→Prop
  | .non,u=>u=Value.none
  | .bl b,u=>u=Value.bool b
  | .int i,u=>∃ t,u=Value.int i t
  | .str x,u=>∃ t,u=Value.str x t
  | .byt b,u=>∃ t,u=Value.bytes b t
  | .flt b,u=>∃ t,u=Value.float b t
  | .ref a,u=>u=Value.ref a
  | .ty n,u=>u=Value.type n
abbrev Vals:List V→List Value→Prop:=Paired RelV
theorem Vals.length {xs:List V} {us:List Value} (r:Vals xs us):xs.length=us.length:=Paired.length r
theorem Vals.get:∀ {xs:List V} {us:List Value} {i:Nat} {x:V},Vals xs us→xs[i]?=some x→∃ u,us[i]?=some u∧RelV x u
  | _,_,_,_,.nil,e=>by simp at e
  | _,_,0,_,.cons r _,e=>by simp at e; subst e; exact ⟨_,rfl,r⟩
  | _,_,i+1,x,.cons _ t,e=>by
    obtain ⟨u,h1,h2⟩:=Vals.get (i:=i) (x:=x) t (by simpa using e)
    exact ⟨u,by simpa using h1,h2⟩
theorem Vals.set {x:V} {u:Value} (r:RelV x u):∀ {xs:List V} {us:List Value} (i:Nat),Vals xs us→Vals (xs.set i x) (us.set i u)
  | _,_,_,.nil=>.nil
  | _,_,0,.cons _ t=>.cons r t
  | _,_,i+1,.cons q t=>.cons q (Vals.set r i t)
theorem Vals.append:∀ {xs ys:List V} {us ws:List Value},Vals xs us→Vals ys ws→Vals (xs++ys) (us++ws)
  | _,_,_,_,.nil,s=>s
  | _,_,_,_,.cons r t,s=>.cons r (Vals.append t s)
theorem Vals.take:∀ {xs:List V} {us:List Value} (n:Nat),Vals xs us→Vals (xs.take n) (us.take n)
  | _,_,0,_=>.nil
  | _,_,_+1,.nil=>.nil
  | _,_,n+1,.cons r t=>.cons r (Vals.take n t)
theorem Vals.drop:∀ {xs:List V} {us:List Value} (n:Nat),Vals xs us→Vals (xs.drop n) (us.drop n)
  | _,_,0,r=>r
  | _,_,_+1,.nil=>.nil
  | _,_,n+1,.cons _ t=>Vals.drop n t
def RelO:Option V→Option Value→Prop
  | some v,some u=>RelV v u
  | none,none=>True
  | _,_=>False
def KV {κ:Type}:List (κ×V)→List (κ×Value)→Prop:=Paired fun (p:κ×V) (q:κ×Value)=>p.1=q.1∧RelV p.2 q.2
def kV:Key→V
  | .inl i=>.int i
  | .inr x=>.str x
inductive HO where
  | lst (xs:List V)
  | tup (xs:List V)
  | dK (kvs:List (Key×V)) | dT (kvs:List (List Key×V))
  | set (S:Int→Bool) (n:Nat)
  | ins (C dx:Addr) (fs:List (Str×V))
  | own (x:Addr)
  | xd (fs:List (Str×V))
  | met (f x:Addr)
  | rng (lo hi:Int)
  | frz (o:Obj) (u:HO)
  | tbl (ps:Array Value)
  | ext (φ:Heap→Prop)
abbrev Hp:=Addr→Option HO
def upd (H:Hp) (a:Addr) (o:HO):Hp:=fun b=>if b=a then some o else H b
theorem upd_same {H:Hp} {a:Addr} {o:HO}:upd H a o a=some o:=by unfold upd; rw [if_pos rfl]
theorem upd_ne {H:Hp} {a b:Addr} {o:HO} (h:b≠a):upd H a o b=H b:=by unfold upd; rw [if_neg h]
theorem ne_of {H:Hp} {a b:Addr} {o u:HO} (h:H a=some o) (h':H b=some u) (d:o≠u):a≠b:=by
  intro e; subst e; rw [h] at h'; exact d (Option.some.inj h')
theorem ne_of_none {H:Hp} {a b:Addr} {o:HO} (h:H a=some o) (h':H b=none):a≠b:=by
  intro e; subst e; rw [h] at h'; cases h'
section
variable (P:Program) (w:World)
def ObjOk (H:Hp) (h:Heap) (a:Addr):HO→Prop
  | .lst xs=>xs.length≤sizeLine∧∃ (its:List Value) (n:Nat),Vals xs its∧h.get? a=some { cls:=.type "list",data:=.seq its.toArray n }
  | .tup xs=>xs.length≤sizeLine∧∃ its:List Value,Vals xs its∧IsTup h a its.toArray
  | .dK kvs=>kvs.length≤sizeLine∧(a == sysModules)=false∧∃ vs,KV kvs vs∧h.DictOf (mixKind P w) a vs
  | .dT kvs=>kvs.length≤sizeLine∧(a == sysModules)=false∧∃ xs:List (List Key×Addr×Value),
      Paired (fun (p:List Key×V) (q:List Key×Addr×Value)=>p.1=q.1∧H q.2.1=some (.tup (p.1.map kV))∧RelV p.2 q.2.2) kvs xs∧
      ∃ o es ep,h.get? a=some o∧o.ExactDict∧o.data=.dict es ep∧es.toList=xs.map (entryOfKey (tupleKind (mixKind P w)))∧(xs.map (·.1)).Nodup
  | .set S n=>h.SetOf (intKind P w) a S n
  | .ins C dx fs=>H dx=some (.own a)∧fs.length≤1000∧dx≠a∧h.get? a=some (PySem.W.instObj C dx)∧
      ∃ mA,h.Ns1 dx mA∧(∀ f,RelO (fs.lookup f) (mA f))∧PySem.Within mA (fs.map (·.1))
  | .own _=>∃ o,h.get? a=some o
  | .xd fs=>∃ mA,h.Ns1 a mA∧∀ f,RelO (fs.lookup f) (mA f)
  | .rng lo hi=>∃ t u v,h.get? a=some { cls:=.type "range",data:=.fields #[.int lo t,.int hi u,.int 1 v] }
  | .frz o u=>h.get? a=some o∧ObjOk H h a u
  | .tbl ps=>h.get? a=some { cls:=.none,data:=.fields ps }
  | .met f x=>h.get? a=some (PySem.W.methodObj (.ref f) (.ref x))
  | .ext φ=>φ h∧(∃ o,h.get? a=some o)∧∀ h1 h2:Heap,φ h1→(∀ o,h1.get? a=some o→h2.get? a=some o)→φ h2
def HOk (H:Hp) (h:Heap):Prop:=∀ a o,H a=some o→ObjOk P w H h a o
end
section
variable {P:Program} {w:World} {H H':Hp} {h h':Heap} {a:Addr} {o:HO}
theorem ObjOk.lt (x:ObjOk P w H h a o):a<h.objs.size:=by
  cases o with
  | lst xs=>obtain ⟨_,_,_,_,e⟩:=x; exact Heap.lt_size e
  | tup xs=>obtain ⟨_,_,_,p⟩:=x; exact p.lt
  | dK kvs=>obtain ⟨_,_,_,_,o,_,_,e,_⟩:=x; exact Heap.lt_size e
  | dT kvs=>obtain ⟨_,_,_,_,o,_,_,e,_⟩:=x; exact Heap.lt_size e
  | set S n=>obtain ⟨o,_,_,_,e,_⟩:=x; exact Heap.lt_size e
  | ins C dx fs=>obtain ⟨_,_,_,e,_⟩:=x; exact Heap.lt_size e
  | own y=>obtain ⟨_,e⟩:=x; exact Heap.lt_size e
  | xd fs=>obtain ⟨_,⟨_,_,_,e,_⟩,_⟩:=x; exact Heap.lt_size e
  | rng lo hi=>obtain ⟨_,_,_,e⟩:=x; exact Heap.lt_size e
  | frz ob u=>obtain ⟨e,_⟩:=x; exact Heap.lt_size e
  | tbl ps=>exact Heap.lt_size (show h.get? a=some _ from x)
  | met f y=>exact Heap.lt_size (show h.get? a=some _ from x)
  | ext φ=>obtain ⟨_,⟨_,e⟩,_⟩:=x; exact Heap.lt_size e
theorem Paired.mapP {α β:Type} {F G:α→β→Prop}:∀ {l₁:List α} {l₂:List β},Paired F l₁ l₂→(∀ a b,F a b→G a b)→Paired G l₁ l₂
  | _,_,.nil,_=>.nil
  | _,_,.cons r t,f=>.cons (f _ _ r) (Paired.mapP t f)
theorem ObjOk.stay (x:ObjOk P w H h a o) (k:∀ b u,(b=a∨H b=some (.own a))→h.get? b=some u→h'.get? b=some u)
    (ho:∀ b,H b=some (.own a)→H' b=some (.own a)) (ht:∀ b xs,H b=some (.tup xs)→H' b=some (.tup xs)):ObjOk P w H' h' a o:=by
  induction o with
  | lst xs=>obtain ⟨z,its,n,r,e⟩:=x; exact ⟨z,its,n,r,k _ _ (.inl rfl) e⟩
  | tup xs=>obtain ⟨z,its,r,ob,e,c⟩:=x; exact ⟨z,its,r,ob,k _ _ (.inl rfl) e,c⟩
  | dK kvs=>obtain ⟨z,y,vs,r,ob,es,ep,e,c⟩:=x; exact ⟨z,y,vs,r,ob,es,ep,k _ _ (.inl rfl) e,c⟩
  | dT kvs =>
    obtain ⟨z,y,xs,r,ob,es,ep,e,c⟩:=x
    exact ⟨z,y,xs,Paired.mapP r fun p q z=>⟨z.1,ht _ _ z.2.1,z.2.2⟩,ob,es,ep,k _ _ (.inl rfl) e,c⟩
  | set S n=>obtain ⟨ob,es,ep,t,e,c⟩:=x; exact ⟨ob,es,ep,t,k _ _ (.inl rfl) e,c⟩
  | ins C dx fs =>
    obtain ⟨d,z,ne,e,mA,⟨od,es,ep,e2,c⟩,r⟩:=x
    exact ⟨ho _ d,z,ne,k _ _ (.inl rfl) e,mA,⟨od,es,ep,k _ _ (.inr d) e2,c⟩,r⟩
  | own y=>obtain ⟨ob,e⟩:=x; exact ⟨ob,k _ _ (.inl rfl) e⟩
  | xd fs=>obtain ⟨mA,⟨od,es,ep,e,c⟩,r⟩:=x; exact ⟨mA,⟨od,es,ep,k _ _ (.inl rfl) e,c⟩,r⟩
  | rng lo hi=>obtain ⟨t,u,v,e⟩:=x; exact ⟨t,u,v,k _ _ (.inl rfl) e⟩
  | frz ob u ih=>obtain ⟨e,q⟩:=x; exact ⟨k _ _ (.inl rfl) e,ih q⟩
  | tbl ps =>
    have e:h.get? a=some { cls:=.none,data:=.fields ps }:=x
    show h'.get? a=some { cls:=.none,data:=.fields ps }
    exact k a _ (.inl rfl) e
  | met f y =>
    have e:h.get? a=some (PySem.W.methodObj (.ref f) (.ref y)):=x
    show h'.get? a=some (PySem.W.methodObj (.ref f) (.ref y))
    exact k a _ (.inl rfl) e
  | ext φ=>obtain ⟨p,⟨o,e⟩,st⟩:=x; exact ⟨st _ _ p fun o q=>k _ _ (.inl rfl) q,⟨o,k _ _ (.inl rfl) e⟩,st⟩
theorem HOk.lt (x:HOk P w H h) (e:H a=some o):a<h.objs.size:=(x a o e).lt
theorem HOk.fresh (x:HOk P w H h) (e:h.objs.size≤a):H a=none:=by
  cases q:H a with
  | none=>rfl
  | some u=>exact absurd (Nat.lt_of_lt_of_le (x.lt q) e) (Nat.lt_irrefl _)
theorem HOk.kept (x:HOk P w H h) (k:∀ b u,h.get? b=some u→h'.get? b=some u):HOk P w H h':=fun a o e =>
  (x a o e).stay (fun b u _ q=>k b u q) (fun _ q=>q) fun _ _ q=>q
theorem HOk.laid (x:HOk P w H h) (k:∀ b u,h.get? b=some u→h'.get? b=some u) (hp:h.objs.size≤a) (new:ObjOk P w (upd H a o) h' a o):HOk P w (upd H a o) h':=fun b u e=>by
  have hn:=x.fresh hp
  by_cases hb:b=a
  · subst hb; rw [upd_same] at e; cases e; exact new
  · rw [upd_ne hb] at e
    exact (x b u e).stay (fun c v _ q=>k c v q) (fun c q=>by rw [upd_ne (ne_of_none q hn)]; exact q) fun c xs q=>by rw [upd_ne (ne_of_none q hn)]; exact q
end
def Rd (H:Hp) (a:Addr) (u:HO):Prop:=H a=some u∨∃ o,H a=some (.frz o u)
theorem Rd.ok {P:Program} {w:World} {H:Hp} {h:Heap} {a:Addr} {u:HO} (r:Rd H a u) (x:HOk P w H h):ObjOk P w H h a u:=by
  rcases r with r | ⟨o,r⟩
  · exact x a u r
  · obtain ⟨_,q⟩:=x a _ r
    exact q
def Mut:Option HO→Prop
  | some (.lst _)=>True
  | some (.dK _)=>True
  | some (.dT _)=>True
  | some (.set _ _)=>True
  | some (.ins _ _ _)=>True
  | some (.ext _)=>True
  | _=>False
section
variable {P:Program} {w:World} {H:Hp} {h h':Heap} {x e:Addr} {o':HO}
theorem HOk.write (ok:HOk P w H h) (mu:Mut (H x)) (he:e=x∨H e=some (.own x)) (k:∀ b u,b≠e→h.get? b=some u→h'.get? b=some u) (heo:∃ u,h'.get? e=some u)
    (new:ObjOk P w (upd H x o') h' x o'):HOk P w (upd H x o') h':=fun b u q=>by
  have nown:∀ c y,H c=some (.own y)→c≠x:=fun c y r z=>by subst z; rw [r] at mu; exact mu
  have ntup:∀ c xs,H c=some (.tup xs)→c≠x:=fun c xs r z=>by subst z; rw [r] at mu; exact mu
  by_cases hb:b=x
  · subst hb; rw [upd_same] at q; cases q; exact new
  · rw [upd_ne hb] at q
    by_cases hbe:b=e
    · have q':H b=some (.own x):=by
        rcases he with z | z
        · exact absurd (hbe.trans z) hb
        · rw [hbe]; exact z
      rw [q] at q'; cases q'
      obtain ⟨v,hv⟩:=heo
      exact ⟨v,by rw [hbe]; exact hv⟩
    · refine (ok b u q).stay (fun c v hc r=>k c v ?_ r) (fun c r=>by rw [upd_ne (nown c b r)]; exact r) fun c xs r=>by rw [upd_ne (ntup c xs r)]; exact r
      rcases hc with rfl | hc
      · exact hbe
      · rintro rfl
        rcases he with z | z
        · exact nown c b hc z
        · rw [hc] at z; cases z; exact hb rfl
end
structure Un (fs ex:List Addr) (H H':Hp) (h h':Heap):Prop where
  keep:∀ b o,h.get? b=some o→H b=none→b∉fs→b∉ex→h'.get? b=some o
  slot:∀ b o,h.get? b=some o→H b=none→b∈fs→b∉ex→∃ sl,h'.get? b=some { o with slots:=sl }
  free:∀ b o,h.get? b=some o→H b=none→b∉ex→H' b=none
  there:∀ b o,h.get? b=some o→b∉ex→∃ o',h'.get? b=some o'
  tups:∀ b xs,H b=some (.tup xs)→H' b=some (.tup xs)
  frzs:∀ b o u,H b=some (.frz o u)→H' b=some (.frz o u)
  tbls:∀ b ps,H b=some (.tbl ps)→∃ more,H' b=some (.tbl (ps++more))
section
variable {fs fs' ex ex':List Addr} {H H1 H2:Hp} {h h1 h2 h':Heap} {a x e:Addr} {o:HO}
theorem Un.any (u:Un fs ex H H1 h h1) {b:Addr} {ob:Obj} (q:h.get? b=some ob) (n:H b=none) (hx:b∉ex):∃ sl,h1.get? b=some { ob with slots:=sl }:=by
  by_cases hb:b∈fs
  · exact u.slot b ob q n hb hx
  · exact ⟨ob.slots,u.keep b ob q n hb hx⟩
theorem Un.kept (k:∀ b u,h.get? b=some u→h'.get? b=some u):Un fs ex H H h h' :=
  ⟨fun b ob q _ _ _=>k b ob q,fun b ob q _ _ _=>⟨ob.slots,k b ob q⟩,fun _ _ _ n _=>n,fun b ob q _=>⟨ob,k b ob q⟩,fun _ _ q=>q,fun _ _ _ q=>q,fun _ ps q=>⟨#[],by rw [q]; simp⟩⟩
theorem Un.refl:Un fs ex H H h h:=Un.kept fun _ _ q=>q
theorem Un.laid (k:∀ b u,h.get? b=some u→h'.get? b=some u) (hp:h.objs.size≤a) (hn:H a=none):Un fs ex H (upd H a o) h h' where
  keep:=fun b u q _ _ _=>k b u q
  slot:=fun b u q _ _ _=>⟨u.slots,k b u q⟩
  free:=fun b u q n _=>by rw [upd_ne (Nat.ne_of_lt (Nat.lt_of_lt_of_le (Heap.lt_size q) hp))]; exact n
  there:=fun b u q _=>⟨u,k b u q⟩
  tups:=fun b xs q=>by rw [upd_ne (ne_of_none q hn)]; exact q
  frzs:=fun b u xs q=>by rw [upd_ne (ne_of_none q hn)]; exact q
  tbls:=fun b ps q=>⟨#[],by rw [upd_ne (ne_of_none q hn),q]; simp⟩
theorem Un.write (mu:Mut (H x)) (he:e=x∨H e=some (.own x)) (k:∀ b u,b≠e→h.get? b=some u→h'.get? b=some u) (heo:∃ u,h'.get? e=some u):Un fs ex H (upd H x o) h h':=by
  have hx:∀ b,H b=none→b≠x:=fun b n z=>by subst z; rw [n] at mu; exact mu
  have hb:∀ b,H b=none→b≠e:=fun b n z=>by
    subst z
    rcases he with r | r
    · exact hx b n r
    · rw [n] at r; cases r
  have hm:∀ b u,H b=some u→¬ Mut (some u)→b≠x:=fun b u q nm z=>by subst z; rw [q] at mu; exact nm mu
  refine ⟨fun b u q n _ _=>k b u (hb b n) q,fun b u q n _ _=>⟨u.slots,k b u (hb b n) q⟩,fun b u q n _=>by rw [upd_ne (hx b n)]; exact n,fun b u q _=>?_,
    fun b xs q=>by rw [upd_ne (hm b _ q fun z=>z)]; exact q,fun b u xs q=>by rw [upd_ne (hm b _ q fun z=>z)]; exact q,fun b ps q=>⟨#[],by rw [upd_ne (hm b _ q fun z=>z),q]; simp⟩⟩
  by_cases hbe:b=e
  · subst hbe; exact heo
  · exact ⟨u,k b u hbe q⟩
end
def trk (h:Heap) (H:Hp):List Addr:=(List.range h.objs.size).filter fun a=>(H a).isSome
def hidT (h:Heap) (H:Hp):Heap:=PySem.W.hideAll h (trk h H)
theorem hidT_size (h:Heap) (H:Hp):(hidT h H).objs.size=h.objs.size:=PySem.W.hideAll_size _ _
theorem hidT_get {h:Heap} {H:Hp} {b:Addr} {o:Obj} (e:h.get? b=some o) (n:H b=none):(hidT h H).get? b=some o :=
  PySem.W.hideAll_get _ e fun hm=>by
    have q:(H b).isSome=true:=(List.mem_filter.mp hm).2
    rw [n] at q; simp at q
theorem of_hidT {h:Heap} {H:Hp} {b:Addr} {o:Obj} (e:(hidT h H).get? b=some o):h.get? b=some o∧H b=none:=by
  have e':h.get? b=some o:=PySem.W.of_hideAll (trk h H) e
  refine ⟨e',?_⟩
  cases q:H b with
  | none=>rfl
  | some x =>
    have hm:b∈trk h H:=List.mem_filter.mpr ⟨List.mem_range.mpr (Heap.lt_size e'),by simp [q]⟩
    have z:(hidT h H).get? b=none:=PySem.W.hideAll_none (trk h H) hm
    rw [z] at e; cases e
def allNews (g h:Heap) (L:Addr):List (Addr×Obj):=(List.range h.objs.size).filterMap fun a=>if a=L∨(g.get? a).isSome=true then none else (h.get? a).map fun o=>(a,o)
def rest (g h:Heap) (L d:Addr):List (Addr×Obj):=(allNews g h L).filter fun p=>decide (p.1≠d)
end L2
namespace L2
open PySem PySem.Spec PyProof.Rows
structure Mod (K:PySem.W.Frag) (mg:Str→Option Value) (base:Heap):Prop where
  kin:K.In base
  glob:base.Ns mainGlobals mg
  blt:∃ mb,base.Ns builtinsNs mb∧∀ x:Str,x≠"__name__"→mb x=bootBuiltins x
  nolimit:base.NoLimit
structure Cx where
  prog:Program
  w:World
  K:PySem.W.Frag
  mg:Str→Option Value
  base:Heap
  A:Around
  N:List Str
  s₀:Shared
  H₀:Hp
  env:Env
  outer:List Env
  stack:List Env
  ex:List Addr
  fn:Str→Bool
  calm:Bool
  pn:List (Addr×Obj)
  xe:Value→Shared→Prop
def frs (l:List Env):List Addr:=l.filterMap (·.frame)
abbrev Cx.fs (X:Cx):List Addr:=frs X.outer
def Vis (sc:Scope) (x:Str):Prop:=sc.names.lookup x=some .local∨sc.names.lookup x=some .cell∨sc.names.lookup x=some .free
def Loc (sc:Scope) (x:Str):Prop:=sc.names.lookup x=some .local∨sc.names.lookup x=some .cell
def Look (env:Env) (h:Heap) (m:Str→Option Value) (x:Str) (u:Value):Prop :=
  (env.kindOf x=some .local∧m x=some u)∨((env.kindOf x=some .cell∨env.kindOf x=some .free)∧∃ c,env.cells.lookup x=some c∧h.IsCell c (some u))
structure Cx.Ok (X:Cx):Prop where
  mod:Mod X.K X.mg X.base
  kind:X.env.scope.kind=.function
  glob:X.env.globals=mainGlobals
  blt:X.env.builtins=builtinsNs
  above:X.s₀.heap.objs.size≤X.env.locals
  inj:∀ x y c,X.env.cells.lookup x=some c→X.env.cells.lookup y=some c→x=y
  has:∀ x,(X.env.kindOf x=some .cell∨X.env.kindOf x=some .free)→∃ c,X.env.cells.lookup x=some c
  cab:∀ x c,X.fn x=true→X.env.cells.lookup x=some c→X.s₀.heap.objs.size≤c
  hd:X.calm=true→X.A.handled=none
  frames:X.A.frames=some X.stack
  stk:X.stack=X.outer∨(X.stack=X.env::X.outer∧X.env.frame=some X.env.locals)
  exf:∀ b∈X.ex,b≠X.env.locals∧∀ x c,X.env.cells.lookup x=some c→c≠b
  bs:∀ b o,X.base.get? b=some o→X.s₀.heap.get? b=some o∧X.H₀ b=none
  bsz:X.base.objs.size≤X.s₀.heap.objs.size
  noex:∀ b o,X.base.get? b=some o→b∉X.ex
  exfs:∀ b∈X.ex,b∉X.fs
  funs:X.s₀.heap.FunFrames X.base X.outer
  frf:∀ b∈X.fs,X.H₀ b=none
structure Inv (X:Cx) (pins:List (Addr×Obj)) (σ:List (Option V)) (H:Hp) (s:Shared):Prop where
  ok:X.Ok
  os:s.os=X.s₀.os
  bare:AllBare s.gens
  base:Un X.fs X.ex X.H₀ H X.s₀.heap s.heap
  loc:∃ m,s.heap.Ns X.env.locals m∧∀ (i:Nat) (x:Str) (v:V),X.N[i]?=some x→σ[i]?=some (some v)→Vis X.env.scope x→∃ u,RelV v u∧Look X.env s.heap m x u
  cell:∀ x c,X.env.cells.lookup x=some c→∃ v,s.heap.IsCell c v
  free:H X.env.locals=none
  freeC:∀ x c,X.env.cells.lookup x=some c→H c=none
  pin:∀ p∈X.pn++pins,s.heap.get? p.1=some p.2∧H p.1=none∧p.1≠X.env.locals∧p.1∉X.fs∧∀ v,p.2.data≠.cell v
  hok:HOk X.prog X.w H s.heap
  len:σ.length=X.N.length
section
variable {X:Cx} {pins:List (Addr×Obj)} {σ:List (Option V)} {H H':Hp} {s:Shared} {h':Heap}
theorem Cx.Ok.nofr (ok:X.Ok) {b:Addr} {o:Obj} (e:X.base.get? b=some o):b∉X.fs:=fun hb=>by
  have:=(ok.funs.mem hb).1
  rw [e] at this; cases this
theorem Inv.bs (I:Inv X pins σ H s):∀ b o,X.base.get? b=some o→s.heap.get? b=some o∧H b=none:=fun b o e =>
  ⟨I.base.keep b o (I.ok.bs b o e).1 (I.ok.bs b o e).2 (I.ok.nofr e) (I.ok.noex b o e),I.base.free b o (I.ok.bs b o e).1 (I.ok.bs b o e).2 (I.ok.noex b o e)⟩
theorem Inv.bk (I:Inv X pins σ H s):∀ b o,X.base.get? b=some o→s.heap.get? b=some o:=fun b o e=>(I.bs b o e).1
theorem Inv.mod (I:Inv X pins σ H s):Mod X.K X.mg X.base:=I.ok.mod
theorem Inv.kIn (I:Inv X pins σ H s):X.K.In s.heap:=I.ok.mod.kin.keeps I.bk
theorem Inv.fr (I:Inv X pins σ H s):∃ m,Fr X.base X.env.locals s.heap m :=
  let ⟨m,hn,_⟩:=I.loc
  ⟨m,hn,I.bk,Nat.le_trans I.ok.bsz I.ok.above⟩
theorem Inv.lt (I:Inv X pins σ H s):X.env.locals<s.heap.objs.size:=let ⟨_,hn,_⟩:=I.loc; hn.lt
theorem Inv.sz (I:Inv X pins σ H s):X.s₀.heap.objs.size≤s.heap.objs.size:=Nat.le_trans I.ok.above (Nat.le_of_lt I.lt)
theorem Inv.nofs (I:Inv X pins σ H s) {a:Addr} (h:s.heap.objs.size≤a):a∉X.fs:=fun hb=>by
  obtain ⟨_,o,ho,_⟩:=I.ok.funs.mem hb
  exact absurd (Nat.lt_of_lt_of_le (Heap.lt_size ho) (Nat.le_trans I.sz h)) (Nat.lt_irrefl _)
theorem Inv.cne (I:Inv X pins σ H s):∀ x c,X.env.cells.lookup x=some c→c≠X.env.locals:=fun x c e z=>by
  obtain ⟨v,o,ho,hd⟩:=I.cell x c e
  obtain ⟨m,⟨o',es,ep,ho',hd',_⟩,_⟩:=I.loc
  rw [z,ho'] at ho; cases ho; rw [hd'] at hd; cases hd
theorem Inv.funs (I:Inv X pins σ H s):s.heap.FunFrames X.base X.outer:=by
  have all:∀ (l:List Env),(∀ b∈frs l,b∈X.fs)→X.s₀.heap.FunFrames X.base l→s.heap.FunFrames X.base l:=by
    intro l
    induction l with
    | nil=>intro _ _; trivial
    | cons env r ih =>
      intro hs hl
      obtain ⟨hk,⟨L,o,hf,hn,ho,hd⟩,hr⟩:=hl
      have hL:L∈X.fs:=hs L (by unfold frs; rw [List.filterMap_cons,hf]; exact List.mem_cons_self)
      obtain ⟨sl,e⟩:=I.base.slot L o ho (I.ok.frf L hL) hL fun z=>I.ok.exfs L z hL
      exact ⟨hk,⟨L,_,hf,hn,e,hd⟩,ih (fun b hb=>hs b (by unfold frs; rw [List.filterMap_cons,hf]; exact List.mem_cons_of_mem _ hb)) hr⟩
  exact all X.outer (fun _ hb=>hb) I.ok.funs
theorem Inv.stack (I:Inv X pins σ H s):s.heap.FunFrames X.base X.stack:=by
  rcases I.ok.stk with e | ⟨e,hf⟩
  · rw [e]; exact I.funs
  · rw [e]
    obtain ⟨m,hn,_⟩:=I.loc
    refine .cons (by rw [I.ok.kind]; decide) hf hn ?_ I.funs
    exact Heap.get?_none_of_le (Nat.le_trans I.ok.bsz I.ok.above)
theorem Inv.stkSub (I:Inv X pins σ H s):∀ b∈frs X.stack,b∈X.env.locals::X.fs:=fun b hb=>by
  rcases I.ok.stk with e | ⟨e,hf⟩
  · rw [e] at hb; exact List.mem_cons_of_mem _ hb
  · rw [e] at hb
    unfold frs at hb
    rw [List.filterMap_cons,hf] at hb
    exact hb
theorem Inv.stkFree (I:Inv X pins σ H s):∀ b∈frs X.stack,H b=none:=fun b hb=>by
  rcases List.mem_cons.mp (I.stkSub b hb) with e | hb
  · rw [e]; exact I.free
  · obtain ⟨_,o,ho,_⟩:=I.ok.funs.mem hb
    exact I.base.free b o ho (I.ok.frf b hb) fun z=>I.ok.exfs b z hb
theorem Inv.step {g':Array GenState} {t':Nat} {d':Drawn} {ch:List Addr} (I:Inv X pins σ H s)
    (hch:∀ b∈ch,(b∈X.ex∨X.s₀.heap.objs.size≤b)∧b≠X.env.locals∧(∀ x c,X.env.cells.lookup x=some c→c≠b)∧∀ p∈X.pn++pins,p.1≠b)
    (keep:∀ b o,b≠X.env.locals→b∉X.fs→b∉ch→s.heap.get? b=some o→H b=none→h'.get? b=some o)
    (slot:∀ b o,b≠X.env.locals→b∈X.fs→b∉ch→s.heap.get? b=some o→H b=none→∃ sl,h'.get? b=some { o with slots:=sl }) (free:∀ b o,b∉ch→s.heap.get? b=some o→H b=none→H' b=none)
    (there:∀ b o,b∉ch→s.heap.get? b=some o→∃ o',h'.get? b=some o')
    (tups:∀ b xs,H b=some (.tup xs)→H' b=some (.tup xs)) (frzs:∀ b o u,H b=some (.frz o u)→H' b=some (.frz o u)) (tbls:∀ b ps,H b=some (.tbl ps)→∃ more,H' b=some (.tbl (ps++more)))
    (ns:∀ m,s.heap.Ns X.env.locals m→h'.Ns X.env.locals m) (hok:HOk X.prog X.w H' h') (hg:AllBare g') :
    Inv X pins σ H' { s with heap:=h',gens:=g',drawn:=d',toks:=t' }:=by
  have neL:∀ b o,X.s₀.heap.get? b=some o→b≠X.env.locals:=fun b o e=>Nat.ne_of_lt (Nat.lt_of_lt_of_le (Heap.lt_size e) I.ok.above)
  have neC:∀ b o,X.s₀.heap.get? b=some o→b∉X.ex→b∉ch:=fun b o e hx hb=>by
    rcases (hch b hb).1 with z | z
    · exact hx z
    · exact absurd (Nat.lt_of_lt_of_le (Heap.lt_size e) z) (Nat.lt_irrefl _)
  have cellK:∀ x c,X.env.cells.lookup x=some c→∀ v,s.heap.IsCell c v→h'.IsCell c v:=fun x c e v ⟨o,ho,hd⟩=>by
    have nch:c∉ch:=fun z=>(hch c z).2.2.1 x c e rfl
    by_cases hc:c∈X.fs
    · obtain ⟨sl,q⟩:=slot c o (I.cne x c e) hc nch ho (I.freeC x c e)
      exact ⟨_,q,hd⟩
    · exact ⟨o,keep c o (I.cne x c e) hc nch ho (I.freeC x c e),hd⟩
  refine ⟨I.ok,I.os,hg,⟨fun b o e n hb hx=>?_,fun b o e n hb hx=>?_,fun b o e n hx=>?_,fun b o e hx=>?_,fun b xs e=>tups b xs (I.base.tups b xs e),fun b o xs e=>frzs b o xs (I.base.frzs b o xs e),fun b ps e=>?_⟩,?_,fun x c e=>?_,?_,fun x c e=>?_,fun p hp=>?_,hok,I.len⟩
  · exact keep b o (neL b o e) hb (neC b o e hx) (I.base.keep b o e n hb hx) (I.base.free b o e n hx)
  · obtain ⟨sl,e1⟩:=I.base.slot b o e n hb hx
    obtain ⟨sl',e2⟩:=slot b _ (neL b o e) hb (neC b o e hx) e1 (I.base.free b o e n hx)
    exact ⟨sl',e2⟩
  · obtain ⟨o',e1⟩:=I.base.there b o e hx
    exact free b o' (neC b o e hx) e1 (I.base.free b o e n hx)
  · obtain ⟨o',e1⟩:=I.base.there b o e hx
    exact there b o' (neC b o e hx) e1
  · obtain ⟨m1,e1⟩:=I.base.tbls b ps e
    obtain ⟨m2,e2⟩:=tbls b _ e1
    exact ⟨m1++m2,by rw [e2,Array.append_assoc]⟩
  · obtain ⟨m,hn,hl⟩:=I.loc
    refine ⟨m,ns m hn,fun i x v e1 e2 e3=>?_⟩
    obtain ⟨u,r,l⟩:=hl i x v e1 e2 e3
    refine ⟨u,r,?_⟩
    rcases l with l | ⟨k,c,e,z⟩
    · exact .inl l
    · exact .inr ⟨k,c,e,cellK x c e _ z⟩
  · obtain ⟨v,z⟩:=I.cell x c e
    exact ⟨v,cellK x c e v z⟩
  · obtain ⟨m,⟨o,_,_,ho,_⟩,_⟩:=I.loc
    exact free _ o (fun z=>(hch _ z).2.1 rfl) ho I.free
  · obtain ⟨v,o,ho,hd⟩:=I.cell x c e
    exact free c o (fun z=>(hch c z).2.2.1 x c e rfl) ho (I.freeC x c e)
  · obtain ⟨e,n,ne,nf,d⟩:=I.pin p hp
    have nch:p.1∉ch:=fun z=>(hch p.1 z).2.2.2 p hp rfl
    exact ⟨keep p.1 p.2 ne nf nch e n,free p.1 p.2 nch e n,ne,nf,d⟩
theorem Inv.un {t':Nat} (I:Inv X pins σ H s) (u:Un X.fs [] H H' s.heap h') (hok:HOk X.prog X.w H' h'):Inv X pins σ H' { s with heap:=h',toks:=t' }:=by
  obtain ⟨m,⟨o,es,ep,ho,r⟩,_⟩:=id I.loc
  obtain ⟨sl,hL⟩:=u.any ho I.free (by simp)
  exact I.step (g':=s.gens) (d':=s.drawn) (ch:=[]) (fun _ z=>nomatch z) (fun b o _ hb _ e n=>u.keep b o e n hb (by simp)) (fun b o _ hb _ e n=>u.slot b o e n hb (by simp)) (fun b o _ e n=>u.free b o e n (by simp)) (fun b o _ e=>u.there b o e (by simp)) u.tups u.frzs u.tbls (fun m' hm=>by
    obtain ⟨o',es',ep',ho',r'⟩:=hm
    rw [ho] at ho'; cases ho'
    exact ⟨_,es',ep',hL,r'⟩) hok I.bare
theorem Inv.call {g':Array GenState} {t':Nat} {d':Drawn} {ch:List Addr} (I:Inv X pins σ H s) (u:Un (frs X.stack) ch H H' s.heap h') (hok:HOk X.prog X.w H' h') (hg:AllBare g')
    (hch:∀ b∈ch,(b∈X.ex∨X.s₀.heap.objs.size≤b)∧b≠X.env.locals∧(∀ x c,X.env.cells.lookup x=some c→c≠b)∧∀ p∈X.pn++pins,p.1≠b) :
    Inv X pins σ H' { s with heap:=h',gens:=g',drawn:=d',toks:=t' }:=by
  obtain ⟨m,⟨o,es,ep,ho,r⟩,_⟩:=id I.loc
  obtain ⟨sl,hL⟩:=u.any ho I.free fun z=>(hch _ z).2.1 rfl
  exact I.step (ch:=ch) hch (fun b o hL hb hc e n=>u.keep b o e n (fun z=>(List.mem_cons.mp (I.stkSub b z)).elim hL hb) hc) (fun b o _ _ hc e n=>u.any e n hc) (fun b o hc e n=>u.free b o e n hc) (fun b o hc e=>u.there b o e hc) u.tups u.frzs u.tbls (fun m' hm=>by
    obtain ⟨o',es',ep',ho',r'⟩:=hm
    rw [ho] at ho'; cases ho'
    exact ⟨_,es',ep',hL,r'⟩) hok hg
theorem Inv.turned {t':Nat} {it:Addr} (I:Inv X pins σ H s) (k:∀ b o,b≠it→s.heap.get? b=some o→h'.get? b=some o) (hn:H it=none) (hL:it≠X.env.locals)
    (h1:it∈X.ex∨X.s₀.heap.objs.size≤it) (h2:∀ x c,X.env.cells.lookup x=some c→c≠it) (h3:∀ p∈X.pn++pins,p.1≠it):Inv X pins σ H { s with heap:=h',toks:=t' }:=by
  have nit:∀ b u,H b=some u→b≠it:=fun b u e z=>by rw [z,hn] at e; cases e
  refine I.step (g':=s.gens) (d':=s.drawn) (ch:=[it]) (fun b hb=>?_) (fun b o _ _ hc e _=>k b o (fun z=>hc (by simp [z])) e) (fun b o _ _ hc e _=>⟨o.slots,k b o (fun z=>hc (by simp [z])) e⟩) (fun _ _ _ _ n=>n)
    (fun b o hc e=>⟨o,k b o (fun z=>hc (by simp [z])) e⟩) (fun _ _ e=>e) (fun _ _ _ e=>e) (fun b ps e=>⟨#[],by rw [e]; simp⟩) (fun m hm=>?_) (fun b u e=>?_) I.bare
  · have e:b=it:=by simpa using hb
    subst e
    exact ⟨h1,hL,h2,h3⟩
  · obtain ⟨o,es,ep,ho,r⟩:=hm
    exact ⟨o,es,ep,k _ o (Ne.symm hL) ho,r⟩
  · refine (I.hok b u e).stay (fun c v hc q=>k c v ?_ q) (fun _ q=>q) fun _ _ q=>q
    rcases hc with z | z
    · rw [z]; exact nit b u e
    · exact nit c _ z
theorem Inv.tok (I:Inv X pins σ H s) (t:Nat):Inv X pins σ H { s with toks:=t }:=I.un (h':=s.heap) (t':=t) Un.refl I.hok
theorem Inv.kept {t':Nat} (I:Inv X pins σ H s) (k:∀ b u,s.heap.get? b=some u→h'.get? b=some u):Inv X pins σ H { s with heap:=h',toks:=t' }:=I.un (Un.kept k) (I.hok.kept k)
theorem Inv.laid {a:Addr} {o:HO} {t':Nat} (I:Inv X pins σ H s) (k:∀ b u,s.heap.get? b=some u→h'.get? b=some u) (hp:s.heap.objs.size≤a) (new:ObjOk X.prog X.w (upd H a o) h' a o) :
    Inv X pins σ (upd H a o) { s with heap:=h',toks:=t' }:=I.un (Un.laid k hp (I.hok.fresh hp)) (I.hok.laid k hp new)
theorem Inv.write {x e:Addr} {o:HO} {t':Nat} (I:Inv X pins σ H s) (mu:Mut (H x)) (he:e=x∨H e=some (.own x)) (k:∀ b u,b≠e→s.heap.get? b=some u→h'.get? b=some u) (heo:∃ u,h'.get? e=some u)
    (new:ObjOk X.prog X.w (upd H x o) h' x o):Inv X pins σ (upd H x o) { s with heap:=h',toks:=t' }:=I.un (Un.write mu he k heo) (I.hok.write mu he k heo new)
theorem Inv.weak {σ':List (Option V)} (I:Inv X pins σ H s) (hl:σ'.length=σ.length) (w:∀ (i:Nat) v,σ'[i]?=some (some v)→σ[i]?=some (some v)):Inv X pins σ' H s :=
  ⟨I.ok,I.os,I.bare,I.base,let ⟨m,hn,hl'⟩:=I.loc; ⟨m,hn,fun i x v e1 e2 e3=>hl' i x v e1 (w i v e2) e3⟩,I.cell,I.free,I.freeC,I.pin,I.hok,hl.trans I.len⟩
theorem Inv.pins_of {pins':List (Addr×Obj)} (I:Inv X pins σ H s) (h:∀ p∈pins',s.heap.get? p.1=some p.2∧H p.1=none∧p.1≠X.env.locals∧p.1∉X.fs∧∀ v,p.2.data≠.cell v):Inv X pins' σ H s :=
  ⟨I.ok,I.os,I.bare,I.base,I.loc,I.cell,I.free,I.freeC,fun p hp=>(List.mem_append.mp hp).elim (fun z=>I.pin p (List.mem_append_left _ z)) (h p),I.hok,I.len⟩
theorem nodup_ix {N:List Str} (hN:N.Nodup) {i j:Nat} {x:Str} (a:N[i]?=some x) (b:N[j]?=some x):i=j:=by
  obtain ⟨h1,e1⟩:=List.getElem?_eq_some_iff.mp a
  obtain ⟨h2,e2⟩:=List.getElem?_eq_some_iff.mp b
  exact (List.getElem_inj hN).mp (e1.trans e2.symm)
theorem store_ok2 {M:Model} {A:Around} {E:Value→Shared→Prop} {i:Nat} {x:Str} {v:V} {u:Value} {Q:Unit→Shared→Prop} (I:Inv X pins σ H s) (hN:X.N.Nodup) (hi:X.N[i]?=some x) (hx:Loc X.env.scope x) (r:RelV v u)
    (h:∀ s',Inv X pins (σ.set i (some v)) H s'→(∃ a,Heap.SameBut a s.heap s'.heap∧(a=X.env.locals∨X.env.cells.lookup x=some a))→Q () s') (hf:X.fn x=true∨X.env.scope.names.lookup x=some .local:=by first | exact .inl rfl | exact .inr rfl | assumption):wpAny M A (storeName X.env x u) Q E s:=by
  obtain ⟨m,hn,hl⟩:=id I.loc
  have hcls:(X.env.scope.kind == .class || (X.env.scope.kind == .module && X.env.locals != X.env.globals))=false:=by rw [I.ok.kind]; rfl
  have hiσ:i<σ.length:=by rw [I.len]; exact (List.getElem?_eq_some_iff.mp hi).1
  have cne:=I.cne
  have tracked:∀ {a:Addr} {h':Heap},(∃ o,s.heap.get? a=some o∧H a=none)→Heap.SameBut a s.heap h'→HOk X.prog X.w H h':=fun {a h'} ha hs b ob e=>by
    obtain ⟨_,_,hfree⟩:=ha
    refine (I.hok b ob e).stay (fun c w' hc q=>(hs.2 c ?_).trans q) (fun _ q=>q) fun _ _ q=>q
    rintro rfl
    rcases hc with rfl | hc
    · rw [hfree] at e; cases e
    · rw [hfree] at hc; cases hc
  rcases hx with hk | hk
  · refine wpAny_storeName_local hk hn (fun h' hn' hs=>?_) hcls
    obtain ⟨oL,_,_,hoL,_⟩:=id hn
    refine h _ ⟨I.ok,I.os,I.bare,⟨fun b o e n hb hx=>?_,fun b o e n hb hx=>?_,I.base.free,fun b o e hx=>?_,I.base.tups,I.base.frzs,I.base.tbls⟩,⟨_,hn',fun j y v' e1 e2 e3=>?_⟩,fun y c e=>?_,I.free,I.freeC,fun p hp=>?_,tracked ⟨oL,hoL,I.free⟩ hs,by simpa using I.len⟩ ⟨_,hs,.inl rfl⟩
    · exact (hs.2 b (Nat.ne_of_lt (Nat.lt_of_lt_of_le (Heap.lt_size e) I.ok.above))).trans (I.base.keep b o e n hb hx)
    · obtain ⟨sl,e1⟩:=I.base.slot b o e n hb hx
      exact ⟨sl,(hs.2 b (Nat.ne_of_lt (Nat.lt_of_lt_of_le (Heap.lt_size e) I.ok.above))).trans e1⟩
    · obtain ⟨o',e1⟩:=I.base.there b o e hx
      exact ⟨o',(hs.2 b (Nat.ne_of_lt (Nat.lt_of_lt_of_le (Heap.lt_size e) I.ok.above))).trans e1⟩
    · by_cases hj:j=i
      · subst hj
        rw [hi] at e1; cases e1
        rw [List.getElem?_set_self hiσ] at e2
        cases e2
        exact ⟨u,r,.inl ⟨hk,by simp⟩⟩
      · rw [List.getElem?_set_ne (Ne.symm hj)] at e2
        obtain ⟨u',r',q⟩:=hl j y v' e1 e2 e3
        refine ⟨u',r',?_⟩
        rcases q with ⟨k,e⟩ | ⟨k,c,e,z⟩
        · refine .inl ⟨k,?_⟩
          have:y≠x:=fun e=>hj (nodup_ix hN e1 (e▸hi))
          simp [this,e]
        · exact .inr ⟨k,c,e,z.sameBut hs (cne y c e)⟩
    · obtain ⟨w',z⟩:=I.cell y c e
      exact ⟨w',z.sameBut hs (cne y c e)⟩
    · obtain ⟨e,n,ne,nf,d⟩:=I.pin p hp
      exact ⟨(hs.2 p.1 ne).trans e,n,ne,nf,d⟩
  · have hfn:X.fn x=true:=by
      rcases hf with z | z
      · exact z
      · rw [z] at hk; cases hk
    obtain ⟨c,hc⟩:=I.ok.has x (.inl hk)
    obtain ⟨w',z⟩:=I.cell x c hc
    refine wpAny_storeName_cell I.ok.kind hk hc z (fun h' hc' hs=>?_)
    obtain ⟨oc,hoc,hocd⟩:=id z
    refine h { s with heap:=h' } ⟨I.ok,I.os,I.bare,⟨fun b o e n hb hx=>?_,fun b o e n hb hx=>?_,I.base.free,fun b o e hx=>?_,I.base.tups,I.base.frzs,I.base.tbls⟩,⟨m,hn.sameBut hs (Ne.symm (cne x c hc)),fun j y v' e1 e2 e3=>?_⟩,fun y c' e=>?_,I.free,I.freeC,fun p hp=>?_,tracked ⟨oc,hoc,I.freeC x c hc⟩ hs,by simpa using I.len⟩ ⟨c,hs,.inr hc⟩
    · exact (hs.2 b (Nat.ne_of_lt (Nat.lt_of_lt_of_le (Heap.lt_size e) (I.ok.cab x c hfn hc)))).trans (I.base.keep b o e n hb hx)
    · obtain ⟨sl,e1⟩:=I.base.slot b o e n hb hx
      exact ⟨sl,(hs.2 b (Nat.ne_of_lt (Nat.lt_of_lt_of_le (Heap.lt_size e) (I.ok.cab x c hfn hc)))).trans e1⟩
    · obtain ⟨o',e1⟩:=I.base.there b o e hx
      exact ⟨o',(hs.2 b (Nat.ne_of_lt (Nat.lt_of_lt_of_le (Heap.lt_size e) (I.ok.cab x c hfn hc)))).trans e1⟩
    · by_cases hj:j=i
      · subst hj
        rw [hi] at e1; cases e1
        rw [List.getElem?_set_self hiσ] at e2
        cases e2
        exact ⟨u,r,.inr ⟨.inl hk,c,hc,hc'⟩⟩
      · rw [List.getElem?_set_ne (Ne.symm hj)] at e2
        obtain ⟨u',r',q⟩:=hl j y v' e1 e2 e3
        refine ⟨u',r',?_⟩
        rcases q with q | ⟨k,c',e,z'⟩
        · exact .inl q
        · refine .inr ⟨k,c',e,z'.sameBut hs ?_⟩
          rintro rfl
          exact hj (nodup_ix hN e1 (I.ok.inj _ _ _ e hc▸hi))
    · by_cases hcc:c'=c
      · subst hcc; exact ⟨_,hc'⟩
      · obtain ⟨w2,z2⟩:=I.cell y c' e
        exact ⟨w2,z2.sameBut hs hcc⟩
    · obtain ⟨e,n,ne,nf,d⟩:=I.pin p hp
      refine ⟨(hs.2 p.1 ?_).trans e,n,ne,nf,d⟩
      intro q
      rw [q,hoc] at e
      have q':oc=p.2:=Option.some.inj e
      exact d w' (by rw [← q']; exact hocd)
theorem store_ok {M:Model} {A:Around} {E:Value→Shared→Prop} {i:Nat} {x:Str} {v:V} {u:Value} {Q:Unit→Shared→Prop} (I:Inv X pins σ H s) (hN:X.N.Nodup) (hi:X.N[i]?=some x) (hx:Loc X.env.scope x) (r:RelV v u)
    (h:∀ s',Inv X pins (σ.set i (some v)) H s'→Q () s') (hf:X.fn x=true∨X.env.scope.names.lookup x=some .local:=by first | exact .inl rfl | exact .inr rfl | assumption):wpAny M A (storeName X.env x u) Q E s :=
  store_ok2 I hN hi hx r (fun s' I' _=>h s' I') hf
theorem Inv.call' {s':Shared} {ch:List Addr} (I:Inv X pins σ H s) (ho:s'.os=s.os) (u:Un (frs X.stack) ch H H' s.heap s'.heap) (hok:HOk X.prog X.w H' s'.heap) (hg:AllBare s'.gens)
    (hch:∀ b∈ch,(b∈X.ex∨X.s₀.heap.objs.size≤b)∧b≠X.env.locals∧(∀ x c,X.env.cells.lookup x=some c→c≠b)∧∀ p∈X.pn++pins,p.1≠b):Inv X pins σ H' s':=by
  obtain ⟨h',g',d',t',o'⟩:=s'
  have e:o'=s.os:=ho
  subst e
  exact I.call (g':=g') (t':=t') (d':=d') u hok hg hch
end
abbrev XK:=Value→Option Addr→Hp→Prop
abbrev St:=List (Option V)
abbrev VK:=V→Hp→Prop
abbrev TE:=St→Hp→VK→Prop
abbrev TT:=St→Hp→(Bool→Hp→Prop)→Prop
abbrev TA:=St→Hp→(List V→Hp→Prop)→Prop
structure Ends where
  nx:St→Hp→Prop
  rt:VK
  bk:St→Hp→Prop:=fun _ _=>False
  ct:St→Hp→Prop:=fun _ _=>False
abbrev TS:=Ends→St→Hp→Prop
def EP (X:Cx) (pins:List (Addr×Obj)) (σ:St) (Q:VK) (u:Value) (s':Shared):Prop:=∃ v H',Inv X pins σ H' s'∧RelV v u∧Q v H'
def TP (X:Cx) (pins:List (Addr×Obj)) (σ:St) (Q:Bool→Hp→Prop) (b:Bool) (s':Shared):Prop:=∃ H',Inv X pins σ H' s'∧Q b H'
def AP (X:Cx) (pins:List (Addr×Obj)) (σ:St) (Q:List V→Hp→Prop) (us:List Value) (s':Shared):Prop:=∃ vs H',Inv X pins σ H' s'∧Vals vs us∧Q vs H'
def SP (X:Cx) (pins:List (Addr×Obj)) (D:Ends) (f:Flow) (s':Shared):Prop :=
  match f with
  | .next=>∃ σ' H',Inv X pins σ' H' s'∧D.nx σ' H'
  | .brk=>∃ σ' H',Inv X pins σ' H' s'∧D.bk σ' H'
  | .cont=>∃ σ' H',Inv X pins σ' H' s'∧D.ct σ' H'
  | .ret u=>∃ v σ' H',Inv X pins σ' H' s'∧RelV v u∧D.rt v H'
def PE (X:Cx) (e:Expr) (t:TE):Prop :=
  ∀ (pins:List (Addr×Obj)) (s:Shared) (σ:St) (H:Hp) (Q:VK),Inv X pins σ H s→t σ H Q→wpAny (model X.prog X.w) X.A (eval e X.env) (EP X pins σ Q) X.xe s
def PT (X:Cx) (e:Expr) (t:TT):Prop :=
  ∀ (pins:List (Addr×Obj)) (s:Shared) (σ:St) (H:Hp) (Q:Bool→Hp→Prop),Inv X pins σ H s→t σ H Q→wpAny (model X.prog X.w) X.A (isTrue e X.env (eval e X.env)) (TP X pins σ Q) X.xe s
def PW (X:Cx) (e:Expr) (t:TT):Prop :=
  ∀ (whole:Sem Value) (pins:List (Addr×Obj)) (s:Shared) (σ:St) (H:Hp) (Q:Bool→Hp→Prop),Inv X pins σ H s→t σ H Q→wpAny (model X.prog X.w) X.A (isTrue e X.env whole) (TP X pins σ Q) X.xe s
theorem PW.pt {X:Cx} {e:Expr} {t:TT} (h:PW X e t):PT X e t:=h _
def PA (X:Cx) (es:List Expr) (t:TA):Prop :=
  ∀ (pos:Pos) (pins:List (Addr×Obj)) (s:Shared) (σ:St) (H:Hp) (Q:List V→Hp→Prop),Inv X pins σ H s→t σ H Q→wpAny (model X.prog X.w) X.A (spliced (backTo pos (starEach es X.env))) (AP X pins σ Q) X.xe s
def PS (X:Cx) (st:Stmt) (t:TS):Prop :=
  ∀ (pins:List (Addr×Obj)) (s:Shared) (σ:St) (H:Hp) (D:Ends),Inv X pins σ H s→t D σ H→wpAny (model X.prog X.w) X.A (exec st X.env) (SP X pins D) X.xe s
def PSs (X:Cx) (st:List Stmt) (t:TS):Prop :=
  ∀ (pins:List (Addr×Obj)) (s:Shared) (σ:St) (H:Hp) (D:Ends),Inv X pins σ H s→t D σ H→wpAny (model X.prog X.w) X.A (execs st X.env) (SP X pins D) X.xe s
theorem thn {α:Type} {t:Sem α} {Q Q':α→Shared→Prop} {M:Model} {A:Around} {E:Value→Shared→Prop} {s:Shared} (h:wpAny M A t Q E s) (hQ:∀ a s,Q a s→Q' a s):wpAny M A t Q' E s:=wpAny_mono h hQ fun _ _ x=>x
end L2
namespace L2
open PySem PySem.Spec PyProof.Rows
section
variable {X:Cx}
theorem bin {a b:Expr} {ta tb:TE} (ha:PE X a ta) (hb:PE X b tb) {pins:List (Addr×Obj)} {s:Shared} {σ:St} {H:Hp} {R:V→V→Hp→Prop} (I:Inv X pins σ H s) (h:ta σ H fun x H1=>tb σ H1 fun y H2=>R x y H2)
    {α:Type} {Q:α→Shared→Prop} {f:Value→Value→Sem α}
    (hf:∀ v u s2 x y H2,Inv X pins σ H2 s2→RelV x v→RelV y u→R x y H2→wpAny (model X.prog X.w) X.A (f v u) Q X.xe s2) :
    wpAny (model X.prog X.w) X.A (eval a X.env) (fun v s₁=>wpAny (model X.prog X.w) X.A (eval b X.env) (fun u s₂=>wpAny (model X.prog X.w) X.A (f v u) Q X.xe s₂) X.xe s₁) X.xe s:=by
  refine thn (ha pins s σ H _ I h) fun v s1 ⟨x,H1,I1,r1,q1⟩=>?_
  refine thn (hb pins s1 σ H1 _ I1 q1) fun u s2 ⟨y,H2,I2,r2,q2⟩=>?_
  exact hf v u s2 x y H2 I2 r1 r2 q2
def tVar (i:Nat):TE:=fun σ H Q=>∃ v,σ[i]?=some (some v)∧Q v H
def tC (v:V):TE:=fun _ H Q=>Q v H
theorem pe_var {i:Nat} {x:Str} {pos:Pos} (hN:X.N[i]?=some x) (hv:Vis X.env.scope x) (hd:(x == ("__debug__":Str))=false:=by decide) (hcd:(x == ("__classdict__":Str))=false:=by decide):PE X (.Name x pos) (tVar i):=by
  intro pins s σ H Q I h
  obtain ⟨v,e,h⟩:=h
  obtain ⟨m,hn,hl⟩:=I.loc
  obtain ⟨u,r,l⟩:=hl i x v hN e hv
  have fin:EP X pins σ Q u s:=⟨v,H,I,r,h⟩
  rcases l with ⟨hk,hm⟩ | ⟨hk,c,hc,hcell⟩
  · exact wpAny_Name (wpAny_loadName_local I.ok.kind hk hn hm fin) hd
  · rcases hk with hk | hk
    · exact wpAny_Name (wpAny_loadName_cell I.ok.kind hk hc hcell fin) hd
    · exact wpAny_Name (wpAny_loadName_free I.ok.kind hk hc hcell fin hcd) hd
theorem pe_int {i j pos}:PE X (.Constant (.int i) j pos) (tC (.int i)):=fun _ _ _ H _ I h=>wpAny_Constant_int ⟨.int i,H,I.tok _,⟨_,rfl⟩,h⟩
theorem pe_bl {b j pos}:PE X (.Constant (.bool b) j pos) (tC (.bl b)):=fun _ _ _ H _ I h=>Constant_bool ⟨.bl b,H,I,rfl,h⟩
theorem pe_non {j pos}:PE X (.Constant .none j pos) (tC .non):=fun _ _ _ H _ I h=>Constant_none ⟨.non,H,I,rfl,h⟩
theorem pe_str {x j pos}:PE X (.Constant (.str x) j pos) (tC (.str x)):=fun _ _ _ H _ I h=>Calls.Constant_str ⟨.str x,H,I.tok _,⟨_,rfl⟩,h⟩
def Gl (X:Cx) (x:Str):Prop:=X.env.kindOf x=some .globalImplicit
theorem ld_glob {E:Value→Shared→Prop} {pins:List (Addr×Obj)} {s:Shared} {σ:St} {H:Hp} {x:Str} {u:Value} {pos:Pos} {Q:Value→Shared→Prop} (I:Inv X pins σ H s) (hg:Gl X x) (hm:X.mg x=some u) (h:Q u s)
    (hd:(x == ("__debug__":Str))=false:=by decide):wpAny (model X.prog X.w) X.A (eval (.Name x pos) X.env) Q E s :=
  Calls.Name_function_global I.ok.kind hg (Calls.loadGlobal_global (by rw [I.ok.glob]; exact I.mod.glob.keeps I.bk) hm h) hd
theorem ld_blt {E:Value→Shared→Prop} {pins:List (Addr×Obj)} {s:Shared} {σ:St} {H:Hp} {x:Str} {u:Value} {pos:Pos} {Q:Value→Shared→Prop} (I:Inv X pins σ H s) (hg:Gl X x) (hm:X.mg x=none) (hv:bootBuiltins x=some u) (h:Q u s)
    (hn:x≠"__name__":=by decide) (hd:(x == ("__debug__":Str))=false:=by decide):wpAny (model X.prog X.w) X.A (eval (.Name x pos) X.env) Q E s:=by
  obtain ⟨mb,h1,h2⟩:=I.mod.blt
  exact Calls.Name_function_global I.ok.kind hg (Calls.loadGlobal_builtin (by rw [I.ok.glob]; exact I.mod.glob.keeps I.bk) hm (by rw [I.ok.blt]; exact h1.keeps I.bk) ((h2 x hn).trans hv) h) hd
theorem pe_bltn {x:Str} {v:V} {u:Value} {pos:Pos} (hg:Gl X x) (hm:X.mg x=none) (hv:bootBuiltins x=some u) (r:RelV v u) (hn:x≠"__name__":=by decide) (hd:(x == ("__debug__":Str))=false:=by decide):PE X (.Name x pos) (tC v) :=
  fun _ _ _ H _ I h=>ld_blt I hg hm hv ⟨v,H,I,r,h⟩ hn hd
def t2I (ta tb:TE) (k:Int→Int→Hp→Prop):St→Hp→Prop:=fun σ H=>ta σ H fun x H1=>tb σ H1 fun y H2=>∃ i j,x=.int i∧y=.int j∧k i j H2
def tAdd (ta tb:TE):TE:=fun σ H Q=>t2I ta tb (fun i j H2=>Q (.int (i+j)) H2) σ H
def tSub (ta tb:TE):TE:=fun σ H Q=>t2I ta tb (fun i j H2=>Q (.int (i - j)) H2) σ H
def tMul (ta tb:TE):TE:=fun σ H Q=>t2I ta tb (fun i j H2=>(-(2 ^ 64)<i∧i<2 ^ 64)∧Q (.int (i * j)) H2) σ H
variable {a b:Expr} {ta tb:TE} {pos:Pos}
def PC (X:Cx) (op:CmpOp) (a b:Expr) (t:TE):Prop :=
  ∀ (pins:List (Addr×Obj)) (s:Shared) (σ:St) (H:Hp) (Q:VK),Inv X pins σ H s→t σ H Q→
    wpAny (model X.prog X.w) X.A (eval a X.env) (fun v s₁=>wpAny (model X.prog X.w) X.A (eval b X.env) (fun u s₂=>wpAny (model X.prog X.w) X.A (compareOp op v u) (EP X pins σ Q) X.xe s₂) X.xe s₁) X.xe s
def tCmp (p:Int→Int→Bool) (ta tb:TE):TE:=fun σ H Q=>t2I ta tb (fun i j H2=>Q (.bl (p i j)) H2) σ H
abbrev tLt:TE→TE→TE:=tCmp fun i j=>decide (i<j)
abbrev tLe:TE→TE→TE:=tCmp fun i j=>decide (i≤j)
abbrev tGt:TE→TE→TE:=tCmp fun i j=>decide (j<i)
abbrev tGe:TE→TE→TE:=tCmp fun i j=>decide (j≤i)
abbrev tEqI:TE→TE→TE:=tCmp fun i j=>decide (i=j)
abbrev tNeI:TE→TE→TE:=tCmp fun i j=>!decide (i=j)
def tIsN (ta:TE):TE:=fun σ H Q=>ta σ H fun x H1=>Q (.bl (decide (x=.non))) H1
def tNotN (ta:TE):TE:=fun σ H Q=>ta σ H fun x H1=>Q (.bl (!decide (x=.non))) H1
def tB (t:TE):TT:=fun σ H Q=>t σ H fun x H1=>∃ c,x=.bl c∧Q c H1
theorem pt_cmp {op:CmpOp} {t:TE} (h:PC X op a b t) (h1:behindInMarks op b=false:=by first | exact nobehind _ (by decide) (by decide) | rfl):PT X (.Compare a [op] [b] pos) (tB t):=by
  intro pins s σ H Q I hw
  refine wpAny_isTrue_Compare1 (thn (h pins s σ H _ I hw) fun v s1 h1=>thn h1 fun u s2 h2=>thn h2 fun c s3 ⟨x,H1,I1,r1,q1⟩=>?_) h1
  obtain ⟨d,rfl,q⟩:=q1
  cases r1
  exact wpAny_truthy_bool ⟨H1,I1,q⟩
theorem pt_val {e:Expr} {t:TE} (h:PE X e t) (he:∀ whole,isTrue e X.env whole=(do let v ← whole; standAt e.pos; holding [v] (truthy v)):=by intro _; rfl):PT X e (tB t):=by
  intro pins s σ H Q I hw
  refine isTrue_plain (thn (h pins s σ H _ I hw) fun v s1 ⟨x,H1,I1,r1,q1⟩=>?_) (he _)
  obtain ⟨d,rfl,q⟩:=q1
  cases r1
  exact wpAny_truthy_bool ⟨H1,I1,q⟩
variable {tA tB':TT} {rest:List Expr}
def tAnd (t u:TT):TT:=fun σ H Q=>t σ H fun c H1=>if c=true then u σ H1 Q else Q false H1
def tOr (t u:TT):TT:=fun σ H Q=>t σ H fun c H1=>if c=true then Q true H1 else u σ H1 Q
def tNot (t:TT):TT:=fun σ H Q=>t σ H fun c H1=>Q (!c) H1
theorem pw_and1 (ha:PT X a tA):PW X (.BoolOp .And [a] pos) tA:=by
  intro wh pins s σ H Q I h
  refine isTrue_and (thn (ha pins s σ H Q I h) fun c s1 e=>?_)
  cases c with
  | true=>exact isTrue_and_nil e
  | false=>exact e
theorem pw_or1 (ha:PT X a tA):PW X (.BoolOp .Or [a] pos) tA:=by
  intro wh pins s σ H Q I h
  refine isTrue_or (thn (ha pins s σ H Q I h) fun c s1 e=>?_)
  cases c with
  | false=>exact isTrue_or_nil e
  | true=>exact e
theorem pw_and (ha:PT X a tA) (hb:PW X (.BoolOp .And (b::rest) pos) tB'):PW X (.BoolOp .And (a::b::rest) pos) (tAnd tA tB'):=by
  intro wh pins s σ H Q I h
  refine isTrue_and (thn (ha pins s σ H _ I h) fun c s1 ⟨H1,I1,q1⟩=>?_)
  cases c with
  | true=>exact hb wh pins s1 σ H1 Q I1 q1
  | false=>exact ⟨H1,I1,q1⟩
theorem pw_or (ha:PT X a tA) (hb:PW X (.BoolOp .Or (b::rest) pos) tB'):PW X (.BoolOp .Or (a::b::rest) pos) (tOr tA tB'):=by
  intro wh pins s σ H Q I h
  refine isTrue_or (thn (ha pins s σ H _ I h) fun c s1 ⟨H1,I1,q1⟩=>?_)
  cases c with
  | true=>exact ⟨H1,I1,q1⟩
  | false=>exact hb wh pins s1 σ H1 Q I1 q1
theorem pt_not (ha:PT X a tA):PT X (.UnaryOp .Not a pos) (tNot tA):=by
  intro pins s σ H Q I h
  exact isTrue_not (ha pins s σ H (fun c H1=>Q (!c) H1) I h)
def tAndV (ta tb:TE):TE:=fun σ H Q=>ta σ H fun x H1=>∃ c,x=.bl c∧if c=true then tb σ H1 Q else Q (.bl false) H1
def tOrV (ta tb:TE):TE:=fun σ H Q=>ta σ H fun x H1=>∃ c,x=.bl c∧if c=true then Q (.bl true) H1 else tb σ H1 Q
def tNotV (ta:TE):TE:=fun σ H Q=>ta σ H fun x H1=>∃ c,x=.bl c∧Q (.bl (!c)) H1
theorem pe_one {op} {t:TE} (h:PE X a t):PE X (.BoolOp op [a] pos) t:=fun pins s σ H Q I hw=>BoolOp_one (h pins s σ H Q I hw)
theorem pe_and (ha:PE X a ta) (hb:PE X (.BoolOp .And (b::rest) pos) tb):PE X (.BoolOp .And (a::b::rest) pos) (tAndV ta tb):=by
  intro pins s σ H Q I h
  refine BoolOp_and (thn (ha pins s σ H _ I h) fun v s1 ⟨x,H1,I1,r1,q1⟩=>?_)
  obtain ⟨c,rfl,q1⟩:=q1
  cases r1
  refine wpAny_truthy_bool ?_
  cases c with
  | true=>exact hb pins s1 σ H1 Q I1 q1
  | false=>exact ⟨.bl false,H1,I1,rfl,q1⟩
theorem pe_not (ha:PE X a ta):PE X (.UnaryOp .Not a pos) (tNotV ta):=by
  intro pins s σ H Q I h
  refine UnaryOp_ (thn (ha pins s σ H _ I h) fun v s1 ⟨x,H1,I1,r1,q1⟩=>?_)
  obtain ⟨c,rfl,q1⟩:=q1
  cases r1
  exact not_of (wpAny_truthy_bool ⟨.bl (!c),H1,I1,rfl,q1⟩)
def tIf (t:TT) (ta tb:TE):TE:=fun σ H Q=>t σ H fun c H1=>if c=true then ta σ H1 Q else tb σ H1 Q
theorem pe_ifExp {c:Expr} (hc:PT X c tA) (ha:PE X a ta) (hb:PE X b tb):PE X (.IfExp c a b pos) (tIf tA ta tb):=by
  intro pins s σ H Q I h
  refine wpAny_IfExp (thn (hc pins s σ H _ I h) fun d s1 ⟨H1,I1,q1⟩=>?_)
  cases d with
  | true=>exact ha pins s1 σ H1 Q I1 q1
  | false=>exact hb pins s1 σ H1 Q I1 q1
end
end L2
namespace L2
open PySem PySem.Spec PyProof.Rows
def SqL (K:PySem.W.Frag) (H:Hp) (a:Addr) (xs:List V):Prop :=
  Rd H a (.lst xs)∨
    ∃ (o:Obj) (its:Array Value) (n:Nat),K.lookup a=some o∧o.cls=.type "list"∧o.dict=none∧o.data=.seq its n∧its.size≤sizeLine∧Vals xs its.toList
def SqT (K:PySem.W.Frag) (H:Hp) (a:Addr) (xs:List V):Prop :=
  Rd H a (.tup xs)∨
    ∃ (o:Obj) (its:Array Value) (n:Nat),K.lookup a=some o∧o.cls=.type "tuple"∧o.data=.seq its n∧its.size≤sizeLine∧Vals xs its.toList
def absV:Value→Option V
  | .none=>some .non
  | .bool b=>some (.bl b)
  | .int i _=>some (.int i)
  | .str x _=>some (.str x)
  | .bytes b _=>some (.byt b)
  | .float b _=>some (.flt b)
  | .ref a=>some (.ref a)
  | .type n=>some (.ty n)
  | _=>none
theorem RelV.abs {x:V} {u:Value} (r:RelV x u):absV u=some x:=by
  cases x with
  | non=>cases r; rfl
  | bl _=>cases r; rfl
  | int _=>obtain ⟨t,rfl⟩:=r; rfl
  | str _=>obtain ⟨t,rfl⟩:=r; rfl
  | byt _=>obtain ⟨t,rfl⟩:=r; rfl
  | flt _=>obtain ⟨t,rfl⟩:=r; rfl
  | ref _=>cases r; rfl
  | ty _=>cases r; rfl
theorem RelV.inj {x y:V} {u:Value} (r:RelV x u) (q:RelV y u):x=y:=Option.some.inj (r.abs.symm.trans q.abs)
theorem Vals.inj:∀ {xs ys:List V} {us:List Value},Vals xs us→Vals ys us→xs=ys
  | _,_,_,.nil,.nil=>rfl
  | _,_,_,.cons r t,.cons r' t'=>by rw [r.inj r',Vals.inj t t']
section
variable {X:Cx} {pins:List (Addr×Obj)} {σ:St} {H:Hp} {s:Shared} {a:Addr} {xs ys:List V}
theorem SqL.of {K:PySem.W.Frag} (h:H a=some (.lst xs)):SqL K H a xs:=.inl (.inl h)
theorem SqT.of {K:PySem.W.Frag} (h:H a=some (.tup xs)):SqT K H a xs:=.inl (.inl h)
theorem Inv.list (I:Inv X pins σ H s) (h:SqL X.K H a xs):∃ its:List Value,Vals xs its∧PlainL s.heap a its.toArray∧xs.length≤sizeLine:=by
  rcases h with h | ⟨o,its,n,hk,hc,hd,hs,hz,r⟩
  · obtain ⟨z,its,n,r,e⟩:=h.ok I.hok
    exact ⟨its,r,⟨_,n,e,rfl,rfl,rfl⟩,z⟩
  · refine ⟨its.toList,r,⟨o,n,I.kIn a o hk,hc,hd,by simpa using hs⟩,?_⟩
    have e:=r.length
    simp only [Array.length_toList] at e
    omega
theorem Inv.tuple (I:Inv X pins σ H s) (h:SqT X.K H a xs):∃ its:List Value,Vals xs its∧IsTup s.heap a its.toArray∧xs.length≤sizeLine:=by
  rcases h with h | ⟨o,its,n,hk,hc,hs,hz,r⟩
  · obtain ⟨z,its,r,p⟩:=h.ok I.hok
    exact ⟨its,r,p,z⟩
  · refine ⟨its.toList,r,⟨o,I.kIn a o hk,hc,n,by simpa using hs⟩,?_⟩
    have e:=r.length
    simp only [Array.length_toList] at e
    omega
theorem Inv.list_inj (I:Inv X pins σ H s) (h:SqL X.K H a xs) (h':SqL X.K H a ys):xs=ys:=by
  obtain ⟨its,r,⟨o,n,e,_,_,d⟩,_⟩:=I.list h
  obtain ⟨its',r',⟨o',n',e',_,_,d'⟩,_⟩:=I.list h'
  rw [e] at e'; cases e'
  rw [d] at d'
  injection d' with d1 _
  have:its=its':=by simpa using congrArg Array.toList d1
  subst this
  exact r.inj r'
theorem Inv.tuple_inj (I:Inv X pins σ H s) (h:SqT X.K H a xs) (h':SqT X.K H a ys):xs=ys:=by
  obtain ⟨its,r,⟨o,e,_,n,d⟩,_⟩:=I.tuple h
  obtain ⟨its',r',⟨o',e',_,n',d'⟩,_⟩:=I.tuple h'
  rw [e] at e'; cases e'
  rw [d] at d'
  injection d' with d1 _
  have:its=its':=by simpa using congrArg Array.toList d1
  subst this
  exact r.inj r'
end
abbrev Cx.wish (X:Cx) (E:Value→Shared→Prop):Cx:={ X with xe:=E }
abbrev Cx.nox (X:Cx):Cx:=X.wish fun _ _=>False
theorem Cx.Ok.wish {X:Cx} (ok:X.Ok) (E:Value→Shared→Prop):(X.wish E).Ok :=
  ⟨ok.mod,ok.kind,ok.glob,ok.blt,ok.above,ok.inj,ok.has,ok.cab,ok.hd,ok.frames,ok.stk,ok.exf,ok.bs,ok.bsz,ok.noex,ok.exfs,ok.funs,ok.frf⟩
theorem Cx.Ok.unwish {X:Cx} {E:Value→Shared→Prop} (ok:(X.wish E).Ok):X.Ok :=
  ⟨ok.mod,ok.kind,ok.glob,ok.blt,ok.above,ok.inj,ok.has,ok.cab,ok.hd,ok.frames,ok.stk,ok.exf,ok.bs,ok.bsz,ok.noex,ok.exfs,ok.funs,ok.frf⟩
section
variable {X:Cx} {pins:List (Addr×Obj)} {σ:St} {H:Hp} {s:Shared} {E:Value→Shared→Prop}
theorem Inv.wish (I:Inv X pins σ H s) (E:Value→Shared→Prop):Inv (X.wish E) pins σ H s:=⟨I.ok.wish E,I.os,I.bare,I.base,I.loc,I.cell,I.free,I.freeC,I.pin,I.hok,I.len⟩
theorem Inv.unwish (I:Inv (X.wish E) pins σ H s):Inv X pins σ H s:=⟨I.ok.unwish,I.os,I.bare,I.base,I.loc,I.cell,I.free,I.freeC,I.pin,I.hok,I.len⟩
theorem SP.unwish {D:Ends} {f:Flow} {s':Shared} (h:SP (X.wish E) pins D f s'):SP X pins D f s':=by
  cases f with
  | next=>obtain ⟨σ',H',I,q⟩:=h; exact ⟨σ',H',I.unwish,q⟩
  | brk=>obtain ⟨σ',H',I,q⟩:=h; exact ⟨σ',H',I.unwish,q⟩
  | cont=>obtain ⟨σ',H',I,q⟩:=h; exact ⟨σ',H',I.unwish,q⟩
  | ret u=>obtain ⟨v,σ',H',I,r,q⟩:=h; exact ⟨v,σ',H',I.unwish,r,q⟩
theorem PSs.nox {st:List Stmt} {t:TS} (h:PSs X.nox st t):PSs X st t:=fun pins s σ H D I hw =>
  wpAny_mono (h pins s σ H D (I.wish _) hw) (fun _ _ q=>q.unwish) fun _ _ z=>False.elim z
end
section
variable {X:Cx} {st:Stmt} {rest:List Stmt} {t u:TS} {e:Expr} {te:TE} {pos:Pos}
def tNext:TS:=fun D σ H=>D.nx σ H
def tSeq (t u:TS):TS:=fun D σ H=>t { D with nx:=u D } σ H
theorem pss_nil:PSs X [] tNext:=fun _ _ σ H _ I h=>wpAny_execs_nil ⟨σ,H,I,h⟩
theorem pss_cons (h1:PS X st t) (h2:PSs X rest u):PSs X (st::rest) (tSeq t u):=by
  intro pins s σ H D I h
  refine wpAny_execs_cons (thn (h1 pins s σ H { D with nx:=u D } I h) fun f s1 q=>?_)
  cases f with
  | next =>
    obtain ⟨σ',H',I',q⟩:=q
    exact h2 pins s1 σ' H' D I' q
  | ret v=>exact q
  | brk=>exact q
  | cont=>exact q
theorem pss_one (h1:PS X st t):PSs X [st] t:=by
  intro pins s σ H D I h
  refine wpAny_execs_cons (thn (h1 pins s σ H D I h) fun f s1 q=>?_)
  cases f with
  | next=>exact wpAny_execs_nil q
  | ret v=>exact q
  | brk=>exact q
  | cont=>exact q
def tBreak:TS:=fun D σ H=>D.bk σ H
def tCont:TS:=fun D σ H=>D.ct σ H
theorem ps_break:PS X (.Break pos) tBreak:=fun _ _ σ H _ I h=>wpAny_Break ⟨σ,H,I,h⟩
theorem Inv.quiet {pins:List (Addr×Obj)} {σ:St} {H:Hp} {s:Shared} (I:Inv X pins σ H s):interactive X.env=false:=by simp [interactive,I.ok.kind]
def tDrop (te:TE):TS:=fun D σ H=>te σ H fun _ H1=>D.nx σ H1
theorem ps_expr (he:PE X e te) (hs:swapsWith e none pos.line X.env=pure false:=by rfl):PS X (.Expr e pos) (tDrop te):=by
  intro pins s σ H D I h
  exact wpAny_Expr_any (thn (he pins s σ H _ I h) fun v s1 ⟨x,H1,I1,r1,q1⟩=>⟨σ,H1,I1,q1⟩) I.quiet hs
def tRet (te:TE):TS:=fun D σ H=>te σ H D.rt
theorem ps_ret (he:PE X e te):PS X (.Return (some e) pos) (tRet te):=by
  intro pins s σ H D I h
  exact wpAny_Return_some (thn (he pins s σ H _ I h) fun v s1 ⟨x,H1,I1,r1,q1⟩=>⟨x,σ,H1,I1,r1,q1⟩)
def tRetN:TS:=fun D _ H=>D.rt .non H
def tIfS (c:TT) (t u:TS):TS:=fun D σ H=>c σ H fun b H1=>if b=true then t D σ H1 else u D σ H1
theorem ps_if {c:Expr} {a b:List Stmt} {tc:TT} (hc:PT X c tc) (ha:PSs X a t) (hb:PSs X b u):PS X (.If c a b pos) (tIfS tc t u):=by
  intro pins s σ H D I h
  refine wpAny_If (thn (hc pins s σ H _ I h) fun d s1 ⟨H1,I1,q1⟩=>?_)
  cases d with
  | true=>exact ha pins s1 σ H1 D I1 q1
  | false=>exact hb pins s1 σ H1 D I1 q1
def tNever:TS:=fun _ _ _=>False
theorem pss_never {sts:List Stmt}:PSs X sts tNever:=fun _ _ _ _ _ _ h=>h.elim
end
abbrev TG:=V→St→Hp→(St→Hp→Prop)→Prop
abbrev TGs:=List V→St→Hp→(St→Hp→Prop)→Prop
def PG (X:Cx) (target:Expr) (t:TG):Prop :=
  ∀ (pins:List (Addr×Obj)) (s:Shared) (σ:St) (H:Hp) (v:V) (u:Value) (Q:St→Hp→Prop),Inv X pins σ H s→RelV v u→t v σ H Q→
    wpAny (model X.prog X.w) X.A (assign target X.env u) (fun _ s'=>∃ σ' H',Inv X pins σ' H' s'∧Q σ' H') X.xe s
def PGs (X:Cx) (ts:List Expr) (t:TGs):Prop :=
  ∀ (pins:List (Addr×Obj)) (s:Shared) (σ:St) (H:Hp) (vs:List V) (us:List Value) (Q:St→Hp→Prop),Inv X pins σ H s→Vals vs us→t vs σ H Q→
    wpAny (model X.prog X.w) X.A (assignInOrder ((assignEach ts X.env).map (·.2)) us) (fun _ s'=>∃ σ' H',Inv X pins σ' H' s'∧Q σ' H') X.xe s
abbrev TSet:=V→V→V→Hp→(Hp→Prop)→Prop
def PSet (X:Cx) (t:TSet):Prop :=
  ∀ (pins:List (Addr×Obj)) (s:Shared) (σ:St) (H:Hp) (o i v:V) (ov iv u:Value) (Q:Hp→Prop),Inv X pins σ H s→RelV o ov→RelV i iv→RelV v u→t o i v H Q→
    wpAny (model X.prog X.w) X.A (setItem ov iv u) (fun _ s'=>∃ H',Inv X pins σ H' s'∧Q H') X.xe s
abbrev TIp:=V→V→Hp→VK→Prop
def PIp (X:Cx) (op:Operator) (t:TIp):Prop :=
  ∀ (pins:List (Addr×Obj)) (s:Shared) (σ:St) (H:Hp) (x y:V) (v u:Value) (Q:VK),Inv X pins σ H s→RelV x v→RelV y u→t x y H Q→
    wpAny (model X.prog X.w) X.A (inplaceOp op v u) (EP X pins σ Q) X.xe s
section
variable {X:Cx} {pos:Pos}
def gName (i:Nat):TG:=fun v σ H Q=>Q (σ.set i (some v)) H
theorem pg_name {i:Nat} {x:Str} (hN:X.N.Nodup) (hi:X.N[i]?=some x) (hx:Loc X.env.scope x) (hf:X.fn x=true∨X.env.scope.names.lookup x=some .local:=by first | exact .inl rfl | exact .inr rfl | assumption):PG X (.Name x pos) (gName i):=by
  intro pins s σ H v u Q I r h
  exact wpAny_assign_Name (store_ok I hN hi hx r (fun s' I'=>⟨_,H,I',h⟩) hf)
def gNil:TGs:=fun vs σ H Q=>vs=[]∧Q σ H
def gCons (t:TG) (u:TGs):TGs:=fun vs σ H Q=>∃ v r,vs=v::r∧t v σ H fun σ' H'=>u r σ' H' Q
theorem pgs_nil:PGs X [] gNil:=by
  intro pins s σ H vs us Q I r h
  obtain ⟨e,h⟩:=h
  subst e
  cases r
  exact assignInOrder_nil ⟨σ,H,I,h⟩
theorem pgs_cons {e:Expr} {es:List Expr} {t:TG} {u:TGs} (h1:PG X e t) (h2:PGs X es u)
    (hs:(assignEach (e::es) X.env).map (·.2)=assign e X.env::(assignEach es X.env).map (·.2):=by rfl):PGs X (e::es) (gCons t u):=by
  intro pins s σ H vs us Q I r h
  obtain ⟨v,vr,e1,h⟩:=h
  subst e1
  cases r with
  | cons r rr =>
    rw [hs]
    refine assignInOrder_cons (thn (h1 pins s σ H _ _ _ I r h) fun _ s1 ⟨σ1,H1,I1,q1⟩=>?_)
    exact h2 pins s1 σ1 H1 _ _ Q I1 rr q1
def gTup (K:PySem.W.Frag) (n:Nat) (t:TGs):TG:=fun v σ H Q=>∃ a xs,v=.ref a∧SqT K H a xs∧xs.length=n∧t xs σ H Q
theorem pg_tup {es:List Expr} {k:Nat} {t:TGs} {n:Nat} (hc:X.calm=true) (h:PGs X es t)
    (hn:(assignEach es X.env).length=n:=by rfl) (hst:(assignEach es X.env).findIdx? (·.1)=none:=by rfl):PG X (.Tuple es k pos) (gTup X.K n t):=by
  intro pins s σ H v u Q I r hw
  obtain ⟨a,xs,e1,hq,hl,hw⟩:=hw
  subst e1
  cases r
  obtain ⟨its,rv,ht,hz⟩:=I.tuple hq
  refine assign_Tuple_tuple (I.ok.hd hc) ht (by simp [hn,← hl,rv.length]) hst fun h' hx=>?_
  have I1:Inv X pins σ H { s with heap:=h' }:=I.kept (t':=s.toks) fun b o e=>hx b o (Nat.ne_of_lt (Heap.lt_size e)) e
  exact h pins _ σ H xs _ Q I1 (by simpa using rv) hw
def gSub (to ti:TE) (t:TSet):TG:=fun v σ H Q=>to σ H fun o H1=>ti σ H1 fun i H2=>t o i v H2 fun H3=>Q σ H3
theorem pg_sub {o i:Expr} {to ti:TE} {t:TSet} (ho:PE X o to) (hi:PE X i ti) (hs:PSet X t)
    (ha:∀ v,assign (.Subscript o i pos) X.env v=(do
      let ov ← holding [v] (eval o X.env)
      let iv ← holding [v,ov] (eval i X.env)
      standAt pos
      holding [v,ov,iv] (setItem ov iv v)
      release [v,ov,iv] []):=by intro _; rfl):PG X (.Subscript o i pos) (gSub to ti t):=by
  intro pins s σ H v u Q I r h
  rw [ha]
  refine wpAny_bind (wpAny_holding (thn (ho pins s σ H _ I h) fun ov s1 ⟨x,H1,I1,r1,q1⟩=>?_))
  refine wpAny_bind (wpAny_holding (thn (hi pins s1 σ H1 _ I1 q1) fun iv s2 ⟨y,H2,I2,r2,q2⟩=>?_))
  refine wpAny_bind (wpAny_standAt (wpAny_bind (wpAny_holding (thn (hs pins s2 σ H2 x y v ov iv u _ I2 r1 r2 r q2) fun _ s3 ⟨H3,I3,q3⟩=>?_))))
  exact wpAny_release ⟨σ,H3,I3,q3⟩
def tAsg (te:TE) (g:TG):TS:=fun D σ H=>te σ H fun x H1=>g x σ H1 D.nx
theorem ps_asg {tg e:Expr} {te:TE} {g:TG} (he:PE X e te) (hg:PG X tg g) (hs:swapsWithSole [tg] e pos.line X.env=pure false:=by rfl) (hw:swappedStores [tg] e X.env=pure none:=by rfl)
    (h1:(assignEach [tg] X.env).map (·.2)=[assign tg X.env]:=by rfl):PS X (.Assign [tg] e pos) (tAsg te g):=by
  intro pins s σ H D I h
  refine wpAny_Assign_stores (thn (he pins s σ H _ I h) fun v s1 ⟨x,H1,I1,r1,q1⟩=>?_) hs hw
  rw [h1]
  exact thn (hg pins s1 σ H1 x v _ I1 r1 q1) fun _ s2 q=>q
theorem ps_set {i:Nat} {x:Str} {e:Expr} {te:TE} {pos':Pos} (hN:X.N.Nodup) (hi:X.N[i]?=some x) (hx:Loc X.env.scope x) (he:PE X e te) (hs:swapsWith e (some (.Name x pos')) pos.line X.env=pure false:=by rfl) (hf:X.fn x=true∨X.env.scope.names.lookup x=some .local:=by first | exact .inl rfl | exact .inr rfl | assumption) :
    PS X (.Assign [.Name x pos'] e pos) (tAsg te (gName i)):=by
  intro pins s σ H D I h
  refine wpAny_Assign_Name (thn (he pins s σ H _ I h) fun v s1 ⟨y,H1,I1,r1,q1⟩=>?_) hs
  exact store_ok I1 hN hi hx r1 (fun s2 I2=>⟨_,H1,I2,q1⟩) hf
def tPar (i j:Nat) (ta:TA):TS:=fun D σ H=>ta σ H fun vs H1=>∃ v w,vs=[v,w]∧D.nx ((σ.set i (some v)).set j (some w)) H1
theorem ps_par {i j:Nat} {x y:Str} {a b:Expr} {ta:TA} {px py pt:Pos} {kt k2 pt2} (hc:X.calm=true) (hN:X.N.Nodup) (hi:X.N[i]?=some x) (hj:X.N[j]?=some y) (hij:i≠j)
    (hx:X.env.scope.names.lookup x=some .local) (hy:X.env.scope.names.lookup y=some .local) (ha:PA X [a,b] ta)
    (hw:swappedStores [.Tuple [.Name x px,.Name y py] kt pt] (.Tuple [a,b] k2 pt2) X.env=pure (some [x,y]))
    (hs:swapsWithSole [.Tuple [.Name x px,.Name y py] kt pt] (.Tuple [a,b] k2 pt2) pos.line X.env=pure false:=by rfl) :
    PS X (.Assign [.Tuple [.Name x px,.Name y py] kt pt] (.Tuple [a,b] k2 pt2) pos) (tPar i j ta):=by
  intro pins s σ H D I h
  rw [exec_Assign_arm]
  refine wpAny_bind (wpAny_standAt ?_)
  rw [hs]
  refine wpAny_bind (wpAny_pure ?_)
  rw [if_neg (by decide)]
  refine wpAny_bind (Tuple_ (thn (ha _ pins s σ H _ I h) fun us s1 ⟨vs,H1,I1,r1,q1⟩=>?_))
  obtain ⟨v,w,e1,q1⟩:=q1
  subst e1
  obtain ⟨u1,u2,rfl,rv,rw'⟩:∃ u1 u2,us=[u1,u2]∧RelV v u1∧RelV w u2:=by
    cases r1 with
    | cons p q =>
      cases q with
      | cons p' q' =>
        cases q'
        exact ⟨_,_,rfl,p,p'⟩
  refine wpAny_newObj_type ?_ (by show 2≤sizeLine; decide)
  have I2:Inv X pins σ H1 { s1 with heap:=s1.heap.push { cls:=.type "tuple",data:=.seq [u1,u2].toArray } }:=I1.kept (t':=s1.toks) fun b o e=>Heap.get?_push_of_some _ e
  rw [hw]
  refine wpAny_bind (wpAny_pure ?_)
  show wpAny (model X.prog X.w) X.A (do rule "assign.swapped-stores"; let items ← unpackItems (.ref s1.heap.objs.size) 2 none; assignInOrder [fun v=>bindName X.env y v,fun v=>bindName X.env x v] items.reverse; pure Flow.next) _ _ _
  refine wpAny_bind (wpAny_rule (wpAny_bind (unpackItems_tuple (items:=#[u1,u2]) (I.ok.hd hc) (IsTup.new s1.heap _) fun h' hx'=>?_)))
  have I3:=I2.kept (h':=h') (t':=s1.toks) fun b o e=>hx' b o (Nat.ne_of_lt (Heap.lt_size e)) e
  show wpAny _ _ (assignInOrder [fun v=>bindName X.env y v,fun v=>bindName X.env x v] [u2,u1] >>= fun _=>pure Flow.next) _ _ _
  refine wpAny_bind (assignInOrder_cons (wpAny_bindName (store_ok I3 hN hj (.inl hy) rw' (fun s2 I4=>?_) (.inr hy))))
  refine assignInOrder_cons (wpAny_bindName (store_ok I4 hN hi (.inl hx) rv (fun s3 I5=>assignInOrder_nil (wpAny_pure ?_)) (.inr hx)))
  rw [List.set_comm _ _ (Ne.symm hij)] at I5
  exact ⟨_,H1,I5,q1⟩
def tAug (i:Nat) (te:TE) (ti:TIp):TS:=fun D σ H=>∃ x,σ[i]?=some (some x)∧te σ H fun y H1=>ti x y H1 fun z H2=>D.nx (σ.set i (some z)) H2
def tAugS (to ti te:TE) (tget:V→V→Hp→VK→Prop) (tip:TIp) (tset:TSet):TS:=fun D σ H=>to σ H fun o H1=>ti σ H1 fun i H2=>tget o i H2 fun x H3=>te σ H3 fun y H4=>tip x y H4 fun z H5=>tset o i z H5 fun H6=>D.nx σ H6
def PGet (X:Cx) (t:V→V→Hp→VK→Prop):Prop :=
  ∀ (pins:List (Addr×Obj)) (s:Shared) (σ:St) (H:Hp) (o i:V) (ov iv:Value) (Q:VK),Inv X pins σ H s→RelV o ov→RelV i iv→t o i H Q→
    wpAny (model X.prog X.w) X.A (getItem ov iv) (EP X pins σ Q) X.xe s
def ipI (f:Int→Int→Int):TIp:=fun x y H Q=>∃ i j,x=.int i∧y=.int j∧Q (.int (f i j)) H
end
section
variable {X:Cx} {pos:Pos}
def tWhile (c:TT) (tb:TS):TS:=fun D σ H=>∃ W:Nat→St→Hp→Prop,(∃ m,W m σ H)∧∀ m σ H,W m σ H→
  c σ H fun b H1=>if b=true then ∃ N:St→Hp→Prop,(∀ σ' H',N σ' H'→∃ m',m'<m∧W m' σ' H')∧tb { D with nx:=N,ct:=N,bk:=D.nx } σ H1 else D.nx σ H1
theorem ps_while {c:Expr} {body:List Stmt} {tc:TT} {tb:TS} (hp:PassesOwn (model X.prog X.w) X.A X.env X.xe) (hc:PT X c tc) (hb:PSs X body tb):PS X (.While c body [] pos) (tWhile tc tb):=by
  intro pins s σ H D I h
  obtain ⟨W,⟨m0,w0⟩,turn⟩:=h
  refine wpAny_While (codeAny_whileLoop (fun n s'=>∃ σ' H',Inv X pins σ' H' s'∧W n σ' H') ?_ m0 ⟨σ,H,I,w0⟩)
  rintro n s1 ⟨σ1,H1,I1,w1⟩
  refine wpAny_passesOwn hp (thn (hc pins s1 σ1 H1 _ I1 (turn n σ1 H1 w1)) fun b s2 ⟨H2,I2,q2⟩=>?_)
  cases b with
  | true =>
    obtain ⟨N,hN,q2⟩:=q2
    rw [if_pos rfl]
    refine wpAny_passesOwn hp (thn (hb pins s2 σ1 H2 _ I2 q2) fun f s3 q3=>?_)
    cases f with
    | next =>
      obtain ⟨σ3,H3,I3,n3⟩:=q3
      obtain ⟨m',hm,w3⟩:=hN σ3 H3 n3
      exact ⟨m',hm,σ3,H3,I3,w3⟩
    | cont =>
      obtain ⟨σ3,H3,I3,n3⟩:=q3
      obtain ⟨m',hm,w3⟩:=hN σ3 H3 n3
      exact ⟨m',hm,σ3,H3,I3,w3⟩
    | brk=>exact q3
    | ret v=>exact q3
  | false =>
    rw [if_neg Bool.false_ne_true]
    exact wpAny_execs_nil ⟨σ1,H2,I2,q2⟩
end
structure It where
  go:Nat→Hp→Prop
  yld:Nat→Hp→V→Hp→Prop
  stop:Nat→Hp→Prop
def FpOk (X:Cx) (pins:List (Addr×Obj)) (H:Hp) (b:Addr):Prop :=
  H b=none∧b≠X.env.locals∧b∉X.fs∧(b∈X.ex∨X.s₀.heap.objs.size≤b)∧(∀ x c,X.env.cells.lookup x=some c→c≠b)∧∀ p∈X.pn++pins,p.1≠b
theorem Inv.fpOk {X:Cx} {pins:List (Addr×Obj)} {σ:St} {H H':Hp} {s:Shared} {b:Addr} (I:Inv X pins σ H s) (hb:s.heap.objs.size≤b) (hn:H' b=none):FpOk X pins H' b:=by
  refine ⟨hn,Nat.ne_of_gt (Nat.lt_of_lt_of_le I.lt hb),I.nofs hb,.inr (Nat.le_trans I.sz hb),fun x c e z=>?_,fun p hp z=>?_⟩
  · obtain ⟨v,q⟩:=I.cell x c e
    exact absurd (Nat.lt_of_lt_of_le q.lt (by rw [z]; exact hb)) (Nat.lt_irrefl _)
  · exact absurd (Nat.lt_of_lt_of_le (Heap.lt_size (I.pin p hp).1) (by rw [z]; exact hb)) (Nat.lt_irrefl _)
structure Turn (P:Program) (w:World) (K:PySem.W.Frag) (tg:Expr) (J:It) (fp:List Addr) (it:Addr) (tn:Nat→Heap→Prop):Prop where
  mem:it∈fp
  obj:∀ i h,tn i h→∀ b∈fp,∃ o,h.get? b=some o∧∀ v,o.data≠.cell v
  keep:∀ i h h',tn i h→(∀ b∈fp,∀ o,h.get? b=some o→h'.get? b=some o)→tn i h'
  item:∀ (X:Cx),X.prog=P→X.w=w→X.K=K→X.calm=true→∀ (i:Nat) (pins:List (Addr×Obj)) (s:Shared) (σ:St) (H:Hp) (E:Value→Shared→Prop),Inv X pins σ H s→(∀ b∈fp,FpOk X pins H b)→tn i s.heap→J.go i H→
    wpAny (model P w) X.A (pyNext (.ref it)) (fun r s1=>∃ u,r=some u∧
      wpAny (model P w) X.A (letOwnedTupleGo tg (.ref it) u) (fun _ s2=>∃ x H',Inv X pins σ H' s2∧RelV x u∧J.yld i H x H'∧tn (i+1) s2.heap∧∀ b∈fp,H' b=none) E s1) E s
  done:∀ (X:Cx),X.prog=P→X.w=w→X.K=K→X.calm=true→∀ (i:Nat) (pins:List (Addr×Obj)) (s:Shared) (σ:St) (H:Hp) (E:Value→Shared→Prop),Inv X pins σ H s→(∀ b∈fp,FpOk X pins H b)→tn i s.heap→J.stop i H→
    wpAny (model P w) X.A (pyNext (.ref it)) (fun r s1=>r=none∧Inv X pins σ H s1) E s
  self:∀ (A:Around) (i:Nat) (s:Shared) (Q:Value→Shared→Prop) (E:Value→Shared→Prop),tn i s.heap→Q (.ref it) s→wpAny (model P w) A (pyIter (.ref it)) Q E s
abbrev TI:=St→Hp→(It→Hp→Prop)→Prop
def PIE (X:Cx) (pins:List (Addr×Obj)) (σ:St) (tg:Expr) (R:It→Hp→Prop) (itv:Value) (s2:Shared):Prop :=
  ∃ (it:Addr) (fp:List Addr) (tn:Nat→Heap→Prop) (J:It) (H':Hp),itv=.ref it∧Inv X pins σ H' s2∧Turn X.prog X.w X.K tg J fp it tn∧tn 0 s2.heap∧(∀ b∈fp,FpOk X pins H' b)∧R J H'
def PI (X:Cx) (tg iter:Expr) (wi:TI):Prop :=
  ∀ (pins:List (Addr×Obj)) (s:Shared) (σ:St) (H:Hp) (R:It→Hp→Prop),Inv X pins σ H s→wi σ H R→
    wpAny (model X.prog X.w) X.A (eval iter X.env) (fun v s1=>wpAny (model X.prog X.w) X.A (pyIter v) (PIE X pins σ tg R) X.xe s1) X.xe s
theorem go_of {M:Model} {A:Around} {E:Value→Shared→Prop} {s:Shared} {tg:Expr} {it:Addr} {u:Value} {o:Obj} {n:String} {vs:Array Value} {Q:Unit→Shared→Prop} (ho:s.heap.get? it=some o) (hc:o.cls=.type n) (hd:o.data=.fields vs)
    (hn:["enumerate","zip","dict_itemiterator","dict_reverseitemiterator","odict_iterator","itertools.zip_longest","itertools.pairwise"].contains n=false) (hQ:Q () s):wpAny M A (letOwnedTupleGo tg (.ref it) u) Q E s:=by
  unfold letOwnedTupleGo
  cases tg <;> first
    | exact wpAny_pure hQ
    | (cases u <;> first
        | exact wpAny_pure hQ
        | (refine wpAny_bind (wpAny_load ho ?_)
           rw [hc,hd]
           show wpAny M A (if (["enumerate","zip","dict_itemiterator","dict_reverseitemiterator","odict_iterator","itertools.zip_longest","itertools.pairwise"].contains n && vs[0]? == some (rawInt _))=true then _ else _) Q E s
           rw [if_neg (by intro h; rw [hn,Bool.false_and] at h; cases h)]
           exact wpAny_pure hQ))
def Itl (K:PySem.W.Frag) (a:Addr):It :=
  ⟨fun i H=>∃ xs x,SqL K H a xs∧xs[i]?=some x,fun i H x H'=>H'=H∧∀ xs,SqL K H a xs→xs[i]?=some x,fun i H=>∃ xs,SqL K H a xs∧xs.length≤i⟩
def Itt (K:PySem.W.Frag) (a:Addr):It :=
  ⟨fun i H=>∃ xs x,SqT K H a xs∧xs[i]?=some x,fun i H x H'=>H'=H∧∀ xs,SqT K H a xs→xs[i]?=some x,fun i H=>∃ xs,SqT K H a xs∧xs.length≤i⟩
def Itr (lo:Int) (n:Nat):It:=⟨fun i _=>i<n,fun i H x H'=>H'=H∧x=.int (lo+i),fun i _=>n≤i⟩
theorem turn_list {P:Program} {w:World} {K:PySem.W.Frag} {tg:Expr} (a it:Addr):Turn P w K tg (Itl K a) [it] it (fun i h=>h.IsListIter it a i) where
  mem:=by simp
  obj:=fun i h st b hb=>by
    have e:b=it:=by simpa using hb
    subst e
    obtain ⟨o,e,c,d⟩:=st
    exact ⟨o,e,fun v z=>by rw [d] at z; cases z⟩
  keep:=fun i h h' st k=>st.at fun o e=>k it (by simp) o e
  item:=by
    intro X hP hw hK hc i pins s σ H E I hf st hg
    subst hP hw hK
    obtain ⟨xs,x,hq,hx⟩:=hg
    obtain ⟨its,rv,p,hz⟩:=I.list hq
    obtain ⟨u,hu,ru⟩:=rv.get hx
    obtain ⟨f0,f1,f2,f3,f4,f5⟩:=hf it (by simp)
    refine wpAny_pyNext_list_item st p.isList (x:=u) (by simpa using hu) fun h' st' sb=>?_
    have I1:Inv X pins σ H { s with heap:=h' }:=I.turned (t':=s.toks) (fun b o hb e=>(sb.2 b hb).trans e) f0 f1 f3 f4 f5
    obtain ⟨o,e,c,d⟩:=id st'
    exact ⟨u,rfl,go_of (s:={ s with heap:=h' }) e c d (by decide) ⟨x,H,I1,ru,⟨rfl,fun ys hy=>by rw [I.list_inj hy hq]; exact hx⟩,st',fun b hb=>(hf b hb).1⟩⟩
  done:=by
    intro X hP hw hK hc i pins s σ H E I hf st hg
    subst hP hw hK
    obtain ⟨xs,hq,hx⟩:=hg
    obtain ⟨its,rv,p,hz⟩:=I.list hq
    obtain ⟨f0,f1,f2,f3,f4,f5⟩:=hf it (by simp)
    have hl:=rv.length
    exact wpAny_pyNext_list_end (I.ok.hd hc) st p.isList (by simp; omega) fun h' eb=>⟨rfl,I.turned (t':=s.toks) (fun b o hb e=>eb b o hb e) f0 f1 f3 f4 f5⟩
  self:=fun _ _ _ _ _ st h=>wpAny_pyIter_listiter st h
theorem turn_tuple {P:Program} {w:World} {K:PySem.W.Frag} {tg:Expr} (a it:Addr):Turn P w K tg (Itt K a) [it] it (fun i h=>h.IsTupleIter it a i) where
  mem:=by simp
  obj:=fun i h st b hb=>by
    have e:b=it:=by simpa using hb
    subst e
    obtain ⟨o,e,c,d⟩:=st
    exact ⟨o,e,fun v z=>by rw [d] at z; cases z⟩
  keep:=fun i h h' st k=>st.at fun o e=>k it (by simp) o e
  item:=by
    intro X hP hw hK hc i pins s σ H E I hf st hg
    subst hP hw hK
    obtain ⟨xs,x,hq,hx⟩:=hg
    obtain ⟨its,rv,p,hz⟩:=I.tuple hq
    obtain ⟨u,hu,ru⟩:=rv.get hx
    obtain ⟨f0,f1,f2,f3,f4,f5⟩:=hf it (by simp)
    refine wpAny_pyNext_tuple_item st (show s.heap.IsTuple a its.toArray from p) (x:=u) (by simpa using hu) fun h' st' sb=>?_
    have I1:Inv X pins σ H { s with heap:=h' }:=I.turned (t':=s.toks) (fun b o hb e=>(sb.2 b hb).trans e) f0 f1 f3 f4 f5
    obtain ⟨o,e,c,d⟩:=id st'
    exact ⟨u,rfl,go_of (s:={ s with heap:=h' }) e c d (by decide) ⟨x,H,I1,ru,⟨rfl,fun ys hy=>by rw [I.tuple_inj hy hq]; exact hx⟩,st',fun b hb=>(hf b hb).1⟩⟩
  done:=by
    intro X hP hw hK hc i pins s σ H E I hf st hg
    subst hP hw hK
    obtain ⟨xs,hq,hx⟩:=hg
    obtain ⟨its,rv,p,hz⟩:=I.tuple hq
    obtain ⟨f0,f1,f2,f3,f4,f5⟩:=hf it (by simp)
    have hl:=rv.length
    exact wpAny_pyNext_tuple_end (I.ok.hd hc) st (show s.heap.IsTuple a its.toArray from p) (by simp; omega) fun h' eb=>⟨rfl,I.turned (t':=s.toks) (fun b o hb e=>eb b o hb e) f0 f1 f3 f4 f5⟩
  self:=fun _ _ _ _ _ st h=>wpAny_pyIter_tupleiter st h
theorem turn_range {P:Program} {w:World} {K:PySem.W.Frag} {tg:Expr} (it:Addr) (lo:Int) (n:Nat):Turn P w K tg (Itr lo n) [it] it (fun i h=>IsRangeIter h it (lo+(i:Nat) * 1) ((n:Int) - (i:Nat)) 1) where
  mem:=by simp
  obj:=fun i h st b hb=>by
    have e:b=it:=by simpa using hb
    subst e
    exact ⟨_,st,fun v z=>by
      have z':Data.fields _=Data.cell v:=z
      cases z'⟩
  keep:=fun i h h' st k=>k it (by simp) _ st
  item:=by
    intro X hP hw hK hc i pins s σ H E I hf st hg
    subst hP hw hK
    obtain ⟨f0,f1,f2,f3,f4,f5⟩:=hf it (by simp)
    have W:=Walks.range (prog:=X.prog) (w:=X.w) (I.ok.hd hc) it lo 1 n
    refine W.item i s _ _ hg st fun v h' tk hv st' kk=>?_
    obtain ⟨t,rfl⟩:=hv
    have I1:Inv X pins σ H { s with heap:=h',toks:=tk }:=I.turned (fun b o hb e=>kk b o (by simpa using hb) e) f0 f1 f3 f4 f5
    refine ⟨_,rfl,go_of (s:={ s with heap:=h',toks:=tk }) (n:="range_iterator") st' rfl rfl (by decide) ⟨.int (lo+i),H,I1,⟨t,?_⟩,⟨rfl,rfl⟩,st',fun b hb=>(hf b hb).1⟩⟩
    rw [Int.mul_one]
  done:=by
    intro X hP hw hK hc i pins s σ H E I hf st hg
    subst hP hw hK
    obtain ⟨f0,f1,f2,f3,f4,f5⟩:=hf it (by simp)
    exact wpAny_pyNext_range_end (I.ok.hd hc) st (by have:n≤i:=hg; omega) fun h' eb=>⟨rfl,I.turned (t':=s.toks) (fun b o hb e=>eb b o hb e) f0 f1 f3 f4 f5⟩
  self:=fun _ _ _ _ _ st h=>wpAny_pyIter_rangeiter st h
end L2
namespace L2
open PySem PySem.Spec PyProof.Rows
section
variable {X:Cx} {tg:Expr}
def iList (K:PySem.W.Frag) (tl:TE):TI:=fun σ H R=>tl σ H fun x H1=>∃ a,x=.ref a∧(∃ xs,SqL K H1 a xs)∧R (Itl K a) H1
def iTup (K:PySem.W.Frag) (tl:TE):TI:=fun σ H R=>tl σ H fun x H1=>∃ a,x=.ref a∧(∃ xs,SqT K H1 a xs)∧R (Itt K a) H1
theorem pi_list {l:Expr} {tl:TE} (hl:PE X l tl):PI X tg l (iList X.K tl):=by
  intro pins s σ H R I h
  refine thn (hl pins s σ H _ I h) fun v s1 ⟨x,H1,I1,r1,q1⟩=>?_
  obtain ⟨a,e,⟨xs,hq⟩,q⟩:=q1
  subst e
  cases r1
  obtain ⟨its,rv,p,hz⟩:=I1.list hq
  refine wpAny_pyIter_list p.isList ?_
  refine ⟨s1.heap.objs.size,[s1.heap.objs.size],_,_,H1,rfl,I1.kept (t':=s1.toks) fun b o e=>Heap.get?_push_of_some _ e,turn_list a _,⟨_,Heap.get?_push_size _ rfl,rfl,rfl⟩,fun b hb=>?_,q⟩
  have e:b=s1.heap.objs.size:=by simpa using hb
  subst e
  exact I1.fpOk (Nat.le_refl _) (I1.hok.fresh (Nat.le_refl _))
theorem pi_tup {l:Expr} {tl:TE} (hl:PE X l tl):PI X tg l (iTup X.K tl):=by
  intro pins s σ H R I h
  refine thn (hl pins s σ H _ I h) fun v s1 ⟨x,H1,I1,r1,q1⟩=>?_
  obtain ⟨a,e,⟨xs,hq⟩,q⟩:=q1
  subst e
  cases r1
  obtain ⟨its,rv,p,hz⟩:=I1.tuple hq
  refine wpAny_pyIter_tuple (show s1.heap.IsTuple a its.toArray from p) ?_
  refine ⟨s1.heap.objs.size,[s1.heap.objs.size],_,_,H1,rfl,I1.kept (t':=s1.toks) fun b o e=>Heap.get?_push_of_some _ e,turn_tuple a _,⟨_,Heap.get?_push_size _ rfl,rfl,rfl⟩,fun b hb=>?_,q⟩
  have e:b=s1.heap.objs.size:=by simpa using hb
  subst e
  exact I1.fpOk (Nat.le_refl _) (I1.hok.fresh (Nat.le_refl _))
theorem range_it {pins:List (Addr×Obj)} {σ:St} {H:Hp} {s:Shared} {R:It→Hp→Prop} {E:Value→Shared→Prop} {lo hi:Int} {t u v:Tok} {tk:Nat} (I:Inv X pins σ H s) (h1:-(2 ^ 62)≤lo) (h2:lo<2 ^ 62) (h3:-(2 ^ 62)≤hi) (h4:hi<2 ^ 62)
    (q:R (Itr lo (hi - lo).toNat) H):wpAny (model X.prog X.w) X.A (pyIter (.ref s.heap.objs.size)) (PIE X pins σ tg R) E { s with heap:=s.heap.push { cls:=.type "range",data:=.fields #[.int lo t,.int hi u,.int 1 v] },toks:=tk }:=by
  refine wpAny_pyIter_range (IsRange.new ..) (small_one h1 h2 h3 h4) ?_
  have I1:Inv X pins σ H { s with heap:=s.heap.push { cls:=.type "range",data:=.fields #[.int lo t,.int hi u,.int 1 v] },toks:=tk }:=I.kept fun b o e=>Heap.get?_push_of_some _ e
  refine ⟨(s.heap.push { cls:=.type "range",data:=.fields #[.int lo t,.int hi u,.int 1 v] }).objs.size,[(s.heap.push { cls:=.type "range",data:=.fields #[.int lo t,.int hi u,.int 1 v] }).objs.size],_,_,H,rfl,
    I1.kept (t':=tk) fun b o e=>Heap.get?_push_of_some _ e,turn_range _ lo (hi - lo).toNat,?_,fun b hb=>?_,q⟩
  · have e1:lo+((0:Nat):Int) * 1=lo:=by simp
    have e2:(((hi - lo).toNat:Nat):Int) - ((0:Nat):Int)=Builtin.Range.rangeSize lo hi 1:=by rw [rangeSize_one]; split <;> omega
    show IsRangeIter _ _ (lo+((0:Nat):Int) * 1) ((((hi - lo).toNat:Nat):Int) - ((0:Nat):Int)) 1
    rw [e1,e2]
    exact Heap.get?_push_size _ rfl
  · have e:b=(s.heap.push { cls:=.type "range",data:=.fields #[.int lo t,.int hi u,.int 1 v] }).objs.size:=by simpa using hb
    subst e
    exact I1.fpOk (Nat.le_refl _) (I1.hok.fresh (Nat.le_refl _))
def iRng1 (ta:TA):TI:=fun σ H R=>ta σ H fun vs H1=>∃ j:Int,vs=[.int j]∧-(2 ^ 62)≤j∧j<2 ^ 62∧R (Itr 0 j.toNat) H1
def iRng2 (ta:TA):TI:=fun σ H R=>ta σ H fun vs H1=>∃ i j:Int,vs=[.int i,.int j]∧(-(2 ^ 62)≤i∧i<2 ^ 62∧-(2 ^ 62)≤j∧j<2 ^ 62)∧R (Itr i (j - i).toNat) H1
theorem pi_range1 {a:Expr} {ta:TA} {p pos:Pos} (hg:Gl X "range") (hm:X.mg "range"=none) (ha:PA X [a] ta) (hs:starEach [a] X.env=[(false,eval a X.env)]:=by rfl):PI X tg (.Call (.Name "range" p) [a] [] pos) (iRng1 ta):=by
  intro pins s σ H R I h
  refine Call_ (ld_blt I hg hm boot_range (PyProof.Rows.callWith_type1 (thn (ha pos pins s σ H _ I h) fun us s1 ⟨vs,H1,I1,r1,q1⟩=>?_) hs rfl))
  obtain ⟨j,e,q1,q2,q⟩:=q1
  subst e
  cases r1 with
  | cons r rr =>
    cases rr
    obtain ⟨t,rfl⟩:=r
    exact call_range_1 (range_it I1 (by omega) (by omega) q1 q2 (by simpa using q))
theorem pi_range2 {a b:Expr} {ta:TA} {p pos:Pos} (hg:Gl X "range") (hm:X.mg "range"=none) (ha:PA X [a,b] ta) (hs:starEach [a,b] X.env=[(false,eval a X.env),(false,eval b X.env)]:=by rfl) (hs2:starEach [b] X.env=[(false,eval b X.env)]:=by rfl) :
    PI X tg (.Call (.Name "range" p) [a,b] [] pos) (iRng2 ta):=by
  intro pins s σ H R I h
  refine Call_ (ld_blt I hg hm boot_range (PyProof.Rows.callWith_type1 (thn (ha pos pins s σ H _ I h) fun us s1 ⟨vs,H1,I1,r1,q1⟩=>?_) (by rw [hs,hs2]) (by rw [hs2]; rfl)))
  obtain ⟨i,j,e,⟨q1,q2,q3,q4⟩,q⟩:=q1
  subst e
  cases r1 with
  | cons r rr =>
    cases rr with
    | cons r' rr =>
      cases rr
      obtain ⟨t,rfl⟩:=r
      obtain ⟨t',rfl⟩:=r'
      exact call_range_2 (range_it I1 q1 q2 q3 q4 q)
def tFor (wi:TI) (g:TG) (tb:TS):TS:=fun D σ H=>wi σ H fun J H1=>∃ W:Nat→Nat→St→Hp→Prop,(∃ m,W 0 m σ H1)∧∀ i m σ H,W i m σ H→
  (J.stop i H∧D.nx σ H)∨(J.go i H∧∃ N:St→Hp→Prop,(∀ σ' H',N σ' H'→∃ m',m'<m∧W (i+1) m' σ' H')∧∀ x H',J.yld i H x H'→g x σ H' fun σ2 H2=>tb { D with nx:=N,ct:=N,bk:=D.nx } σ2 H2)
def pinsAt (fp:List Addr) (h:Heap):List (Addr×Obj):=fp.filterMap fun b=>(h.get? b).map fun o=>(b,o)
theorem mem_pinsAt {fp:List Addr} {h:Heap} {b:Addr} {o:Obj} (hb:b∈fp) (e:h.get? b=some o):(b,o)∈pinsAt fp h:=List.mem_filterMap.mpr ⟨b,hb,by rw [e]; rfl⟩
theorem of_pinsAt {fp:List Addr} {h:Heap} {p:Addr×Obj} (hp:p∈pinsAt fp h):p.1∈fp∧h.get? p.1=some p.2:=by
  obtain ⟨b,hb,e⟩:=List.mem_filterMap.mp hp
  cases q:h.get? b with
  | none=>rw [q] at e; cases e
  | some o =>
    rw [q] at e
    have e':(b,o)=p:=Option.some.inj e
    subst e'
    exact ⟨hb,q⟩
theorem Inv.pinned {pins:List (Addr×Obj)} {σ:St} {H:Hp} {s:Shared} {fp:List Addr} (I:Inv X pins σ H s) (hf:∀ b∈fp,FpOk X pins H b) (ho:∀ b∈fp,∃ o,s.heap.get? b=some o∧∀ v,o.data≠.cell v):Inv X (pins++pinsAt fp s.heap) σ H s :=
  I.pins_of fun p hp=>(List.mem_append.mp hp).elim (fun z=>I.pin p (List.mem_append_right _ z)) fun z=>by
    obtain ⟨hb,e⟩:=of_pinsAt z
    obtain ⟨f0,f1,f2,_⟩:=hf p.1 hb
    obtain ⟨o,e',d⟩:=ho p.1 hb
    rw [e] at e'; cases e'
    exact ⟨e,f0,f1,f2,d⟩
theorem Inv.unpinned {pins pl:List (Addr×Obj)} {σ:St} {H:Hp} {s:Shared} (I:Inv X (pins++pl) σ H s):Inv X pins σ H s:=I.pins_of fun p hp=>I.pin p (List.mem_append_right _ (List.mem_append_left _ hp))
theorem ps_for {iter:Expr} {body:List Stmt} {wi:TI} {g:TG} {tb:TS} {pos:Pos} (hp:PassesOwn (model X.prog X.w) X.A X.env X.xe) (hc:X.calm=true) (hi:PI X tg iter wi) (hg:PG X tg g) (hb:PSs X body tb)
    (hs:∀ x,foldedSetIterable iter X.env x=pure x:=by intro _; rfl):PS X (.For tg iter body [] pos) (tFor wi g tb):=by
  intro pins s σ H D I h
  refine wpAny_For (thn (hi pins s σ H _ I h) fun v s1 h1=>thn h1 fun itv s2 h2=>?_) hs
  obtain ⟨it,fp,tn,J,H2,e,I2,T,st2,f2,W,⟨m0,w0⟩,turn⟩:=h2
  subst e
  have stat:∀ {H':Hp},(∀ b∈fp,H' b=none)→∀ b∈fp,FpOk X pins H' b:=fun hn b hb=>⟨hn b hb,(f2 b hb).2⟩
  refine codeAny_forLoop_any (fun n s'=>∃ i σ' H',Inv X pins σ' H' s'∧tn i s'.heap∧(∀ b∈fp,H' b=none)∧W i n σ' H') ?_ m0 ⟨0,σ,H2,I2,st2,fun b hb=>(f2 b hb).1,w0⟩
  rintro n s3 ⟨i,σ3,H3,I3,st3,fr3,w3⟩
  rcases turn i n σ3 H3 w3 with ⟨stop,qn⟩ | ⟨go,N,hN,step⟩
  · refine wpAny_passesOwn hp (thn (T.done X rfl rfl rfl hc i pins s3 σ3 H3 X.xe I3 (stat fr3) st3 stop) fun r s4 ⟨hr,I4⟩=>?_)
    subst hr
    exact wpAny_execs_nil ⟨σ3,H3,I4,qn⟩
  · refine wpAny_passesOwn hp (thn (T.item X rfl rfl rfl hc i pins s3 σ3 H3 X.xe I3 (stat fr3) st3 go) fun r s4 ⟨u,hr,h4⟩=>?_)
    subst hr
    refine wpAny_passesOwn hp (thn h4 fun _ s5 ⟨x,H5,I5,r5,y5,st5,fr5⟩=>?_)
    have I5':=I5.pinned (stat fr5) (T.obj _ _ st5)
    refine wpAny_passesOwn hp (thn (hg _ s5 σ3 H5 x u _ I5' r5 (step x H5 y5)) fun _ s6 ⟨σ6,H6,I6,q6⟩=>?_)
    refine wpAny_passesOwn hp (thn (hb _ s6 σ6 H6 _ I6 q6) fun f s7 q7=>?_)
    have again:∀ {σ7:St} {H7:Hp},Inv X (pins++pinsAt fp s5.heap) σ7 H7 s7→N σ7 H7→∃ m,m<n∧∃ i σ' H',Inv X pins σ' H' s7∧tn i s7.heap∧(∀ b∈fp,H' b=none)∧W i m σ' H':=fun {σ7 H7} I7 n7=>by
      obtain ⟨m',hm,w7⟩:=hN σ7 H7 n7
      refine ⟨m',hm,i+1,σ7,H7,I7.unpinned,T.keep _ _ _ st5 fun b hb o e=>(I7.pin (b,o) (List.mem_append_right _ (List.mem_append_right _ (mem_pinsAt hb e)))).1,fun b hb=>?_,w7⟩
      obtain ⟨o,e,d⟩:=T.obj _ _ st5 b hb
      exact (I7.pin (b,o) (List.mem_append_right _ (List.mem_append_right _ (mem_pinsAt hb e)))).2.1
    cases f with
    | next=>obtain ⟨σ7,H7,I7,n7⟩:=q7; exact again I7 n7
    | cont=>obtain ⟨σ7,H7,I7,n7⟩:=q7; exact again I7 n7
    | brk=>obtain ⟨σ7,H7,I7,q7⟩:=q7; exact ⟨σ7,H7,I7.unpinned,q7⟩
    | ret v=>obtain ⟨x7,σ7,H7,I7,r7,q7⟩:=q7; exact ⟨x7,σ7,H7,I7.unpinned,r7,q7⟩
end
theorem for_list {K:PySem.W.Frag} {a:Addr} {xs:List V} {g:TG} {tb:TS} {D:Ends} {σ:St} {H:Hp} (Pv:Nat→St→Hp→Prop) (h0:Pv 0 σ H) (hl:∀ i σ H,i≤xs.length→Pv i σ H→SqL K H a xs)
    (hs:∀ i x σ H,xs[i]?=some x→Pv i σ H→g x σ H fun σ2 H2=>tb { D with nx:=Pv (i+1),ct:=Pv (i+1),bk:=D.nx } σ2 H2) (hd:∀ σ H,Pv xs.length σ H→D.nx σ H) :
    ∃ W:Nat→Nat→St→Hp→Prop,(∃ m,W 0 m σ H)∧∀ i m σ H,W i m σ H→
      ((Itl K a).stop i H∧D.nx σ H)∨((Itl K a).go i H∧∃ N:St→Hp→Prop,(∀ σ' H',N σ' H'→∃ m',m'<m∧W (i+1) m' σ' H')∧∀ x H',(Itl K a).yld i H x H'→g x σ H' fun σ2 H2=>tb { D with nx:=N,ct:=N,bk:=D.nx } σ2 H2):=by
  refine ⟨fun i m σ H=>m=xs.length - i∧i≤xs.length∧Pv i σ H,⟨xs.length,by simp,Nat.zero_le _,h0⟩,?_⟩
  rintro i m σ H ⟨rfl,hi,p⟩
  have q:=hl i σ H hi p
  by_cases hlt:i<xs.length
  · refine .inr ⟨⟨xs,xs[i],q,by simp [hlt]⟩,Pv (i+1),fun σ' H' p'=>⟨xs.length - (i+1),by omega,rfl,hlt,p'⟩,fun x H' y=>?_⟩
    obtain ⟨e,y⟩:=y
    subst e
    exact hs i x σ _ (y xs q) p
  · have e:i=xs.length:=by omega
    subst e
    exact .inl ⟨⟨xs,q,Nat.le_refl _⟩,hd σ H p⟩
theorem for_tup {K:PySem.W.Frag} {a:Addr} {xs:List V} {g:TG} {tb:TS} {D:Ends} {σ:St} {H:Hp} (Pv:Nat→St→Hp→Prop) (h0:Pv 0 σ H) (hl:∀ i σ H,i≤xs.length→Pv i σ H→SqT K H a xs)
    (hs:∀ i x σ H,xs[i]?=some x→Pv i σ H→g x σ H fun σ2 H2=>tb { D with nx:=Pv (i+1),ct:=Pv (i+1),bk:=D.nx } σ2 H2) (hd:∀ σ H,Pv xs.length σ H→D.nx σ H) :
    ∃ W:Nat→Nat→St→Hp→Prop,(∃ m,W 0 m σ H)∧∀ i m σ H,W i m σ H→
      ((Itt K a).stop i H∧D.nx σ H)∨((Itt K a).go i H∧∃ N:St→Hp→Prop,(∀ σ' H',N σ' H'→∃ m',m'<m∧W (i+1) m' σ' H')∧∀ x H',(Itt K a).yld i H x H'→g x σ H' fun σ2 H2=>tb { D with nx:=N,ct:=N,bk:=D.nx } σ2 H2):=by
  refine ⟨fun i m σ H=>m=xs.length - i∧i≤xs.length∧Pv i σ H,⟨xs.length,by simp,Nat.zero_le _,h0⟩,?_⟩
  rintro i m σ H ⟨rfl,hi,p⟩
  have q:=hl i σ H hi p
  by_cases hlt:i<xs.length
  · refine .inr ⟨⟨xs,xs[i],q,by simp [hlt]⟩,Pv (i+1),fun σ' H' p'=>⟨xs.length - (i+1),by omega,rfl,hlt,p'⟩,fun x H' y=>?_⟩
    obtain ⟨e,y⟩:=y
    subst e
    exact hs i x σ _ (y xs q) p
  · have e:i=xs.length:=by omega
    subst e
    exact .inl ⟨⟨xs,q,Nat.le_refl _⟩,hd σ H p⟩
theorem for_range {lo:Int} {n:Nat} {g:TG} {tb:TS} {D:Ends} {σ:St} {H:Hp} (Pv:Nat→St→Hp→Prop) (h0:Pv 0 σ H)
    (hs:∀ i σ H,i<n→Pv i σ H→g (.int (lo+i)) σ H fun σ2 H2=>tb { D with nx:=Pv (i+1),ct:=Pv (i+1),bk:=D.nx } σ2 H2) (hd:∀ σ H,Pv n σ H→D.nx σ H) :
    ∃ W:Nat→Nat→St→Hp→Prop,(∃ m,W 0 m σ H)∧∀ i m σ H,W i m σ H→
      ((Itr lo n).stop i H∧D.nx σ H)∨((Itr lo n).go i H∧∃ N:St→Hp→Prop,(∀ σ' H',N σ' H'→∃ m',m'<m∧W (i+1) m' σ' H')∧∀ x H',(Itr lo n).yld i H x H'→g x σ H' fun σ2 H2=>tb { D with nx:=N,ct:=N,bk:=D.nx } σ2 H2):=by
  refine ⟨fun i m σ H=>m=n - i∧i≤n∧Pv i σ H,⟨n,by simp,Nat.zero_le _,h0⟩,?_⟩
  rintro i m σ H ⟨rfl,hi,p⟩
  by_cases hlt:i<n
  · refine .inr ⟨hlt,Pv (i+1),fun σ' H' p'=>⟨n - (i+1),by omega,rfl,hlt,p'⟩,fun x H' y=>?_⟩
    obtain ⟨e,y⟩:=y
    subst e y
    exact hs i σ _ hlt p
  · have e:i=n:=by omega
    subst e
    exact .inl ⟨Nat.le_refl _,hd σ H p⟩
theorem while_by {c:TT} {tb:TS} {D:Ends} {σ:St} {H:Hp} (Pv:St→Hp→Prop) (μ:St→Hp→Nat) (h0:Pv σ H)
    (hs:∀ σ H,Pv σ H→c σ H fun b H1=>if b=true then tb { D with nx:=fun σ' H'=>Pv σ' H'∧μ σ' H'<μ σ H,ct:=fun σ' H'=>Pv σ' H'∧μ σ' H'<μ σ H,bk:=D.nx } σ H1 else D.nx σ H1)
    (mono:∀ σ H Q Q',(∀ b H1,Q b H1→Q' b H1)→c σ H Q→c σ H Q'):tWhile c tb D σ H:=by
  refine ⟨fun m σ H=>m=μ σ H∧Pv σ H,⟨_,rfl,h0⟩,?_⟩
  rintro m σ H ⟨rfl,p⟩
  refine mono σ H _ _ (fun b H1 q=>?_) (hs σ H p)
  cases b with
  | true=>exact ⟨_,fun σ' H' ⟨p',l⟩=>⟨_,l,rfl,p'⟩,q⟩
  | false=>exact q
end L2
namespace L2
open PySem PySem.Spec PyProof.Rows
abbrev R2:=V→V→Hp→VK→Prop
def OpR (X:Cx) (f:Value→Value→Sem Value) (r:R2):Prop :=
  ∀ (pins:List (Addr×Obj)) (s:Shared) (σ:St) (H:Hp) (x y:V) (v u:Value) (Q:VK),Inv X pins σ H s→RelV x v→RelV y u→r x y H Q→
    wpAny (model X.prog X.w) X.A (f v u) (EP X pins σ Q) X.xe s
def UnR (X:Cx) (f:Value→Sem Value) (r:V→Hp→VK→Prop):Prop :=
  ∀ (pins:List (Addr×Obj)) (s:Shared) (σ:St) (H:Hp) (x:V) (v:Value) (Q:VK),Inv X pins σ H s→RelV x v→r x H Q→
    wpAny (model X.prog X.w) X.A (f v) (EP X pins σ Q) X.xe s
def CallR (X:Cx) (f:Value) (r:List V→Hp→VK→Prop):Prop :=
  ∀ (pins:List (Addr×Obj)) (s:Shared) (σ:St) (H:Hp) (xs:List V) (us:List Value) (Q:VK),Inv X pins σ H s→Vals xs us→r xs H Q→
    wpAny (model X.prog X.w) X.A (call f us) (EP X pins σ Q) X.xe s
def TruR (X:Cx) (r:V→Hp→(Bool→Hp→Prop)→Prop):Prop :=
  ∀ (pins:List (Addr×Obj)) (s:Shared) (σ:St) (H:Hp) (x:V) (v:Value) (Q:Bool→Hp→Prop),Inv X pins σ H s→RelV x v→r x H Q→
    wpAny (model X.prog X.w) X.A (truthy v) (TP X pins σ Q) X.xe s
def tOp (r:R2) (ta tb:TE):TE:=fun σ H Q=>ta σ H fun x H1=>tb σ H1 fun y H2=>r x y H2 Q
def tUn (r:V→Hp→VK→Prop) (ta:TE):TE:=fun σ H Q=>ta σ H fun x H1=>r x H1 Q
def rI (C:Int→Int→Prop) (g:Int→Int→V):R2:=fun x y H Q=>∃ i j,x=.int i∧y=.int j∧C i j∧Q (g i j) H
def rI0 (g:Int→Int→V):R2:=fun x y H Q=>∃ i j,x=.int i∧y=.int j∧Q (g i j) H
def rU (g:Int→V):V→Hp→VK→Prop:=fun x H Q=>∃ i,x=.int i∧Q (g i) H
section
variable {X:Cx} {a b c:Expr} {ta tb tc:TE} {pos:Pos}
theorem binT (ha:PE X a ta) (hb:PE X b tb) {pins:List (Addr×Obj)} {s:Shared} {σ:St} {H:Hp} {R:V→V→Hp→Prop} (I:Inv X pins σ H s)
    (h:ta σ H fun x H1=>tb σ H1 fun y H2=>R x y H2) {Q:Value→Shared→Prop} {f:Value→Value→Sem Value}
    (hf:∀ v u s2 x y H2,Inv X pins σ H2 s2→RelV x v→RelV y u→R x y H2→wpAny (model X.prog X.w) X.A (f v u) Q X.xe s2) :
    wpAny (model X.prog X.w) X.A (eval a X.env) (fun v s₁=>wpAny (model X.prog X.w) X.A (eval b X.env) (fun u s₂=>wpAny (model X.prog X.w) X.A (f v u) Q X.xe s₂) X.xe s₁) X.xe s:=by
  refine thn (ha pins s σ H _ I h) fun v s1 ⟨x,H1,I1,r1,q1⟩=>?_
  refine thn (hb pins s1 σ H1 _ I1 q1) fun u s2 ⟨y,H2,I2,r2,q2⟩=>?_
  exact hf v u s2 x y H2 I2 r1 r2 q2
theorem pe_op {op:Operator} {r:R2} (ho:OpR X (binaryOp op) r) (ha:PE X a ta) (hb:PE X b tb):PE X (.BinOp a op b pos) (tOp r ta tb):=by
  intro pins s σ H Q I h
  exact wpAny_BinOp (binT ha hb I h fun v u s2 x y H2 I2 rx ry q=>ho pins s2 σ H2 x y v u Q I2 rx ry q)
theorem pe_un {op:UnaryOp} {r:V→Hp→VK→Prop} (ho:UnR X (unaryOp op) r) (ha:PE X a ta):PE X (.UnaryOp op a pos) (tUn r ta):=by
  intro pins s σ H Q I h
  exact UnaryOp_ (thn (ha pins s σ H _ I h) fun v s1 ⟨x,H1,I1,r1,q1⟩=>ho pins s1 σ H1 x v Q I1 r1 q1)
theorem opI {f:Value→Value→Sem Value} {C:Int→Int→Prop} {g:Int→Int→Int}
    (rule:∀ (i j:Int) (t u:Tok) (s:Shared) (Q:Value→Shared→Prop) (E:Value→Shared→Prop),C i j→Q (.int (g i j) s.toks) { s with toks:=s.toks+1 }→wpAny (model X.prog X.w) X.A (f (.int i t) (.int j u)) Q E s) :
    OpR X f (rI C fun i j=>.int (g i j)):=by
  intro pins s σ H x y v u Q I rx ry h
  obtain ⟨i,j,rfl,rfl,hc,q⟩:=h
  obtain ⟨t,rfl⟩:=rx
  obtain ⟨t',rfl⟩:=ry
  exact rule i j t t' s _ _ hc ⟨.int (g i j),H,I.tok _,⟨_,rfl⟩,q⟩
theorem opI0 {f:Value→Value→Sem Value} {g:Int→Int→Int}
    (rule:∀ (i j:Int) (t u:Tok) (s:Shared) (Q:Value→Shared→Prop) (E:Value→Shared→Prop),Q (.int (g i j) s.toks) { s with toks:=s.toks+1 }→wpAny (model X.prog X.w) X.A (f (.int i t) (.int j u)) Q E s) :
    OpR X f (rI0 fun i j=>.int (g i j)):=by
  intro pins s σ H x y v u Q I rx ry h
  obtain ⟨i,j,rfl,rfl,q⟩:=h
  obtain ⟨t,rfl⟩:=rx
  obtain ⟨t',rfl⟩:=ry
  exact rule i j t t' s _ _ ⟨.int (g i j),H,I.tok _,⟨_,rfl⟩,q⟩
theorem opB0 {f:Value→Value→Sem Value} {g:Int→Int→Bool}
    (rule:∀ (i j:Int) (t u:Tok) (s:Shared) (Q:Value→Shared→Prop) (E:Value→Shared→Prop),Q (.bool (g i j)) s→wpAny (model X.prog X.w) X.A (f (.int i t) (.int j u)) Q E s) :
    OpR X f (rI0 fun i j=>.bl (g i j)):=by
  intro pins s σ H x y v u Q I rx ry h
  obtain ⟨i,j,rfl,rfl,q⟩:=h
  obtain ⟨t,rfl⟩:=rx
  obtain ⟨t',rfl⟩:=ry
  exact rule i j t t' s _ _ ⟨.bl (g i j),H,I,rfl,q⟩
def CDiv (i j:Int):Prop:=0<j∧j<1073741824
def CDivN (i j:Int):Prop:=j≠0∧j.natAbs<1073741824
def CPow (i j:Int):Prop:=0≤j∧j≤1000000∧i.natAbs<2 ^ 64
def CMul (i j:Int):Prop:=(-(2 ^ 64)<i∧i<2 ^ 64)∨(-(2 ^ 64)<j∧j<2 ^ 64)
theorem CMul.ok {i j:Int} (h:CMul i j):IntMulOk i j:=by
  rcases h with ⟨h1,h2⟩ | ⟨h1,h2⟩
  · exact .of_left (intBits_le_64 h1 h2)
  · exact .of_right (intBits_le_64 h1 h2)
theorem op_add:OpR X (binaryOp .Add) (rI0 fun i j=>.int (i+j)):=opI0 fun _ _ _ _ _ _ _ q=>add_int q
theorem op_sub:OpR X (binaryOp .Sub) (rI0 fun i j=>.int (i - j)):=opI0 fun _ _ _ _ _ _ _ q=>sub_int q
theorem op_mul:OpR X (binaryOp .Mult) (rI CMul fun i j=>.int (i * j)):=opI fun _ _ _ _ _ _ _ hc q=>mul_int q hc.ok
theorem op_fdiv:OpR X (binaryOp .FloorDiv) (rI CDiv fun i j=>.int (i / j)):=opI fun i j _ _ _ _ _ hc q=>by
  have h1:(0:Int)<j:=hc.1
  have h2:j<1073741824:=hc.2
  exact floordiv_int (by omega) (by rw [Int.fdiv_eq_ediv_of_nonneg i (by omega)]; exact q) (.inl (PyProof.noPylong_small (by omega)))
theorem op_mod:OpR X (binaryOp .Mod) (rI (fun _ j=>0<j) fun i j=>.int (i % j)):=opI fun i j _ _ _ _ _ hc q=>by
  have h1:(0:Int)<j:=hc
  exact mod_int' (by omega) (by rw [Int.fmod_eq_emod_of_nonneg i (by omega)]; exact q)
theorem unI {f:Value→Sem Value} {g:Int→Int}
    (rule:∀ (i:Int) (t:Tok) (s:Shared) (Q:Value→Shared→Prop) (E:Value→Shared→Prop),Q (.int (g i) s.toks) { s with toks:=s.toks+1 }→wpAny (model X.prog X.w) X.A (f (.int i t)) Q E s) :
    UnR X f (rU fun i=>.int (g i)):=by
  intro pins s σ H x v Q I rx h
  obtain ⟨i,rfl,q⟩:=h
  obtain ⟨t,rfl⟩:=rx
  exact rule i t s _ _ ⟨.int (g i),H,I.tok _,⟨_,rfl⟩,q⟩
theorem un_neg:UnR X (unaryOp .USub) (rU fun i=>.int (-i)):=unI fun _ _ _ _ _ q=>neg_int q
end
def scal:V→V→Bool
  | .non,.non=>true | .non,.int _=>true | .int _,.non=>true | .non,.bl _=>true | .bl _,.non=>true | .non,.str _=>true | .str _,.non=>true
  | .int _,.int _=>true | .bl _,.bl _=>true | .str _,.str _=>true | .byt _,.byt _=>true
  | .int _,.str _=>true | .str _,.int _=>true | .bl _,.str _=>true | .str _,.bl _=>true
  | _,_=>false
def rEq:R2:=fun x y H Q=>scal x y=true∧Q (.bl (decide (x=y))) H
def rNe:R2:=fun x y H Q=>scal x y=true∧Q (.bl (!decide (x=y))) H
theorem dec_int {i j:Int}:decide (V.int i=V.int j)=(i == j):=by
  rw [Bool.eq_iff_iff]
  simp
theorem dec_bl {i j:Bool}:decide (V.bl i=V.bl j)=(i == j):=by
  rw [Bool.eq_iff_iff]
  simp
theorem dec_str {i j:Str}:decide (V.str i=V.str j)=(i == j):=by
  rw [Bool.eq_iff_iff]
  simp
theorem dec_byt {i j:Array UInt8}:decide (V.byt i=V.byt j)=(i.toList == j.toList):=by
  rw [Bool.eq_iff_iff]
  cases i
  cases j
  simp
section
variable {X:Cx} {a b c:Expr} {ta tb tc:TE} {pos:Pos}
theorem fin_bl {pins:List (Addr×Obj)} {σ:St} {H:Hp} {s:Shared} {Q:VK} {k k':Bool} (I:Inv X pins σ H s) (q:Q (.bl k) H) (e:k=k'):EP X pins σ Q (.bool k') s:=by
  subst e
  exact ⟨.bl k,H,I,rfl,q⟩
theorem op_eq:OpR X (compareOp .Eq) rEq:=by
  intro pins s σ H x y v u Q I rx ry h
  obtain ⟨hs,q⟩:=h
  cases x with
  | non =>
    cases rx
    cases y with
    | non=>cases ry; exact PySem.EqNone.eq_none_none (fin_bl I q (by simp))
    | bl j=>cases ry; exact PySem.EqNone.eq_none_bool (fin_bl I q (by simp))
    | int j=>obtain ⟨t',rfl⟩:=ry; exact PySem.EqNone.eq_none_int (fin_bl I q (by simp))
    | str j=>obtain ⟨t',rfl⟩:=ry; exact PySem.EqNone.eq_none_str (fin_bl I q (by simp))
    | _=>exact absurd (show false=true from hs) Bool.false_ne_true
  | bl i =>
    cases rx
    cases y with
    | non=>cases ry; exact PySem.EqNone.eq_bool_none (fin_bl I q (by simp))
    | bl j=>cases ry; exact eq_bool (fin_bl I q dec_bl)
    | str j=>obtain ⟨t',rfl⟩:=ry; exact PySem.EqMixed.eq_bool_str (fin_bl I q (by simp))
    | _=>exact absurd (show false=true from hs) Bool.false_ne_true
  | int i =>
    obtain ⟨t,rfl⟩:=rx
    cases y with
    | non=>cases ry; exact PySem.EqNone.eq_int_none (fin_bl I q (by simp))
    | int j=>obtain ⟨t',rfl⟩:=ry; exact eq_int (fin_bl I q dec_int)
    | str j=>obtain ⟨t',rfl⟩:=ry; exact PySem.EqMixed.eq_int_str (fin_bl I q (by simp))
    | _=>exact absurd (show false=true from hs) Bool.false_ne_true
  | str i =>
    obtain ⟨t,rfl⟩:=rx
    cases y with
    | non=>cases ry; exact PySem.EqNone.eq_str_none (fin_bl I q (by simp))
    | bl j=>cases ry; exact PySem.EqMixed.eq_str_bool (fin_bl I q (by simp))
    | int j=>obtain ⟨t',rfl⟩:=ry; exact PySem.EqMixed.eq_str_int (fin_bl I q (by simp))
    | str j=>obtain ⟨t',rfl⟩:=ry; exact eq_str (fin_bl I q dec_str)
    | _=>exact absurd (show false=true from hs) Bool.false_ne_true
  | byt i =>
    obtain ⟨t,rfl⟩:=rx
    cases y with
    | byt j=>obtain ⟨t',rfl⟩:=ry; exact PySem.W.eq_bytes (fin_bl I q dec_byt)
    | _=>exact absurd (show false=true from hs) Bool.false_ne_true
  | _=>cases y <;> exact absurd (show false=true from hs) Bool.false_ne_true
theorem op_ne:OpR X (compareOp .NotEq) rNe:=by
  intro pins s σ H x y v u Q I rx ry h
  obtain ⟨hs,q⟩:=h
  cases x with
  | non =>
    cases rx
    cases y with
    | non=>cases ry; exact PySem.EqNone.ne_none_none (fin_bl I q (by simp))
    | bl j=>cases ry; exact PySem.EqNone.ne_none_bool (fin_bl I q (by simp))
    | int j=>obtain ⟨t',rfl⟩:=ry; exact PySem.EqNone.ne_none_int (fin_bl I q (by simp))
    | str j=>obtain ⟨t',rfl⟩:=ry; exact PySem.EqNone.ne_none_str (fin_bl I q (by simp))
    | _=>exact absurd (show false=true from hs) Bool.false_ne_true
  | bl i =>
    cases rx
    cases y with
    | non=>cases ry; exact PySem.EqNone.ne_bool_none (fin_bl I q (by simp))
    | bl j=>cases ry; exact ne_bool (fin_bl I q (congrArg not dec_bl))
    | str j=>obtain ⟨t',rfl⟩:=ry; exact PySem.EqMixed.ne_bool_str (fin_bl I q (by simp))
    | _=>exact absurd (show false=true from hs) Bool.false_ne_true
  | int i =>
    obtain ⟨t,rfl⟩:=rx
    cases y with
    | non=>cases ry; exact PySem.EqNone.ne_int_none (fin_bl I q (by simp))
    | int j=>obtain ⟨t',rfl⟩:=ry; exact ne_int (fin_bl I q (congrArg not dec_int))
    | str j=>obtain ⟨t',rfl⟩:=ry; exact PySem.EqMixed.ne_int_str (fin_bl I q (by simp))
    | _=>exact absurd (show false=true from hs) Bool.false_ne_true
  | str i =>
    obtain ⟨t,rfl⟩:=rx
    cases y with
    | non=>cases ry; exact PySem.EqNone.ne_str_none (fin_bl I q (by simp))
    | bl j=>cases ry; exact PySem.EqMixed.ne_str_bool (fin_bl I q (by simp))
    | int j=>obtain ⟨t',rfl⟩:=ry; exact PySem.EqMixed.ne_str_int (fin_bl I q (by simp))
    | str j=>obtain ⟨t',rfl⟩:=ry; exact ne_str (fin_bl I q (congrArg not dec_str))
    | _=>exact absurd (show false=true from hs) Bool.false_ne_true
  | byt i =>
    obtain ⟨t,rfl⟩:=rx
    cases y with
    | byt j=>obtain ⟨t',rfl⟩:=ry; exact PySem.W.ne_bytes (fin_bl I q (congrArg not dec_byt))
    | _=>exact absurd (show false=true from hs) Bool.false_ne_true
  | _=>cases y <;> exact absurd (show false=true from hs) Bool.false_ne_true
theorem op_lt:OpR X (compareOp .Lt) (rI0 fun i j=>.bl (decide (i<j))):=opB0 fun _ _ _ _ _ _ _ q=>lt_int q
theorem op_le:OpR X (compareOp .LtE) (rI0 fun i j=>.bl (decide (i≤j))):=opB0 fun _ _ _ _ _ _ _ q=>le_int q
theorem op_gt:OpR X (compareOp .Gt) (rI0 fun i j=>.bl (decide (j<i))):=opB0 fun _ _ _ _ _ _ _ q=>gt_int q
theorem op_ge:OpR X (compareOp .GtE) (rI0 fun i j=>.bl (decide (j≤i))):=opB0 fun _ _ _ _ _ _ _ q=>ge_int q
theorem op_isN:OpR X (compareOp .Is) (fun x y H Q=>y=.non∧Q (.bl (decide (x=.non))) H):=by
  intro pins s σ H x y v u Q I rx ry h
  obtain ⟨rfl,q⟩:=h
  cases ry
  refine is_none_gen (fin_bl I q ?_)
  cases x <;> first
    | (cases rx; rfl)
    | (obtain ⟨t,rfl⟩:=rx; rfl)
theorem op_notN:OpR X (compareOp .IsNot) (fun x y H Q=>y=.non∧Q (.bl (!decide (x=.non))) H):=by
  intro pins s σ H x y v u Q I rx ry h
  obtain ⟨rfl,q⟩:=h
  cases ry
  refine isnot_none_gen (fin_bl I q ?_)
  cases x <;> first
    | (cases rx; rfl)
    | (obtain ⟨t,rfl⟩:=rx; rfl)
def isObj:HO→Bool
  | .lst _=>true
  | .ins _ _ _=>true
  | _=>false
theorem nomark (b:Expr) {op:CmpOp} (h:op≠.In:=by decide) (h2:op≠.NotIn:=by decide):behindInMarks op b=false:=by
  have e1:(op == CmpOp.In)=false:=by cases op <;> first | rfl | exact absurd rfl h
  have e2:(op == CmpOp.NotIn)=false:=by cases op <;> first | rfl | exact absurd rfl h2
  cases b <;> simp [behindInMarks,e1,e2]
theorem pe_cmpR {op:CmpOp} {r:R2} (ho:OpR X (compareOp op) r) (ha:PE X a ta) (hb:PE X b tb) (hm:behindInMarks op b=false):PE X (.Compare a [op] [b] pos) (tOp r ta tb):=by
  intro pins s σ H Q I h
  exact wpAny_Compare1 (binT ha hb I h fun v u s2 x y H2 I2 rx ry q=>ho pins s2 σ H2 x y v u Q I2 rx ry q) hm
def tTest (t:TE):TT:=fun σ H Q=>t σ H fun x H'=>∃ k,x=.bl k∧Q k H'
theorem pt_cmpR {op:CmpOp} {r:R2} (ho:OpR X (compareOp op) r) (ha:PE X a ta) (hb:PE X b tb) (hm:behindInMarks op b=false):PT X (.Compare a [op] [b] pos) (tTest (tOp r ta tb)):=by
  intro pins s σ H Q I h
  refine wpAny_isTrue_Compare1 (thn (ha pins s σ H _ I h) fun v s1 ⟨x,H1,I1,r1,q1⟩=>thn (hb pins s1 σ H1 _ I1 q1) fun u s2 ⟨y,H2,I2,r2,q2⟩ =>
    thn (ho pins s2 σ H2 x y v u _ I2 r1 r2 q2) fun c s3 ⟨z,H3,I3,r3,k,e,q3⟩=>?_) hm
  subst e
  cases r3
  exact wpAny_truthy_bool ⟨H3,I3,q3⟩
def tChain (r r':R2) (ta tb tc:TE):TE:=fun σ H Q=>ta σ H fun x H1=>tb σ H1 fun y H2=>r x y H2 fun z H3=>∃ k,z=.bl k∧
  (if k=true then tc σ H3 fun w' H4=>r' y w' H4 Q else Q (.bl false) H3)
theorem pt_chain {op op':CmpOp} {r r':R2} (ho:OpR X (compareOp op) r) (ho':OpR X (compareOp op') r') (ha:PE X a ta) (hb:PE X b tb) (hc:PE X c tc)
    (hm:lastMarks [op,op'] [b,c]=false:=by with_unfolding_all rfl):PT X (.Compare a [op,op'] [b,c] pos) (tTest (tChain r r' ta tb tc)):=by
  intro pins s σ H Q I h
  refine isTrue_chain (thn (ha pins s σ H _ I h) fun v s1 ⟨x,H1,I1,r1,q1⟩=>test_link (thn (hb pins s1 σ H1 _ I1 q1) fun u s2 ⟨y,H2,I2,r2,q2⟩ =>
    thn (ho pins s2 σ H2 x y v u _ I2 r1 r2 q2) fun d s3 ⟨z,H3,I3,r3,k,e,q3⟩=>?_)) hm
  subst e
  cases r3
  refine wpAny_truthy_bool ?_
  cases k with
  | false =>
    obtain ⟨k',e',q'⟩:=q3
    cases e'
    exact ite_ff ⟨H3,I3,q'⟩
  | true =>
    refine ite_tt (test_last (thn (hc pins s3 σ H3 _ I3 q3) fun w' s4 ⟨z',H4,I4,r4,q4⟩=>thn (ho' pins s4 σ H4 y z' u w' _ I4 r2 r4 q4) fun d' s5 ⟨z2,H5,I5,r5,k2,e2,q5⟩=>?_))
    subst e2
    cases r5
    exact wpAny_truthy_bool ⟨H5,I5,q5⟩
def TruV (K:PySem.W.Frag) (x:V) (H:Hp) (k:Bool):Prop :=
  match x with
  | .non=>k=false
  | .bl b=>k=b
  | .int i=>k=(i != 0)
  | .str y=>y.length≤sizeLine∧k=((y.length:Int) != 0)
  | .byt y=>y.size≤sizeLine∧k=((y.size:Int) != 0)
  | .ref p=>(∃ xs,SqL K H p xs∧k=!xs.isEmpty)∨(∃ xs,SqT K H p xs∧k=!xs.isEmpty)∨∃ kvs,H p=some (.dK kvs)∧k=!kvs.isEmpty
  | _=>False
theorem line63:(sizeLine:Nat)<2 ^ 63:=by rw [sizeLine_eq]; decide
theorem op_add_str:OpR X (binaryOp .Add) (fun x y H Q=>∃ i j,x=.str i∧y=.str j∧i.length+j.length≤sizeLine∧Q (.str (i++j)) H):=by
  intro pins s σ H x y v u Q I rx ry h
  obtain ⟨i,j,rfl,rfl,hz,q⟩:=h
  obtain ⟨t,rfl⟩:=rx
  obtain ⟨t',rfl⟩:=ry
  exact add_str (fun t' tk=>⟨.str (i++j),H,I.tok _,⟨_,rfl⟩,q⟩) hz
def PlainIxT (b:Expr):Prop:=∀ o i,subscripted b false o i=operate [o,i] (getItem o i)
theorem vals1 {x:V} {us:List Value} (r:Vals [x] us):∃ u,us=[u]∧RelV x u:=by
  cases r with
  | cons r1 r2=>cases r2; exact ⟨_,rfl,r1⟩
theorem vals2 {x y:V} {us:List Value} (r:Vals [x,y] us):∃ u w',us=[u,w']∧RelV x u∧RelV y w':=by
  cases r with
  | cons r1 r2 =>
    cases r2 with
    | cons r3 r4=>cases r4; exact ⟨_,_,rfl,r1,r3⟩
theorem call_abs:CallR X (.builtin "abs") (fun xs H Q=>∃ i,xs=[.int i]∧Q (.int (if i<0 then -i else i)) H):=by
  intro pins s σ H xs us Q I r h
  obtain ⟨i,rfl,q⟩:=h
  obtain ⟨u,rfl,t,rfl⟩:=vals1 r
  exact call_abs_int fun u tk=>⟨.int (if i<0 then -i else i),H,I.tok _,⟨_,rfl⟩,q⟩
theorem call_int1:CallR X (.type "int") (fun xs H Q=>(∃ i,xs=[.int i]∧Q (.int i) H)∨∃ k,xs=[.bl k]∧Q (.int (if k then 1 else 0)) H):=by
  intro pins s σ H xs us Q I r h
  rcases h with ⟨i,rfl,q⟩ | ⟨k,rfl,q⟩
  · obtain ⟨u,rfl,t,rfl⟩:=vals1 r
    exact call_int_int ⟨.int i,H,I,⟨_,rfl⟩,q⟩
  · obtain ⟨u,rfl,r1⟩:=vals1 r
    cases r1
    exact call_int_bool ⟨.int (if k then 1 else 0),H,I.tok _,⟨_,rfl⟩,q⟩
def LenV (K:PySem.W.Frag) (x:V) (H:Hp) (n:Nat):Prop :=
  match x with
  | .str y=>y.length≤sizeLine∧n=y.length
  | .byt y=>y.size≤sizeLine∧n=y.size
  | .ref p=>(∃ xs,SqL K H p xs∧n=xs.length)∨∃ xs,SqT K H p xs∧n=xs.length
  | _=>False
theorem call_divmod:CallR X (.builtin "divmod") (fun xs H Q=>∃ i j,xs=[.int i,.int j]∧CDiv i j∧∀ p,H p=none→Q (.ref p) (upd H p (.tup [.int (i / j),.int (i % j)]))):=by
  intro pins s σ H xs us Q I r h
  obtain ⟨i,j,rfl,⟨h1,h2⟩,q⟩:=h
  obtain ⟨u,w',rfl,⟨t,rfl⟩,⟨t',rfl⟩⟩:=vals2 r
  refine divmod_int (by omega) ?_ (.inl (PyProof.noPylong_small (by omega)))
  rw [Int.fdiv_eq_ediv_of_nonneg i (by omega),Int.fmod_eq_emod_of_nonneg i (by omega)]
  have hn:H s.heap.objs.size=none:=I.hok.fresh (Nat.le_refl _)
  refine ⟨.ref s.heap.objs.size,_,?_,rfl,q _ hn⟩
  refine I.laid (fun b o e=>Heap.get?_push_of_some _ e) (Nat.le_refl _) ⟨by simp only [List.length_cons,List.length_nil]; rw [sizeLine_eq]; decide,[.int (i / j) s.toks,.int (i % j) (s.toks+1)],.cons ⟨_,rfl⟩ (.cons ⟨_,rfl⟩ .nil),?_⟩
  exact ⟨_,Heap.get?_push_size s.heap rfl,rfl,0,rfl⟩
end
end L2
namespace L2
open PySem PySem.Spec PyProof.Rows
structure ObjM (h:Heap) (x dx C:Addr) (mA:Str→Option Value):Prop where
  obj:h.get? x=some (PySem.W.instObj C dx)
  ns:h.Ns1 dx mA
  ne:dx≠x
theorem lookIn_ns {h:Heap} {dx:Addr} {mA:Str→Option Value} (n:h.Ns1 dx mA):∃ od,h.get? dx=some od∧∀ name,PySem.W.lookIn name od=some (mA name):=by
  obtain ⟨o,es,ep,ho,hd,hk,_,hm⟩:=n
  refine ⟨o,ho,fun name=>?_⟩
  have e:=hm name
  unfold nsFind findBy at e
  rw [← Array.find?_toList] at e
  unfold PySem.W.lookIn
  rw [hd]
  dsimp only
  split
  · rename_i y q
    rw [q] at e
    exact congrArg some e
  · rename_i q
    rw [q] at e
    have a:es.toList.any (·.refKey)=false:=by
      rw [List.any_eq_false]
      intro y hy
      obtain ⟨z,t,hkey⟩:=hk y (Array.mem_toList_iff.mp hy)
      simp [DictEntry.refKey,hkey]
    have a':¬ es.toList.any (·.refKey)=true:=by rw [a]; exact Bool.false_ne_true
    rw [if_neg a']
    exact congrArg some e
theorem ObjM.look {h:Heap} {x dx C:Addr} {mA:Str→Option Value} (I:ObjM h x dx C mA):∃ od,PySem.W.InstAt h x (PySem.W.instObj C dx) C (some od)∧∀ name,PySem.W.lookIn name od=some (mA name) :=
  let ⟨od,ho,hl⟩:=lookIn_ns I.ns
  ⟨od,⟨I.obj,rfl,rfl,ho⟩,hl⟩
section
variable {prog:Program} {w:World} {A:Around} {E:Value→Shared→Prop} {s:Shared} {K:PySem.W.Frag} {x dx C f:Addr} {mA:Str→Option Value} {name:Str} {v:Value}
theorem get_map {expr:Bool} {Q:Value→Shared→Prop} (X:K.In s.heap) (I:ObjM s.heap x dx C mA) (hg:PySem.W.plainGet K C name=true) (hh:PySem.W.hasDictIn K C=true)
    (ha:PySem.W.findIn K (.ref C) name=some none) (hv:mA name=some v) (hv':PySem.W.handedIn v=true) (h:Q v { s with toks:=s.toks+1 }) :
    wpAny (model prog w) A (getAttr (.ref x) name expr) Q E s:=by
  obtain ⟨od,J,hl⟩:=I.look
  exact PySem.W.get_value X J (PySem.W.plainGet_of hg).1 (PySem.W.findObj_own hh ha rfl (by rw [hl,hv])) hv' h
theorem get_meth {pl:Sem Bool} {Q:Value×List Value→Shared→Prop} (X:K.In s.heap) (I:ObjM s.heap x dx C mA) (hg:PySem.W.plainGet K C name=true)
    (hf:PySem.W.findIn K (.ref C) name=some (some (.ref f))) (ht:PySem.W.isFn K (.ref f)=true) (hv:mA name=none) (h:Q (.ref f,[.ref x]) s) :
    wpAny (model prog w) A (getMethod (.ref x) name pl) Q E s:=by
  obtain ⟨od,J,hl⟩:=I.look
  exact PySem.W.method_fn X J (PySem.W.plainGet_of hg).1 (PySem.W.plainGet_of hg).2 hf (beq_iff_eq.mp ht) (by show (PySem.W.lookIn name od).map (·.isSome)=some false; rw [hl,hv]; rfl) h
theorem set_map {ns:List Str} {Q:Unit→Shared→Prop} (X:K.In s.heap) (I:ObjM s.heap x dx C mA)
    (hs:PySem.W.findIn K (.ref C) "__setattr__"=some (some (.builtin "object.__setattr__"))) (hp:PySem.W.plainOver K C=true) (ht:PySem.W.takerIn K C name=some none) (hh:PySem.W.hasDictIn K C=true)
    (hw:PySem.Within mA ns) (hsz:ns.length≤sizeLine)
    (h:∀ h',ObjM h' x dx C (fun y=>if y=name then some v else mA y)→Heap.SameBut dx s.heap h'→Q () { s with heap:=h',toks:=s.toks+2 }) :
    wpAny (model prog w) A (setAttr (.ref x) name v) Q E s:=by
  obtain ⟨od,J,hl⟩:=I.look
  refine PySem.W.set_plain X J hs (PySem.W.osa_open (s:={ s with toks:=s.toks+1 }) (r:=none) X J hp ht fun b=>?_)
  obtain ⟨cd,hc,hd'⟩:=PySem.W.any_some hh
  have hx:s.heap.get? x=some ⟨.ref C,some dx,.plain,#[]⟩:=I.obj
  refine wpAny_bind (wpAny_pure (wpAny_bind (wpAny_bind (wpAny_loadPart hx (wpAny_bind (PySem.W.Looks.here (s:={ s with toks:=s.toks+1 }) (PySem.W.looks_clsIn X hc) ?_))))))
  rw [hd']
  refine wpAny_pure (a:=some dx) (wpAny_bind (wpAny_pure (wpAny_bind ?_)))
  refine wpAny_nsSet1 (s:={ s with toks:=s.toks+1 }) I.ns fun h' hn2 hs2=>?_
  obtain ⟨oD,esD,epD,hoD,hdD,hcD⟩:=hn2.count (PySem.Within.cons name v hw)
  refine wpAny_bind (wpAny_lookBehind hoD (by rw [hdD]; exact pastItsLine_dict (Nat.le_trans hcD (by rw [List.length_cons]; omega))) ?_)
  exact wpAny_pure (h _ ⟨(hs2.2 _ (Ne.symm I.ne)).trans I.obj,hn2,I.ne⟩ hs2)
theorem make_map {R:Result→Shared→Prop} {vs:List Value} {kw:List (Str×Value)} (X:K.In s.heap) (hm:PySem.W.makesIn K C=true)
    (hi:PySem.W.findIn K (.ref C) "__init__"=some (some (.ref f))) (hf:PySem.W.typeIn K (.ref f)=some (.type "function"))
    (h:codeAny (model prog w) (A.under (.builtin "type.__call__" ⟨.ref C::vs,kw⟩)) (.call (.ref f) ⟨.ref (s.heap.objs.size+1)::vs,kw⟩) (PySem.W.InitBack (s.heap.objs.size+1) R)
      { s with heap:=(s.heap.push PySem.W.emptyDict).push (PySem.W.instObj C s.heap.objs.size) }) :
    codeAny (model prog w) A (.call (.ref C) ⟨vs,kw⟩) R s:=by
  obtain ⟨hh,g,d,t,os⟩:=s
  exact PySem.W.make_core (PySem.W.makes_of X hm) (PySem.W.looks_findIn X hi) (fun self=>PySem.W.bind_fn X self hf) (.inl rfl) h
end
def putF (f:Str) (v:V):List (Str×V)→List (Str×V)
  | []=>[(f,v)]
  | (g,x)::r=>if g=f then (g,v)::r else (g,x)::putF f v r
theorem lookup_putF (f g:Str) (v:V):∀ fs:List (Str×V),(putF f v fs).lookup g=if g=f then some v else fs.lookup g
  | []=>by
    show List.lookup g [(f,v)]=_
    by_cases h:g=f
    · have hb:(g == f)=true:=beq_iff_eq.mpr h
      simp only [List.lookup,hb,if_pos h]
    · have hb:(g == f)=false:=beq_eq_false_iff_ne.mpr h
      simp only [List.lookup,hb,if_neg h]
  | (k,x)::r=>by
    have ih:=lookup_putF f g v r
    rw [show putF f v ((k,x)::r)=(if k=f then (k,v)::r else (k,x)::putF f v r) from rfl]
    by_cases hk:k=f
    · rw [if_pos hk]
      by_cases h:g=k
      · have hb:(g == k)=true:=beq_iff_eq.mpr h
        simp only [List.lookup,hb,if_pos (h.trans hk)]
      · have hb:(g == k)=false:=beq_eq_false_iff_ne.mpr h
        simp only [List.lookup,hb,if_neg (fun e:g=f=>h (e.trans hk.symm))]
    · rw [if_neg hk]
      by_cases h:g=k
      · have hb:(g == k)=true:=beq_iff_eq.mpr h
        simp only [List.lookup,hb,if_neg (fun e:g=f=>hk (h.symm.trans e))]
      · have hb:(g == k)=false:=beq_eq_false_iff_ne.mpr h
        simp only [List.lookup,hb]
        exact ih
theorem keys_putF (f:Str) (v:V):∀ fs:List (Str×V),f∈(putF f v fs).map (·.1)∧∀ g,g∈fs.map (·.1)→g∈(putF f v fs).map (·.1)
  | []=>⟨by simp [putF],fun g h=>by simp at h⟩
  | (k,x)::r=>by
    obtain ⟨i1,i2⟩:=keys_putF f v r
    rw [show putF f v ((k,x)::r)=(if k=f then (k,v)::r else (k,x)::putF f v r) from rfl]
    by_cases hk:k=f
    · rw [if_pos hk]
      subst hk
      exact ⟨by simp,fun g h=>by simpa using h⟩
    · rw [if_neg hk]
      refine ⟨?_,fun g h=>?_⟩
      · rw [List.map_cons]
        exact List.mem_cons_of_mem _ i1
      · rw [List.map_cons] at h ⊢
        rcases List.mem_cons.mp h with e | e
        · exact List.mem_cons.mpr (.inl e)
        · exact List.mem_cons_of_mem _ (i2 g e)
theorem length_putF (f:Str) (v:V):∀ fs:List (Str×V),(putF f v fs).length≤fs.length+1
  | []=>by simp [putF]
  | (k,x)::r=>by
    have ih:=length_putF f v r
    rw [show putF f v ((k,x)::r)=(if k=f then (k,v)::r else (k,x)::putF f v r) from rfl]
    by_cases hk:k=f
    · rw [if_pos hk,List.length_cons,List.length_cons]; omega
    · rw [if_neg hk,List.length_cons,List.length_cons]; omega
theorem RelO.some_of {v:V} {o:Option Value} (r:RelO (some v) o):∃ u,o=some u∧RelV v u:=by
  cases o with
  | none=>exact (show False from r).elim
  | some u=>exact ⟨u,rfl,r⟩
theorem RelO.none_of {o:Option Value} (r:RelO none o):o=none:=by
  cases o with
  | none=>rfl
  | some u=>exact (show False from r).elim
theorem handed_of {v:V} {u:Value} (r:RelV v u):PySem.W.handedIn u=true:=by
  cases v with
  | non=>cases (show u=Value.none from r); rfl
  | bl b=>cases (show u=Value.bool b from r); rfl
  | int i=>obtain ⟨t,e⟩:=(show ∃ t,u=Value.int i t from r); cases e; rfl
  | str x=>obtain ⟨t,e⟩:=(show ∃ t,u=Value.str x t from r); cases e; rfl
  | byt b=>obtain ⟨t,e⟩:=(show ∃ t,u=Value.bytes b t from r); cases e; rfl
  | flt b=>obtain ⟨t,e⟩:=(show ∃ t,u=Value.float b t from r); cases e; rfl
  | ref a=>cases (show u=Value.ref a from r); rfl
  | ty n=>cases (show u=Value.type n from r); rfl
section
variable {P:Program} {w:World} {H H':Hp} {h h':Heap} {a C dx:Addr} {fs fs':List (Str×V)}
theorem ins_get (hok:HOk P w H h) (e:H a=some (.ins C dx fs)):∃ mA,ObjM h a dx C mA∧(∀ f,RelO (fs.lookup f) (mA f))∧PySem.Within mA (fs.map (·.1))∧fs.length≤1000∧H dx=some (.own a):=by
  obtain ⟨d,z,ne,ob,mA,n,r,q⟩:=(show ObjOk P w H h a (.ins C dx fs) from hok a _ e)
  exact ⟨mA,⟨ob,n,ne⟩,r,q,z,d⟩
end
structure Cls (K:PySem.W.Frag) (C:Addr):Prop where
  pg:PySem.W.plainGet K C Str.empty=true
  hd:PySem.W.hasDictIn K C=true
  po:PySem.W.plainOver K C=true
  sa:PySem.W.findIn K (.ref C) "__setattr__"=some (some (.builtin "object.__setattr__"))
theorem Cls.get {K:PySem.W.Frag} {C:Addr} (c:Cls K C) (f:Str):PySem.W.plainGet K C f=true:=c.pg
def NoAttr (K:PySem.W.Frag) (C:Addr) (f:Str):Prop:=PySem.W.findIn K (.ref C) f=some none
theorem NoAttr.taker {K:PySem.W.Frag} {C:Addr} {f:Str} (n:NoAttr K C f):PySem.W.takerIn K C f=some none:=by
  unfold PySem.W.takerIn
  rw [show PySem.W.findIn K (.ref C) f=some none from n]
  rfl
structure Con (K:PySem.W.Frag) (C:Addr) (f:Str) (v:V) (u:Value):Prop where
  at_:PySem.W.findIn K (.ref C) f=some (some u)
  rel:RelV v u
  get:PySem.W.specialIn K u "__get__"=some none
  cp:PySem.W.copiedNames.contains f=false
structure Meth (K:PySem.W.Frag) (C:Addr) (m:Str) (f:Addr):Prop where
  at_:PySem.W.findIn K (.ref C) m=some (some (.ref f))
  fn:PySem.W.isFn K (.ref f)=true
  kp:PySem.W.keepIn K (.ref f)=true
section
variable {X:Cx} {pins:List (Addr×Obj)} {σ:St} {H:Hp} {s:Shared} {a C dx:Addr} {fs:List (Str×V)} {f:Str} {v:V} {A:Around} {E:Value→Shared→Prop}
theorem getattr_ok {b:Bool} {Q:Value→Shared→Prop} (I:Inv X pins σ H s) (e:H a=some (.ins C dx fs)) (c:Cls X.K C) (n:NoAttr X.K C f) (l:fs.lookup f=some v)
    (h:∀ u s',Inv X pins σ H s'→RelV v u→Q u s'):wpAny (model X.prog X.w) A (getAttr (.ref a) f b) Q E s:=by
  obtain ⟨mA,O,r,_,_,_⟩:=ins_get I.hok e
  obtain ⟨u,hu,ru⟩:=RelO.some_of (v:=v) (o:=mA f) (by rw [← l]; exact r f)
  exact get_map I.kIn O (c.get f) c.hd n hu (handed_of ru) (h u _ (I.tok _) ru)
theorem getmeth_ok {m:Str} {g:Addr} {pl:Sem Bool} {Q:Value×List Value→Shared→Prop} (I:Inv X pins σ H s) (e:H a=some (.ins C dx fs)) (c:Cls X.K C) (k:Meth X.K C m g) (l:fs.lookup m=none)
    (h:Q (.ref g,[.ref a]) s):wpAny (model X.prog X.w) A (getMethod (.ref a) m pl) Q E s:=by
  obtain ⟨mA,O,r,_,_,_⟩:=ins_get I.hok e
  have hn:mA m=none:=RelO.none_of (by rw [← l]; exact r m)
  exact get_meth I.kIn O (c.get m) k.at_ k.fn hn h
theorem setattr_ok {y:V} {u:Value} {Q:Unit→Shared→Prop} (I:Inv X pins σ H s) (e:H a=some (.ins C dx fs)) (c:Cls X.K C) (n:NoAttr X.K C f) (hl:fs.length<1000) (ry:RelV y u)
    (h:∀ s',Inv X pins σ (upd H a (.ins C dx (putF f y fs))) s'→Q () s'):wpAny (model X.prog X.w) A (setAttr (.ref a) f u) Q E s:=by
  obtain ⟨mA,O,r,wi,_,ho⟩:=ins_get I.hok e
  have hz:(fs.map (·.1)).length≤sizeLine:=by rw [List.length_map,sizeLine_eq]; omega
  refine set_map I.kIn O c.sa c.po n.taker c.hd wi hz fun h' O' sb=>h _ ?_
  have hd:∃ o,h'.get? dx=some o:=let ⟨o,_,_,e',_⟩:=O'.ns; ⟨o,e'⟩
  refine I.write (x:=a) (e:=dx) (by rw [e]; exact True.intro) (.inr ho) (fun b q hb z=>(sb.2 b hb).trans z) hd ?_
  refine ⟨by rw [upd_ne O.ne]; exact ho,?_,O.ne,O'.obj,_,O'.ns,fun g=>?_,fun g hg=>?_⟩
  · have:=length_putF f y fs; omega
  · show RelO ((putF f y fs).lookup g) (if g=f then some u else mA g)
    rw [lookup_putF]
    by_cases q:g=f
    · rw [if_pos q,if_pos q]; exact ry
    · rw [if_neg q,if_neg q]; exact r g
  · by_cases q:g=f
    · rw [q]; exact (keys_putF f y fs).1
    · refine (keys_putF f y fs).2 g (wi g fun z=>hg ?_)
      show (if g=f then some u else mA g)=none
      rw [if_neg q]; exact z
theorem Inv.made (I:Inv X pins σ H s):Inv X pins σ (upd (upd H s.heap.objs.size (.own (s.heap.objs.size+1))) (s.heap.objs.size+1) (.ins C s.heap.objs.size []))
    { s with heap:=(s.heap.push PySem.W.emptyDict).push (PySem.W.instObj C s.heap.objs.size) }:=by
  have e1:(s.heap.push PySem.W.emptyDict).get? s.heap.objs.size=some PySem.W.emptyDict:=Heap.get?_push_size s.heap rfl
  have e2:((s.heap.push PySem.W.emptyDict).push (PySem.W.instObj C s.heap.objs.size)).get? (s.heap.objs.size+1)=some (PySem.W.instObj C s.heap.objs.size):=by
    have:=Heap.get?_push_size (s.heap.push PySem.W.emptyDict) (o:=PySem.W.instObj C s.heap.objs.size) rfl
    rwa [Heap.size_push] at this
  have e3:(s.heap.push PySem.W.emptyDict).Ns s.heap.objs.size (fun _=>none):=⟨PySem.W.emptyDict,#[],_,e1,rfl,(fun e he=>absurd he (by simp)),fun _=>rfl⟩
  have I1:=I.laid (a:=s.heap.objs.size) (o:=.own (s.heap.objs.size+1)) (h':=s.heap.push PySem.W.emptyDict) (t':=s.toks) (fun b u q=>Heap.get?_push_of_some _ q) (Nat.le_refl _) ⟨_,e1⟩
  refine I1.laid (a:=s.heap.objs.size+1) (o:=.ins C s.heap.objs.size []) (t':=s.toks) (fun b u q=>Heap.get?_push_of_some _ q) (Nat.le_of_eq (Heap.size_push _ _)) ?_
  have ne:s.heap.objs.size≠s.heap.objs.size+1:=Nat.ne_of_lt (Nat.lt_succ_self _)
  refine ⟨by rw [upd_ne ne,upd_same],Nat.zero_le _,ne,e2,fun _=>none,(Heap.Ns1.of_empty e3).at fun o q=>Heap.get?_push_of_some _ q,fun _=>True.intro,fun y hy=>absurd rfl hy⟩
theorem attr_of {prog:Program} {w:World} {env:Env} {e:Expr} {f:Str} {pos:Pos} {s:Shared} {Q:Value→Shared→Prop} (hb:attributeBase e f env (eval e env)=eval e env)
    (h:wpAny (model prog w) A (eval e env) (fun o s₁=>wpAny (model prog w) A (getAttr o f true) Q E s₁) E s):wpAny (model prog w) A (eval (.Attribute e f pos) env) Q E s :=
  Attribute_any_ h (by rw [arm_eval_Attribute,hb])
end
def tFld (K:PySem.W.Frag) (ta:TE) (f:Str):TE:=fun σ H Q=>ta σ H fun x H1=>∃ a C dx fs v,x=.ref a∧H1 a=some (.ins C dx fs)∧Cls K C∧NoAttr K C f∧fs.lookup f=some v∧Q v H1
def tCon (K:PySem.W.Frag) (ta:TE) (f:Str):TE:=fun σ H Q=>ta σ H fun x H1=>∃ a C dx fs v u,x=.ref a∧H1 a=some (.ins C dx fs)∧Cls K C∧Con K C f v u∧fs.lookup f=none∧Q v H1
def sFld (K:PySem.W.Frag) (ta tv:TE) (f:Str):TS:=fun D σ H=>tv σ H fun y H1=>ta σ H1 fun x H2=>∃ a C dx fs,x=.ref a∧H2 a=some (.ins C dx fs)∧Cls K C∧NoAttr K C f∧fs.length<1000∧
  D.nx σ (upd H2 a (.ins C dx (putF f y fs)))
def InOp (X:Cx) (op:Operator) (rd:V→V→Hp→VK→Prop):Prop :=
  ∀ (pins:List (Addr×Obj)) (s:Shared) (σ:St) (H:Hp) (x y:V) (u v:Value) (Q:VK),Inv X pins σ H s→RelV x u→RelV y v→rd x y H Q→wpAny (model X.prog X.w) X.A (inplaceOp op u v) (EP X pins σ Q) X.xe s
def sFldAug (K:PySem.W.Frag) (ta tv:TE) (rd:V→V→Hp→VK→Prop) (f:Str):TS:=fun D σ H=>ta σ H fun x H1=>∃ a C dx fs v,x=.ref a∧H1 a=some (.ins C dx fs)∧Cls K C∧NoAttr K C f∧fs.lookup f=some v∧
  tv σ H1 fun y H2=>rd v y H2 fun z H3=>∃ dx' fs',H3 a=some (.ins C dx' fs')∧fs'.length<1000∧D.nx σ (upd H3 a (.ins C dx' (putF f z fs')))
section
variable {X:Cx} {o e value:Expr} {f:Str} {pos pos' tpos:Pos} {ta tv:TE}
theorem pe_fld (he:PE X e ta) (hb:attributeBase e f X.env (eval e X.env)=eval e X.env):PE X (.Attribute e f pos) (tFld X.K ta f):=by
  intro pins s σ H Q I h
  refine attr_of hb (thn (he pins s σ H _ I h) fun u s1 ⟨x,H1,I1,rx,a,C,dx,fs,v,ex,ea,c,n,l,q⟩=>?_)
  subst ex
  obtain rfl:u=Value.ref a:=rx
  exact getattr_ok I1 ea c n l fun u' s2 I2 ru=>⟨v,H1,I2,ru,q⟩
theorem ps_fld (ha:PE X o ta) (hv:PE X value tv) (hs:swapsWith value (some (.Attribute o f pos')) pos.line X.env=pure false):PS X (.Assign [.Attribute o f pos'] value pos) (sFld X.K ta tv f):=by
  intro pins s σ H D I h
  refine plainObj_wpAny_Assign_Attribute (thn (hv pins s σ H _ I h) fun u s1 ⟨y,H1,I1,ry,q⟩=>thn (ha pins s1 σ H1 _ I1 q) fun ov s2 ⟨x,H2,I2,rx,a,C,dx,fs,ex,ea,c,n,l,q2⟩=>?_) hs
  subst ex
  obtain rfl:ov=Value.ref a:=rx
  exact setattr_ok I2 ea c n l ry fun s3 I3=>⟨σ,_,I3,q2⟩
def rAdd:V→V→Hp→VK→Prop:=fun x y H Q=>∃ i j,x=.int i∧y=.int j∧Q (.int (i+j)) H
def rSub:V→V→Hp→VK→Prop:=fun x y H Q=>∃ i j,x=.int i∧y=.int j∧Q (.int (i - j)) H
end
section
variable {X:Cx} {pins:List (Addr×Obj)} {σ:St} {H:Hp} {s:Shared} {A:Around} {E:Value→Shared→Prop} {Q:Value→Shared→Prop} {c:Value} {b:Bool}
inductive TyOf (K:PySem.W.Frag) (H:Hp):V→Value→Prop where
  | non:TyOf K H .non (.type "NoneType")
  | bl (x:Bool):TyOf K H (.bl x) (.type "bool")
  | int (i:Int):TyOf K H (.int i) (.type "int")
  | str (x:Str):TyOf K H (.str x) (.type "str")
  | flt (x:UInt64):TyOf K H (.flt x) (.type "float")
  | lst {a:Addr} {xs:List V} (e:H a=some (.lst xs)):TyOf K H (.ref a) (.type "list")
  | frz {a:Addr} {o:Obj} {xs:List V} (e:H a=some (.frz o (.lst xs))):TyOf K H (.ref a) (.type "list")
  | tup {a:Addr} {xs:List V} (e:H a=some (.tup xs)):TyOf K H (.ref a) (.type "tuple")
  | dK {a:Addr} {kvs:List (Key×V)} (e:H a=some (.dK kvs)):TyOf K H (.ref a) (.type "dict")
  | dT {a:Addr} {kvs:List (List Key×V)} (e:H a=some (.dT kvs)):TyOf K H (.ref a) (.type "dict")
  | ins {a C dx:Addr} {fs:List (Str×V)} (e:H a=some (.ins C dx fs)) (cl:Cls K C) (ha:PySem.W.findIn K (.ref C) "__class__"=some (some (.builtin "object.__class__")))
      (hn:PySem.W.specialIn K (.builtin "object.__class__") "__get__"=some (some (.builtin "getset_descriptor.__get__"))) (htk:PySem.W.takesIn K (.builtin "object.__class__")=some true)
      (hm:PySem.W.mroIn K C (.type "object")=some true):TyOf K H (.ref a) (.ref C)
theorem isinst_ok {x:V} {u t:Value} (I:Inv X pins σ H s) (rx:RelV x u) (ty:TyOf X.K H x t) (e:PySem.W.kitOne X.K t c=some b) (h:∀ tk,Q (.bool b) { s with toks:=tk }) :
    wpAny (model X.prog X.w) A (call (.builtin "isinstance") [u,c]) Q E s:=by
  cases ty with
  | non=>cases (show u=Value.none from rx); exact PySem.W.kia_one PySem.W.kitx_none I.kIn True.intro e (fun z=>nomatch z) h
  | bl y=>cases (show u=Value.bool y from rx); exact PySem.W.kia_one PySem.W.kitx_bool I.kIn True.intro e (fun z=>nomatch z) h
  | int i=>obtain ⟨t,q⟩:=(show ∃ t,u=Value.int i t from rx); cases q; exact PySem.W.kia_one PySem.W.kitx_int I.kIn True.intro e (fun z=>nomatch z) h
  | str y=>obtain ⟨t,q⟩:=(show ∃ t,u=Value.str y t from rx); cases q; exact PySem.W.kia_one PySem.W.kitx_str I.kIn True.intro e (fun z=>nomatch z) h
  | flt y=>obtain ⟨t,q⟩:=(show ∃ t,u=Value.float y t from rx); cases q; exact PySem.W.kia_one PySem.W.kitx_float I.kIn True.intro e (fun z=>nomatch z) h
  | @lst a xs ea =>
    cases (show u=Value.ref a from rx)
    obtain ⟨_,_,n,_,h1⟩:=(show ObjOk X.prog X.w H s.heap a (.lst xs) from I.hok a _ ea)
    exact PySem.W.kia_one PySem.W.kitx_list I.kIn ⟨_,h1,rfl⟩ e (fun z=>nomatch z) h
  | @frz a ob xs ea =>
    cases (show u=Value.ref a from rx)
    obtain ⟨_,_,_,n,_,h1⟩:=(show ObjOk X.prog X.w H s.heap a (.frz ob (.lst xs)) from I.hok a _ ea)
    exact PySem.W.kia_one PySem.W.kitx_list I.kIn ⟨_,h1,rfl⟩ e (fun z=>nomatch z) h
  | @tup a xs ea =>
    cases (show u=Value.ref a from rx)
    obtain ⟨_,_,_,p⟩:=(show ObjOk X.prog X.w H s.heap a (.tup xs) from I.hok a _ ea)
    obtain ⟨o,h1,h2,_⟩:=p
    exact PySem.W.kia_one PySem.W.kitx_tuple I.kIn ⟨o,h1,h2⟩ e (fun z=>nomatch z) h
  | @dK a kvs ea =>
    cases (show u=Value.ref a from rx)
    obtain ⟨_,_,vs,_,p⟩:=(show ObjOk X.prog X.w H s.heap a (.dK kvs) from I.hok a _ ea)
    obtain ⟨o,es,ep,h1,h2,_⟩:=p
    exact PySem.W.kia_one PySem.W.kitx_dict I.kIn ⟨o,h1,h2.1⟩ e (fun z=>nomatch z) h
  | @dT a kvs ea =>
    cases (show u=Value.ref a from rx)
    obtain ⟨_,_,xs,_,o,es,ep,h1,h2,_⟩:=(show ObjOk X.prog X.w H s.heap a (.dT kvs) from I.hok a _ ea)
    exact PySem.W.kia_one PySem.W.kitx_dict I.kIn ⟨o,h1,h2.1⟩ e (fun z=>nomatch z) h
  | @ins a C dx fs ea cl ha hn htk hm =>
    cases (show u=Value.ref a from rx)
    obtain ⟨mA,O,_⟩:=ins_get I.hok ea
    obtain ⟨od,J,_⟩:=O.look
    exact PySem.W.kia_one (PySem.W.kitx_own (cl.get _) cl.hd ha hn htk hm) I.kIn J e (fun z=>nomatch z) h
end
end L2
namespace L2
open PySem PySem.Spec PyProof.Rows
structure Room (k:Nat) (A:Around):Prop where
  hd:A.handled=none
  dp:A.depth+3 * k+5<recursionLimit
  un:A.units+16 * k+200<cLine
theorem Room.mono {j k:Nat} {A:Around} (r:Room k A) (h:j≤k):Room j A:=⟨r.hd,by have:=r.dp; omega,by have:=r.un; omega⟩
theorem Room.deeper {k:Nat} {A:Around} (r:Room (k+1) A) (env:Env):Room k (A.deeper env) :=
  ⟨r.hd,by have:=r.dp; show A.depth+1+3 * k+5<_; omega,by have:=r.un; show A.units+3+16 * k+200<_; omega⟩
theorem make_depth {A:Around} {C:Addr} {us:List Value} {kw:List (Str×Value)}:(A.under (.builtin "type.__call__" ⟨.ref C::us,kw⟩)).depth=A.depth+1:=by
  first | rfl | simp [Around.under,Code.weight,Code.isCreation,Code.isGuard,Code.isCaller,Code.frames,Code.isFrame,guardIds]
theorem make_units {A:Around} {C:Addr} {us:List Value} {kw:List (Str×Value)}:(A.under (.builtin "type.__call__" ⟨.ref C::us,kw⟩)).units=A.units+1:=by
  first | rfl | simp [Around.under,Code.cUnits,Code.frames,Code.isFrame]
theorem Room.make {k:Nat} {A:Around} (r:Room (k+1) A) (C:Addr) (us:List Value) (kw:List (Str×Value)):Room k (A.under (.builtin "type.__call__" ⟨.ref C::us,kw⟩)) :=
  ⟨r.hd,by have:=r.dp; rw [make_depth]; omega,by have:=r.un; rw [make_units]; omega⟩
theorem Room.depth {k:Nat} {A:Around} (r:Room k A):A.depth<recursionLimit:=by have:=r.dp; omega
theorem Room.units {k:Nat} {A:Around} (r:Room k A):A.units+64<cLine:=by have:=r.un; omega
theorem Room.units0 {k:Nat} {A:Around} (r:Room k A):A.units<cLine:=by have:=r.un; omega
def tNil:TA:=fun _ H Q=>Q [] H
def tCons (ta:TE) (tr:TA):TA:=fun σ H Q=>ta σ H fun x H1=>tr σ H1 fun xs H2=>Q (x::xs) H2
section
variable {X:Cx} {e:Expr} {es:List Expr} {te:TE} {t:TA} {pos:Pos}
theorem pa_nil:PA X [] tNil:=fun _ _ _ _ H Q I h=>Calls.spliced_nil ⟨[],H,I,.nil,h⟩
theorem pa_cons (ha:PE X e te) (hr:PA X es t) (hs:starEach (e::es) X.env=(false,eval e X.env)::starEach es X.env:=by rfl):PA X (e::es) (tCons te t):=by
  intro pos pins s σ H Q I h
  rw [hs]
  show wpAny _ _ (spliced ((false,eval e X.env)::backTo pos (starEach es X.env))) _ _ s
  refine Calls.spliced_cons (thn (ha pins s σ H _ I h) fun u s1 ⟨x,H1,I1,r1,q1⟩=>?_)
  exact thn (hr pos pins s1 σ H1 _ I1 q1) fun us s2 ⟨xs,H2,I2,r2,q2⟩=>⟨x::xs,H2,I2,.cons r1 r2,q2⟩
def tTup (t:TA):TE:=fun σ H Q=>t σ H fun xs H1=>xs.length≤sizeLine∧∀ p,H1 p=none→Q (.ref p) (upd H1 p (.tup xs))
def tLst (t:TA):TE:=fun σ H Q=>t σ H fun xs H1=>xs.length≤sizeLine∧∀ p,H1 p=none→Q (.ref p) (upd H1 p (.lst xs))
theorem pe_tup {x1} (h:PA X es t):PE X (.Tuple es x1 pos) (tTup t):=by
  intro pins s σ H Q I hq
  refine wpAny_Tuple_spliced (thn (h pos pins s σ H _ I hq) fun us s1 ⟨xs,H1,I1,r,z,q⟩=>⟨by rw [← r.length]; exact z,?_⟩)
  have hf:H1 s1.heap.objs.size=none:=I1.hok.fresh (Nat.le_refl _)
  refine ⟨.ref s1.heap.objs.size,upd H1 s1.heap.objs.size (.tup xs),I1.laid (t':=s1.toks) (fun b u e=>Heap.get?_push_of_some _ e) (Nat.le_refl _) ?_,rfl,q _ hf⟩
  exact ⟨z,us,r,⟨_,Heap.get?_push_size _ rfl,rfl,_,rfl⟩⟩
theorem pe_lst (h:PA X es t):PE X (.List es pos) (tLst t):=by
  intro pins s σ H Q I hq
  refine wpAny_List_spliced (thn (h pos pins s σ H _ I hq) fun us s1 ⟨xs,H1,I1,r,z,q⟩=>⟨by rw [← r.length]; exact z,?_⟩)
  have hf:H1 s1.heap.objs.size=none:=I1.hok.fresh (Nat.le_refl _)
  refine ⟨.ref s1.heap.objs.size,upd H1 s1.heap.objs.size (.lst xs),I1.laid (t':=s1.toks) (fun b u e=>Heap.get?_push_of_some _ e) (Nat.le_refl _) ?_,rfl,q _ hf⟩
  exact ⟨z,us,0,r,Heap.get?_push_size _ rfl⟩
end
abbrev Sp:=List V→Hp→VK→XK→Prop
abbrev CXT:=List Env→Hp→Shared→XK→Value→Shared→Prop
structure Env0 (P:Program) (w:World) (K:PySem.W.Frag) (mg:Str→Option Value) (base:Heap) (A:Around) (outer:List Env) (s:Shared) (H:Hp):Prop where
  frames:A.frames=some outer
  mod:Mod K mg base
  bs:∀ b o,base.get? b=some o→s.heap.get? b=some o∧H b=none
  bsz:base.objs.size≤s.heap.objs.size
  funs:s.heap.FunFrames base outer
  frf:∀ b∈frs outer,H b=none
  hok:HOk P w H s.heap
  bare:AllBare s.gens
def CE (outer:List Env) (P:Program) (w:World) (H:Hp) (s:Shared) (Q:VK) (u:Value) (s':Shared):Prop :=
  ∃ v H',s'.os=s.os∧AllBare s'.gens∧Un (frs outer) [] H H' s.heap s'.heap∧HOk P w H' s'.heap∧RelV v u∧Q v H'
def CR (CX:CXT) (outer:List Env) (P:Program) (w:World) (H:Hp) (s:Shared) (Q:VK) (E:XK) (r:Result) (s':Shared):Prop :=
  match r with
  | .ok (.ret u)=>CE outer P w H s Q u s'
  | .ok _=>False
  | .error e=>CX outer H s E e s'
structure FnOk (P:Program) (w:World) (K:PySem.W.Frag) (mg:Str→Option Value) (base:Heap) (CX:CXT) (k:Nat) (f:Addr) (fd:FuncData) (ps:List Str) (sp:Sp):Prop where
  len:∀ vs H Q E,sp vs H Q E→vs.length=ps.length
  run:∀ (A:Around) (outer:List Env) (s:Shared) (H:Hp) (args:Args) (us:List Value) (vs:List V) (Q:VK) (E:XK),Room k A→Env0 P w K mg base A outer s H→BindsTo s fd args (ps.zip us)→Vals vs us→sp vs H Q E→
    codeAny (model P w) A (.call (.ref f) args) (CR CX outer P w H s Q E) s
theorem Env0.make {P:Program} {w:World} {K:PySem.W.Frag} {mg:Str→Option Value} {base:Heap} {A:Around} {outer:List Env} {s:Shared} {H:Hp} (e:Env0 P w K mg base A outer s H) (C:Addr) (us:List Value) (kw:List (Str×Value)) :
    Env0 P w K mg base (A.under (.builtin "type.__call__" ⟨.ref C::us,kw⟩)) outer s H:=⟨by first | exact e.frames | (simpa [Around.under,Code.envs,Code.isFrame,pushEnvs] using e.frames),e.mod,e.bs,e.bsz,e.funs,e.frf,e.hok,e.bare⟩
section
variable {X:Cx} {pins:List (Addr×Obj)} {σ:St} {H:Hp} {s s':Shared}
theorem Inv.env0 (I:Inv X pins σ H s):Env0 X.prog X.w X.K X.mg X.base X.A X.stack s H :=
  ⟨I.ok.frames,I.ok.mod,I.bs,Nat.le_trans I.ok.bsz I.sz,I.stack,I.stkFree,I.hok,I.bare⟩
theorem Inv.after {Q:VK} {u:Value} (I:Inv X pins σ H s) (h:CE X.stack X.prog X.w H s Q u s'):EP X pins σ Q u s':=by
  obtain ⟨v,H',os,bare,un,hok,r,q⟩:=h
  obtain ⟨hh,g,d,t,os'⟩:=s'
  obtain rfl:os'=s.os:=os
  exact ⟨v,H',I.call (h':=hh) (g':=g) (d':=d) (t':=t) (ch:=[]) un hok bare (fun b z=>absurd z (by simp)),r,q⟩
end
def tCall (sp:Sp) (dvs:List V) (E:XK) (t:TA):TE:=fun σ H Q=>t σ H fun vs H1=>sp (vs++dvs) H1 Q E
def tMeth (C:Addr) (m:Str) (sp:Sp) (dvs:List V) (E:XK) (ta:TE) (t:TA):TE:=fun σ H Q=>ta σ H fun x H1=>∃ a dx fs,x=.ref a∧H1 a=some (.ins C dx fs)∧fs.lookup m=none∧
  t σ H1 fun vs H2=>sp (x::(vs++dvs)) H2 Q E
def tMake (C:Addr) (sp:Sp) (dvs:List V) (E:XK) (t:TA):TE:=fun σ H Q=>t σ H fun vs H1=>∀ x dx,H1 x=none→H1 dx=none→dx≠x→
  sp (.ref x::(vs++dvs)) (upd (upd H1 dx (.own x)) x (.ins C dx [])) (fun v H2=>v=.non∧Q (.ref x) H2) E
def Binds (K:PySem.W.Frag) (fd:FuncData) (ps:List Str) (ds:List Value):Prop :=
  ∀ (s:Shared) (us:List Value),K.In s.heap→(us++ds).length=ps.length→BindsTo s fd ⟨us,[]⟩ (ps.zip (us++ds))
theorem Binds.all {K:PySem.W.Frag} {fd:FuncData} {ps:List Str} (h:∀ us:List Value,us.length=ps.length→bindArgs fd ⟨us,[]⟩=pure (ps.zip us)):Binds K fd ps []:=fun s us _ hl=>by
  rw [List.append_nil] at hl ⊢
  exact .of_eq (h us hl)
def Passes (CX:CXT) (X:Cx) (E:XK):Prop:=∀ (pins:List (Addr×Obj)) (σ:St) (H:Hp) (s:Shared) (e:Value) (s':Shared),Inv X pins σ H s→CX X.stack H s E e s'→X.xe e s'
section
variable {X:Cx} {CX:CXT} {k:Nat} {f C:Addr} {fd:FuncData} {ps:List Str} {sp:Sp} {dvs:List V} {ds:List Value} {E:XK} {x m:Str} {p pos apos:Pos} {e o:Expr} {es:List Expr} {ta:TE} {t:TA}
theorem run_fn {pins:List (Addr×Obj)} {σ:St} {H:Hp} {s:Shared} {Q:VK} {us:List Value} {vs:List V} (F:FnOk X.prog X.w X.K X.mg X.base CX k f fd ps sp) (hr:Room k X.A) (hb:Binds X.K fd ps ds) (hd:Vals dvs ds) (hx:Passes CX X E)
    (I:Inv X pins σ H s) (r:Vals vs us) (h:sp (vs++dvs) H Q E):wpAny (model X.prog X.w) X.A (call (.ref f) us) (EP X pins σ Q) X.xe s:=by
  have r2:Vals (vs++dvs) (us++ds):=r.append hd
  have hl:(us++ds).length=ps.length:=by rw [← r2.length]; exact F.len _ _ _ _ h
  refine wpAny_call (codeAny_mono (F.run X.A X.stack s H ⟨us,[]⟩ (us++ds) (vs++dvs) Q E hr I.env0 (hb s us I.kIn hl) r2 h) fun r s' hq=>?_)
  cases r with
  | error e=>exact hx pins σ H s e s' I hq
  | ok fl =>
    cases fl with
    | ret u=>exact I.after hq
    | next=>exact False.elim hq
    | brk=>exact False.elim hq
    | cont=>exact False.elim hq
theorem pe_call (F:FnOk X.prog X.w X.K X.mg X.base CX k f fd ps sp) (hr:Room k X.A) (hg:Gl X x) (hm:X.mg x=some (.ref f)) (hk:PySem.W.keepIn X.K (.ref f)=true) (hb:Binds X.K fd ps ds) (hd:Vals dvs ds) (hx:Passes CX X E)
    (ha:PA X (e::es) t) (hdb:(x == ("__debug__":Str))=false:=by decide) (he:starEach (e::es) X.env=(false,eval e X.env)::starEach es X.env:=by rfl) (hpl:(backTo pos (starEach es X.env)).any (·.1)=false:=by rfl) :
    PE X (.Call (.Name x p) (e::es) [] pos) (tCall sp dvs E t):=by
  intro pins s σ H Q I h
  refine wpAny_Call_Name_kw (ld_glob I hg hm ?_ hdb)
  refine PySem.W.callWith_K (h₀:=X.base) I.ok.mod.kin hk (thn (ha pos pins s σ H _ I h) fun us s1 ⟨vs,H1,I1,r,q⟩=>⟨I1.kIn,?_⟩) he hpl
  exact run_fn F hr hb hd hx I1 r q
structure Mk (K:PySem.W.Frag) (C f:Addr):Prop where
  makes:PySem.W.makesIn K C=true
  init:PySem.W.findIn K (.ref C) "__init__"=some (some (.ref f))
  fn:PySem.W.isFn K (.ref f)=true
  kp:PySem.W.keepIn K (.ref C)=true
theorem run_make {pins:List (Addr×Obj)} {σ:St} {H:Hp} {s:Shared} {Q:VK} {us:List Value} {vs:List V} (M:Mk X.K C f) (F:FnOk X.prog X.w X.K X.mg X.base CX k f fd ps sp) (hr:Room (k+1) X.A) (hb:Binds X.K fd ps ds) (hd:Vals dvs ds)
    (hx:Passes CX X E) (I:Inv X pins σ H s) (r:Vals vs us)
    (h:∀ x dx,H x=none→H dx=none→dx≠x→sp (.ref x::(vs++dvs)) (upd (upd H dx (.own x)) x (.ins C dx [])) (fun v H2=>v=.non∧Q (.ref x) H2) E) :
    wpAny (model X.prog X.w) X.A (call (.ref C) us) (EP X pins σ Q) X.xe s:=by
  have hq:=h (s.heap.objs.size+1) s.heap.objs.size (I.hok.fresh (Nat.le_succ _)) (I.hok.fresh (Nat.le_refl _)) (Nat.ne_of_lt (Nat.lt_succ_self _))
  have I2:=Inv.made (C:=C) I
  have r2:Vals (V.ref (s.heap.objs.size+1)::(vs++dvs)) (Value.ref (s.heap.objs.size+1)::(us++ds)):=.cons rfl (r.append hd)
  have hl:(Value.ref (s.heap.objs.size+1)::us++ds).length=ps.length:=by
    have e:=r2.length
    rw [F.len _ _ _ _ hq] at e
    exact e.symm
  refine wpAny_call (make_map (f:=f) I.kIn M.makes M.init (beq_iff_eq.mp M.fn) (codeAny_mono (F.run _ X.stack _ _ ⟨Value.ref (s.heap.objs.size+1)::us,[]⟩ (Value.ref (s.heap.objs.size+1)::(us++ds)) _ _ E (hr.make C us [])
    (I2.env0.make C us []) (hb _ (Value.ref (s.heap.objs.size+1)::us) I2.kIn hl) r2 hq) fun r s' hq'=>?_))
  cases r with
  | error e=>exact hx pins σ _ _ e s' I2 hq'
  | ok fl =>
    cases fl with
    | ret u =>
      obtain ⟨v,H',I3,rv,ev,q3⟩:=I2.after hq'
      subst ev
      exact ⟨rv,⟨V.ref (s.heap.objs.size+1),H',I3,rfl,q3⟩⟩
    | next=>exact False.elim hq'
    | brk=>exact False.elim hq'
    | cont=>exact False.elim hq'
theorem pe_make (M:Mk X.K C f) (F:FnOk X.prog X.w X.K X.mg X.base CX k f fd ps sp) (hr:Room (k+1) X.A) (hg:Gl X x) (hm:X.mg x=some (.ref C)) (hb:Binds X.K fd ps ds) (hd:Vals dvs ds) (hx:Passes CX X E)
    (ha:PA X (e::es) t) (hdb:(x == ("__debug__":Str))=false:=by decide) (he:starEach (e::es) X.env=(false,eval e X.env)::starEach es X.env:=by rfl) (hpl:(backTo pos (starEach es X.env)).any (·.1)=false:=by rfl) :
    PE X (.Call (.Name x p) (e::es) [] pos) (tMake C sp dvs E t):=by
  intro pins s σ H Q I h
  refine wpAny_Call_Name_kw (ld_glob I hg hm ?_ hdb)
  refine PySem.W.callWith_K (h₀:=X.base) I.ok.mod.kin M.kp (thn (ha pos pins s σ H _ I h) fun us s1 ⟨vs,H1,I1,r,q⟩=>⟨I1.kIn,?_⟩) he hpl
  exact run_make M F hr hb hd hx I1 r q
theorem pe_make0 (M:Mk X.K C f) (F:FnOk X.prog X.w X.K X.mg X.base CX k f fd ps sp) (hr:Room (k+1) X.A) (hg:Gl X x) (hm:X.mg x=some (.ref C)) (hb:Binds X.K fd ps ds) (hd:Vals dvs ds) (hx:Passes CX X E)
    (hdb:(x == ("__debug__":Str))=false:=by decide):PE X (.Call (.Name x p) [] [] pos) (tMake C sp dvs E tNil):=by
  intro pins s σ H Q I h
  refine wpAny_Call_Name_kw (ld_glob I hg hm ?_ hdb)
  exact PySem.W.callWith_K0 I.kIn M.kp (run_make (us:=[]) M F hr hb hd hx I .nil h)
end
def PK (X:Cx) (kws:List Keyword) (t:TA):Prop :=
  ∀ (pos:Pos) (pins:List (Addr×Obj)) (s:Shared) (σ:St) (H:Hp) (Q:List V→Hp→Prop),Inv X pins σ H s→t σ H Q→wpAny (model X.prog X.w) X.A (evalAll ((backToKw pos (keywordEach kws X.env)).map (·.2))) (AP X pins σ Q) X.xe s
section
variable {X:Cx} {CX:CXT} {k:Nat} {f C:Addr} {fd:FuncData} {ps ks:List Str} {sp:Sp} {E:XK} {x m:Str} {p pos apos kpos:Pos} {e o:Expr} {es:List Expr} {kws:List Keyword} {te ta:TE} {t tk:TA} {nm:Option Str}
structure KBinds (K:PySem.W.Frag) (fd:FuncData) (ps ks:List Str) (g:List Value→List Value→List Value) (gV:List V→List V→List V):Prop where
  to:∀ (s:Shared) (us ws:List Value),K.In s.heap→(g us ws).length=ps.length→BindsTo s fd ⟨us,ks.zip ws⟩ (ps.zip (g us ws))
  rel:∀ {vs:List V} {us:List Value} {zs:List V} {ws:List Value},Vals vs us→Vals zs ws→Vals (gV vs zs) (g us ws)
def tCallK (sp:Sp) (gV:List V→List V→List V) (E:XK) (t tk:TA):TE:=fun σ H Q=>t σ H fun vs H1=>tk σ H1 fun zs H2=>sp (gV vs zs) H2 Q E
variable {g:List Value→List Value→List Value} {gV:List V→List V→List V}
end
structure FnScope (N P:List Str) (sc:Scope):Prop where
  kind:sc.kind=.function
  co:sc.isCoroutine=false
  gen:sc.isGenerator=false
  nd:N.Nodup
  pre:N.take P.length=P
  par:∀ x∈P,sc.names.lookup x=some .local∨sc.names.lookup x=some .cell
  nofree:∀ y∈sc.names,y.2≠.free
theorem bindL_out {kindOf:Str→Option NameKind} {x:Str}:∀ {binds:List (Str×Value)} {m:Str→Option Value},(∀ v,(x,v)∉binds)→bindL kindOf binds m x=m x
  | [],_,_=>rfl
  | (n,v)::r,m,h=>by
    unfold bindL
    rw [bindL_out fun w hw=>h w (List.mem_cons_of_mem _ hw)]
    split
    · have:x≠n:=by rintro rfl; exact h v List.mem_cons_self
      simp [this]
    · rfl
theorem bindC_out {kindOf:Str→Option NameKind} {x:Str}:∀ {binds:List (Str×Value)} {m:Str→Option Value},(∀ v,(x,v)∉binds)→bindC kindOf binds m x=m x
  | [],_,_=>rfl
  | (n,v)::r,m,h=>by
    unfold bindC
    rw [bindC_out fun w hw=>h w (List.mem_cons_of_mem _ hw)]
    split
    · rfl
    · have:x≠n:=by rintro rfl; exact h v List.mem_cons_self
      simp [this]
theorem bindL_get {kindOf:Str→Option NameKind} {x:Str} {v:Value}:∀ {P:List Str} {vs:List Value} {i:Nat} {m:Str→Option Value},P.Nodup→P[i]?=some x→vs[i]?=some v→kindOf x=some .local→
    bindL kindOf (P.zip vs) m x=some v
  | [],_,_,_,_,h,_,_=>by simp at h
  | _::_,[],_,_,_,_,h,_=>by simp at h
  | p::P,w::vs,0,m,nd,h1,h2,hk=>by
    simp at h1 h2; subst h1; subst h2
    show bindL kindOf ((p,w)::P.zip vs) m p=_
    unfold bindL
    rw [bindL_out fun v hv=>(List.nodup_cons.mp nd).1 (List.of_mem_zip hv).1,if_pos hk]
    simp
  | p::P,w::vs,i+1,m,nd,h1,h2,hk=>by
    show bindL kindOf ((p,w)::P.zip vs) m x=_
    unfold bindL
    exact bindL_get (i:=i) (List.nodup_cons.mp nd).2 (by simpa using h1) (by simpa using h2) hk
theorem bindC_get {kindOf:Str→Option NameKind} {x:Str} {v:Value}:∀ {P:List Str} {vs:List Value} {i:Nat} {m:Str→Option Value},P.Nodup→P[i]?=some x→vs[i]?=some v→kindOf x≠some .local→
    bindC kindOf (P.zip vs) m x=some v
  | [],_,_,_,_,h,_,_=>by simp at h
  | _::_,[],_,_,_,_,h,_=>by simp at h
  | p::P,w::vs,0,m,nd,h1,h2,hk=>by
    simp at h1 h2; subst h1; subst h2
    show bindC kindOf ((p,w)::P.zip vs) m p=_
    unfold bindC
    rw [bindC_out fun v hv=>(List.nodup_cons.mp nd).1 (List.of_mem_zip hv).1,if_neg hk]
    simp
  | p::P,w::vs,i+1,m,nd,h1,h2,hk=>by
    show bindC kindOf ((p,w)::P.zip vs) m x=_
    unfold bindC
    exact bindC_get (i:=i) (List.nodup_cons.mp nd).2 (by simpa using h1) (by simpa using h2) hk
def start (N:List Str) (vs:List V):St:=vs.map some++List.replicate (N.length - vs.length) none
def cxOf (CX:CXT) (P:Program) (w:World) (K:PySem.W.Frag) (mg:Str→Option Value) (base:Heap) (N:List Str) (qual:Str) (scope:Scope) (f:Addr) (cd:Value) (A:Around) (outer:List Env) (s:Shared) (H:Hp) (E:XK):Cx where
  prog:=P
  w:=w
  K:=K
  mg:=mg
  base:=base
  A:=A.deeper (envOfC qual scope s.heap.objs.size f cd)
  N:=N
  s₀:=s
  H₀:=H
  env:=envOfC qual scope s.heap.objs.size f cd
  outer:=outer
  stack:=envOfC qual scope s.heap.objs.size f cd::outer
  ex:=[]
  calm:=true
  fn:=fun _=>true
  pn:=[]
  xe:=fun e s'=>wpAny (model P w) (A.deeper (envOfC qual scope s.heap.objs.size f cd)) (leaving (envOfC qual scope s.heap.objs.size f cd) e) (fun _ s''=>CX outer H s E e s'') (fun e' s''=>CX outer H s E e' s'') s'
theorem cell_has {sc:Scope} {n:Nat} {x:Str} (h:sc.names.lookup x=some .cell):∃ c,(cellsFrom n sc.names []).lookup x=some c:=by
  have q:=PySem.W.cellsFrom_some sc.names n [] (.inl h)
  exact Option.isSome_iff_exists.mp q
theorem inv_start {CX:CXT} {P:Program} {w:World} {K:PySem.W.Frag} {mg:Str→Option Value} {base:Heap} {N ps:List Str} {qual:Str} {scope:Scope} {f:Addr} {cd:Value} {A:Around} {outer:List Env} {s s1:Shared} {H:Hp} {E:XK} {us:List Value} {vs:List V}
    (S:FnScope N ps scope) (hd:A.handled=none) (e0:Env0 P w K mg base A outer s H) (hl:vs.length=ps.length) (r:Vals vs us)
    (x:InCallC s s.heap.objs.size (bindL (envOfC qual scope s.heap.objs.size f cd).kindOf (ps.zip us) fun _=>none) (cellsFrom (s.heap.objs.size+1) scope.names []) (bindC (envOfC qual scope s.heap.objs.size f cd).kindOf (ps.zip us) fun _=>none) s1) :
    Inv (cxOf CX P w K mg base N qual scope f cd A outer s H E) [] (start N vs) H s1:=by
  have hpl:ps.length≤N.length:=by have:=congrArg List.length S.pre; rw [List.length_take] at this; omega
  obtain ⟨h1,tk,rfl,hk⟩:=x.done
  have noA:∀ b:Addr,b∉(cxOf CX P w K mg base N qual scope f cd A outer s H E).ex:=fun b z=>absurd (show b∈([]:List Addr) from z) (by simp)
  refine ⟨⟨e0.mod,S.kind,rfl,rfl,Nat.le_refl _,fun y z c h1 h2=>?_,fun y hy=>?_,fun y c _ h=>?_,fun _=>hd,Around.frames_deeper e0.frames,.inr ⟨rfl,rfl⟩,fun b z=>absurd z (noA b),e0.bs,e0.bsz,fun b _ _=>noA b,fun b z=>absurd z (noA b),e0.funs,e0.frf⟩,
    rfl,e0.bare,Un.kept hk,⟨_,x.toInCall.ns,fun i y v h1 h2 h3=>?_⟩,fun y c h=>⟨_,x.cell y c h⟩,e0.hok.fresh (Nat.le_refl _),fun y c h=>?_,fun p hp=>absurd (show p∈([]:List (Addr×Obj)) from hp) (by simp),e0.hok.kept hk,?_⟩
  · exact name_of_addr x.apart (PySem.mem_of_lookup h1) (PySem.mem_of_lookup h2)
  · have hy:scope.names.lookup y=some .cell∨scope.names.lookup y=some .free:=hy
    rcases hy with hy | hy
    · exact cell_has hy
    · exact absurd rfl (S.nofree _ (PySem.mem_of_lookup hy))
  · exact Nat.le_of_lt (x.above y c (PySem.mem_of_lookup h))
  · have hi:i<vs.length:=by
      unfold start at h2
      by_cases hi:i<vs.length
      · exact hi
      · rw [List.getElem?_append_right (by simpa using hi)] at h2
        rw [List.getElem?_replicate] at h2
        split at h2 <;> cases h2
    have ha:vs[i]?=some v:=by
      unfold start at h2
      rw [List.getElem?_append_left (by simpa using hi),List.getElem?_map] at h2
      cases e:vs[i]? with
      | none=>rw [e] at h2; cases h2
      | some a=>rw [e] at h2; cases h2; rfl
    obtain ⟨u,hu,rv⟩:=r.get ha
    have hp:ps[i]?=some y:=by
      rw [← S.pre,List.getElem?_take_of_lt (by omega)]; exact h1
    have ndP:ps.Nodup:=by rw [← S.pre]; exact S.nd.sublist (List.take_sublist _ _)
    refine ⟨u,rv,?_⟩
    rcases S.par y (List.mem_of_getElem? hp) with k | k
    · exact .inl ⟨k,bindL_get ndP hp hu k⟩
    · obtain ⟨c,e⟩:=cell_has (n:=s.heap.objs.size+1) k
      refine .inr ⟨.inl k,c,e,?_⟩
      have q:=x.cell y c e
      rw [bindC_get ndP hp hu (by show scope.names.lookup y≠_; rw [k]; decide)] at q
      exact q
  · exact e0.hok.fresh (Nat.le_of_lt (x.above y c (PySem.mem_of_lookup h)))
  · unfold start
    show _=N.length
    rw [List.length_append,List.length_map,List.length_replicate]
    omega
theorem fn_of {CX:CXT} {P:Program} {w:World} {K:PySem.W.Frag} {mg:Str→Option Value} {base:Heap} {k:Nat} {f:Addr} {name qual:Str} {params:Arguments} {body:List Stmt} {scope:Scope} {dV kV doc pm cdv ct oc:Value} {an od:Option Addr}
    {osl:Array (Option Value)} {N ps:List Str} {sp:Sp} (lk:K.lookup f=some ⟨oc,od,.func (PySem.W.fnOf name qual params body scope dV kV doc pm an cdv ct),osl⟩) (hcd:PySem.W.codeIn K cdv qual=true) (S:FnScope N ps scope)
    (len:∀ vs H Q E,sp vs H Q E→vs.length=ps.length)
    (hbody:∀ (A:Around) (outer:List Env) (s:Shared) (H:Hp) (vs:List V) (Q:VK) (E:XK),Room k (A.deeper (envOfC qual scope s.heap.objs.size f cdv))→sp vs H Q E→
      ∃ t,PSs (cxOf CX P w K mg base N qual scope f cdv A outer s H E) body t∧t { nx:=fun _ H'=>Q .non H',rt:=Q } (start N vs) H) :
    FnOk P w K mg base CX (k+1) f (PySem.W.fnOf name qual params body scope dV kV doc pm an cdv ct) ps sp:=by
  refine ⟨len,fun A outer s H args us vs Q E hr e0 hb r hsp=>?_⟩
  have hl:=len _ _ _ _ hsp
  have KX:K.In s.heap:=e0.mod.kin.keeps fun b o e=>(e0.bs b o e).1
  have lim:s.heap.NoLimit:=e0.mod.nolimit.keeps fun b o e=>(e0.bs b o e).1
  have hkind:∀ y∈ps.zip us,scope.names.lookup y.1=some .local∨(scope.names.lookup y.1=some .cell∧((cellsFrom (s.heap.objs.size+1) scope.names []).lookup y.1).isSome=true):=fun ⟨n,v⟩ hy=>by
    rcases S.par n (List.of_mem_zip hy).1 with q | q
    · exact .inl q
    · exact .inr ⟨q,PySem.W.cellsFrom_some _ _ _ (.inl q)⟩
  refine codeAny_call_function hr.depth (KX _ _ lk) rfl S.co S.gen rfl (PySem.W.codeRec_of KX hcd) (hb _ _ _ _ ?_)
  refine wpAny_newFunctionEnv_cells S.kind hkind fun env he s1 x=>?_
  subst he
  refine ⟨lim.keeps x.toInCall.keep,codeAny_func ?_⟩
  obtain ⟨t,ht,hq⟩:=hbody A outer s H vs Q E (hr.deeper _) hsp
  have I:Inv (cxOf CX P w K mg base N qual scope f cdv A outer s H E) [] (start N vs) H s1:=inv_start S hr.hd e0 hl r x
  refine wpAny_mono (ht [] s1 (start N vs) H _ I hq) (fun fl s' hs=>?_) fun e s' hs=>hs
  have fin:∀ {σ':St} {H':Hp} {v:V} {u:Value},Inv (cxOf CX P w K mg base N qual scope f cdv A outer s H E) [] σ' H' s'→RelV v u→Q v H'→CE outer P w H s Q u s' :=
    fun {σ' H' v u} J rv q=>⟨v,H',J.os,J.bare,J.base,J.hok,rv,q⟩
  cases fl with
  | ret u =>
    obtain ⟨v,σ',H',J,rv,q⟩:=hs
    exact fin J rv q
  | next =>
    obtain ⟨σ',H',J,q⟩:=hs
    exact fin (v:=V.non) (u:=Value.none) J rfl q
  | brk =>
    obtain ⟨_,_,_,q⟩:=hs
    exact False.elim q
  | cont =>
    obtain ⟨_,_,_,q⟩:=hs
    exact False.elim q
end L2
namespace L2
open PySem PySem.Spec PyProof.Rows
section
variable {X:Cx} {x:Str} {p pos:Pos} {e:Expr} {es:List Expr} {t:TA} {id T:String} {r:List V→Hp→VK→Prop}
def tCB (r:List V→Hp→VK→Prop) (t:TA):TE:=fun σ H Q=>t σ H fun vs H1=>r vs H1 Q
theorem pe_callB (hc:CallR X (.builtin id) r) (hg:Gl X x) (hm:X.mg x=none) (hv:bootBuiltins x=some (.builtin id)) (ha:PA X (e::es) t) (hn:x≠"__name__":=by decide) (hdb:(x == ("__debug__":Str))=false:=by decide)
    (he:starEach (e::es) X.env=(false,eval e X.env)::starEach es X.env:=by rfl) (hpl:(backTo pos (starEach es X.env)).any (·.1)=false:=by rfl):PE X (.Call (.Name x p) (e::es) [] pos) (tCB r t):=by
  intro pins s σ H Q I h
  refine wpAny_Call_Name_kw (ld_blt I hg hm hv ?_ hn hdb)
  exact PyProof.Rows.callWith_builtin1 (thn (ha pos pins s σ H _ I h) fun us s1 ⟨vs,H1,I1,r1,q1⟩=>hc pins s1 σ H1 vs us Q I1 r1 q1) he hpl
theorem pe_callTy (hc:CallR X (.type T) r) (hg:Gl X x) (hm:X.mg x=none) (hv:bootBuiltins x=some (.type T)) (ha:PA X (e::es) t) (hn:x≠"__name__":=by decide) (hdb:(x == ("__debug__":Str))=false:=by decide)
    (he:starEach (e::es) X.env=(false,eval e X.env)::starEach es X.env:=by rfl) (hpl:(backTo pos (starEach es X.env)).any (·.1)=false:=by rfl):PE X (.Call (.Name x p) (e::es) [] pos) (tCB r t):=by
  intro pins s σ H Q I h
  refine wpAny_Call_Name_kw (ld_blt I hg hm hv ?_ hn hdb)
  exact PyProof.Rows.callWith_type1 (thn (ha pos pins s σ H _ I h) fun us s1 ⟨vs,H1,I1,r1,q1⟩=>hc pins s1 σ H1 vs us Q I1 r1 q1) he hpl
end
end L2
namespace HT
open PySem PyProof.Rows
def lexLt:List Int→List Int→Bool
  | [],[]=>false
  | [],_::_=>true
  | _::_,[]=>false
  | x::xs,y::ys=>if x=y then lexLt xs ys else decide (x<y)
section
open PySem.SeqAt
open PySem.AutoSeq1 (wpAny_loadPart')
open PySem.MeetsSeq PySem.MeetsSeq2 PySem.MeetsSeq3
end
section
variable {prog:Program} {w:World} {A:Around} {E:Value→Shared→Prop} {s:Shared}
theorem cat_tup {t b:Addr} {vs ws:List Value} {Q:Value→Shared→Prop} (ht:IsTup s.heap t vs.toArray) (hb:IsTup s.heap b ws.toArray) (hv:vs≠[])
    (h1:ws=[]→Q (.ref t) s) (h2:ws≠[]→Q (.ref s.heap.objs.size) { s with heap:=s.heap.push { cls:=.type "tuple",data:=.seq (vs++ws).toArray } })
    (hsz:vs.length+ws.length≤sizeLine):wpAny (model prog w) A (binaryOp .Add (.ref t) (.ref b)) Q E s:=by
  obtain ⟨⟨cls,dd,data,sl⟩,ho,hc,n,hd⟩:=id ht
  obtain ⟨⟨cls2,dd2,data2,sl2⟩,ho2,hc2,n2,hd2⟩:=id hb
  simp only at hc hd hc2 hd2
  subst hc hd hc2 hd2
  have e:vs.toArray++ws.toArray=(vs++ws).toArray:=by simp
  by_cases hw:ws=[]
  · exact concat_meets ⟨_,ho,rfl⟩ ⟨_,ho2,rfl⟩ noFill_tuple_add seq_tuple_add PySem.F.slot_tuple_add PySem.F.entry_tuple_add (PySem.F.args_tuple_add_2 _ _)
      (tuple_addW1 t b vs.toArray ws.toArray n n2 dd dd2 sl sl2 (by simpa using hv) (by simp [hw])) ⟨ho,ho2,h1 hw⟩
  · refine concat_meets ⟨_,ho,rfl⟩ ⟨_,ho2,rfl⟩ noFill_tuple_add seq_tuple_add PySem.F.slot_tuple_add PySem.F.entry_tuple_add (PySem.F.args_tuple_add_2 _ _)
      (tuple_addW2 t b vs.toArray ws.toArray n n2 dd dd2 sl sl2 (by simpa using hv) (by simpa using hw) (by rw [List.size_toArray,List.size_toArray]; exact hsz)) ⟨ho,ho2,?_⟩
    rw [e]
    exact h2 hw
def sIx (n d:Nat):Option Int→Nat
  | none=>d
  | some v=>if v<0 then (v+(n:Int)).toNat else min v.toNat n
theorem sIx_none (n d:Nat):sIx n d none=d:=rfl
theorem sIx_nat (n d k:Nat):sIx n d (some (k:Int))=min k n:=by
  show (if (k:Int)<0 then ((k:Int)+(n:Int)).toNat else min (k:Int).toNat n)=min k n
  rw [if_neg (by omega),Int.toNat_natCast]
theorem sIx_le (n d:Nat) (hd:d≤n) (o:Option Int):sIx n d o≤n:=by
  cases o with
  | none=>exact hd
  | some v =>
    show (if v<0 then (v+(n:Int)).toNat else min v.toNat n)≤n
    by_cases hv:v<0
    · rw [if_pos hv]; omega
    · rw [if_neg hv]; exact Nat.min_le_right _ _
theorem clip_eq (v:Int) (n d:Nat):(if v<0 then max (v+(n:Int)) 0 else min v (n:Int))=((sIx n d (some v):Nat):Int):=by
  show (if v<0 then max (v+(n:Int)) 0 else min v (n:Int))=(((if v<0 then (v+(n:Int)).toNat else min v.toNat n):Nat):Int)
  by_cases hv:v<0
  · simp only [if_pos hv]; omega
  · simp only [if_neg hv]; omega
theorem adjust_gen (lo hi:Option Int) (n:Nat):Builtin.Slice.sliceAdjust lo hi 1 (n:Int)=(((sIx n 0 lo:Nat):Int),((sIx n n hi:Nat):Int)):=by
  have h1:¬ ((1:Int)<0):=by omega
  unfold Builtin.Slice.sliceAdjust
  simp only [h1,if_false]
  refine Prod.ext ?_ ?_
  · cases lo with
    | none=>rfl
    | some v=>exact clip_eq v n 0
  · cases hi with
    | none=>rfl
    | some v=>exact clip_eq v n n
theorem places_gen (i j:Nat):Builtin.Slice.slicePlaces (i:Int) (j:Int) 1=j - i:=by
  unfold Builtin.Slice.slicePlaces
  have h1:(1:Int) > 0:=by omega
  simp only [h1,if_true,Int.ediv_one]
  split <;> omega
theorem slicePart_ {v:Value} {o:Option Int} {Q:Option Int→Shared→Prop} (p:IsPart v o) (h:Q o s):wpAny (model prog w) A (Builtin.Slice.slicePartIndex v) Q E s:=by
  cases p with
  | none=>exact slicePart_none h
  | int i t=>exact slicePart_int h
theorem sliceApplied_gen {sl:Addr} {vl vu:Value} {lo hi:Option Int} {n:Nat} {Q:Int×Int×Nat→Shared→Prop} (hs:s.heap.IsSliceOf sl vl vu .none) (pl:IsPart vl lo) (pu:IsPart vu hi)
    (h:Q (((sIx n 0 lo:Nat):Int),1,sIx n n hi - sIx n 0 lo) s):wpAny (model prog w) A (Builtin.Slice.sliceApplied (.ref sl) (pure (n:Int))) Q E s:=by
  obtain ⟨os,hos,hcs,hds⟩:=id hs
  unfold Builtin.Slice.sliceApplied Builtin.Slice.sliceFields
  refine wpAny_bind (wpAny_bind (wpAny_field hos hds (x:=vl) rfl (wpAny_bind (wpAny_field hos hds (x:=vu) rfl (wpAny_bind (wpAny_field hos hds (x:=.none) rfl (wpAny_pure ?_)))))))
  refine wpAny_bind (slicePart_none ?_)
  show wpAny _ _ (if ((1:Int) == 0)=true then _ else _) _ _ s
  rw [if_neg (by decide)]
  refine wpAny_bind (slicePart_ pl (wpAny_bind (slicePart_ pu (wpAny_bind (wpAny_pure ?_)))))
  show wpAny _ _ (match Builtin.Slice.sliceAdjust lo hi 1 (n:Int) with | (lo,hi)=>pure (lo,(1:Int),Builtin.Slice.slicePlaces lo hi 1)) _ _ s
  rw [adjust_gen lo hi n]
  show wpAny _ _ (pure (((sIx n 0 lo:Nat):Int),(1:Int),Builtin.Slice.slicePlaces ((sIx n 0 lo:Nat):Int) ((sIx n n hi:Nat):Int) 1)) _ _ s
  rw [places_gen]
  exact wpAny_pure h
theorem pick_gen (xs:Array Value) (i k:Nat):((List.range k).filterMap fun (m:Nat)=>xs[((i:Int)+(m:Int) * 1).toNat]?).toArray=((xs.toList.drop i).take k).toArray:=by
  have e:(fun (m:Nat)=>xs[((i:Int)+(m:Int) * 1).toNat]?)=fun m=>xs[i+m]?:=by
    funext m
    have:((i:Int)+(m:Int) * 1).toNat=i+m:=by omega
    rw [this]
  rw [e]
  have:=pick_run xs i k
  rw [List.filterMap_map] at this
  have e2:((fun x=>xs[x]?) ∘ fun x=>i+x)=fun m=>xs[i+m]?:=rfl
  rw [e2] at this
  rw [this]
theorem getItem_tuple_cut {t sl:Addr} {items:Array Value} {vl vu:Value} {lo hi:Option Int} {Q:Value→Shared→Prop} (ht:IsTup s.heap t items) (hs:s.heap.IsSliceOf sl vl vu .none) (pl:IsPart vl lo) (pu:IsPart vu hi)
    (hw:¬ (sIx items.size 0 lo=0∧sIx items.size items.size hi=items.size))
    (h:Q (.ref s.heap.objs.size) { s with heap:=s.heap.push { cls:=.type "tuple",data:=.seq ((items.toList.drop (sIx items.size 0 lo)).take (sIx items.size items.size hi - sIx items.size 0 lo)).toArray } })
    (hsz:items.size≤sizeLine):wpAny (model prog w) A (getItem (.ref t) (.ref sl)) Q E s:=by
  have htake:sizeOk (.seq ((items.toList.drop (sIx items.size 0 lo)).take (sIx items.size items.size hi - sIx items.size 0 lo)).toArray):=by
    show ((items.toList.drop (sIx items.size 0 lo)).take (sIx items.size items.size hi - sIx items.size 0 lo)).toArray.size≤sizeLine
    rw [List.size_toArray,List.length_take,List.length_drop,Array.length_toList]
    omega
  have hj:sIx items.size items.size hi≤items.size:=sIx_le _ _ (Nat.le_refl _) hi
  obtain ⟨os,hos,hcs,hds⟩:=id hs
  have hTs:s.TypeIs (.ref sl) "slice":=⟨os,hos,hcs⟩
  unfold getItem
  try with_reducible refine wpAny_holding ?_
  first | refine wpAny_bind (wpAny_pure ?_) | skip
  refine wpAny_bind (wpAny_sequenceKey ht.typeIs (by decide) ?_)
  refine wpAny_bind (wpAny_callSpecial?_slot (name:=Str.ofString "__getitem__") ht.typeIs PyProof.Rows.slot_tuple_getitem
    (wpAny_call_entry PyProof.Rows.slot_tuple_getitem ht.typeIs entry_tuple_getitem ?_ (args_tuple_getitem _ _)))
  show wpAny _ _ (Builtin.Tuple.tupleItemsOf (.ref t) >>= _) _ _ s
  refine wpAny_bind (tupleItemsOf_ ht ?_)
  refine wpAny_bind (wpAny_typeOf hTs ?_)
  rw [if_pos (by decide)]
  refine wpAny_bind (sliceApplied_gen hs pl pu ?_)
  have hno:¬ ((((sIx items.size 0 lo:Nat):Int) == 0 && (1:Int) == 1 && (sIx items.size items.size hi - sIx items.size 0 lo) == items.size)=true):=by
    intro q
    rw [Bool.and_eq_true,Bool.and_eq_true] at q
    have q1:((sIx items.size 0 lo:Nat):Int)=0:=eq_of_beq q.1.1
    have q2:sIx items.size items.size hi - sIx items.size 0 lo=items.size:=eq_of_beq q.2
    exact hw ⟨by omega,by omega⟩
  show wpAny _ _ (if (((sIx items.size 0 lo:Nat):Int) == 0 && (1:Int) == 1 && (sIx items.size items.size hi - sIx items.size 0 lo) == items.size)=true then _ else _) _ _ s
  rw [if_neg hno,pick_gen]
  first
    | exact wpAny_bind (m:=Builtin.Tuple.tupleExact _) (wpAny_newObj_type (wpAny_pure ⟨_,rfl,wpAny_pure h⟩) htake)
    | exact wpAny_bind (m:=Builtin.Tuple.tupleExact _) (wpAny_newObj_type (wpAny_bind (wpAny_pure (wpAny_pure ⟨_,rfl,wpAny_pure h⟩))) htake)
    | exact wpAny_bind (wpAny_bind (m:=Builtin.Tuple.tupleExact _) (wpAny_newObj_type (wpAny_pure (wpAny_pure ⟨_,rfl,wpAny_pure h⟩)) htake))
    | exact wpAny_bind (wpAny_bind (m:=Builtin.Tuple.tupleExact _) (wpAny_newObj_type (wpAny_pure ⟨_,rfl,wpAny_pure h⟩) htake))
end
end HT
namespace L2
open PySem PySem.Spec PyProof.Rows
abbrev TO:=St→Hp→(Option Int→Hp→Prop)→Prop
def PO (X:Cx) (e:Option Expr) (t:TO):Prop :=
  ∀ (pins:List (Addr×Obj)) (s:Shared) (σ:St) (H:Hp) (Q:Option Int→Hp→Prop),Inv X pins σ H s→t σ H Q→
    wpAny (model X.prog X.w) X.A (evalPart e X.env) (fun u s'=>∃ o H',Inv X pins σ H' s'∧IsPart u o∧Q o H') X.xe s
def tNoPart:TO:=fun _ H Q=>Q none H
def tPart (t:TE):TO:=fun σ H Q=>t σ H fun x H1=>∃ i,x=.int i∧Q (some i) H1
theorem intsAre_of {ns:List Int}:∀ {us:List Value},Vals (ns.map V.int) us→IntsAre us ns:=by
  induction ns with
  | nil=>intro us r; rw [List.map_nil] at r; cases r; exact .nil
  | cons n ns ih =>
    intro us r
    rw [List.map_cons] at r
    cases r with
    | cons r1 r2 =>
      obtain ⟨t,e⟩:=r1
      subst e
      exact .cons n t (ih r2)
section
variable {X:Cx} {e:Expr} {te:TE} {lo hi:Option Expr} {tl th:TO} {pos p2:Pos}
theorem po_none:PO X none tNoPart:=by
  intro pins s σ H Q I h
  rw [evalPart_none]
  exact wpAny_pure ⟨none,H,I,.none,h⟩
theorem po_some (h:PE X e te):PO X (some e) (tPart te):=by
  intro pins s σ H Q I hw
  rw [evalPart_some]
  refine thn (h pins s σ H _ I hw) fun u s1 ⟨x,H1,I1,r1,q1⟩=>?_
  obtain ⟨i,rfl,q⟩:=q1
  obtain ⟨t,rfl⟩:=r1
  exact ⟨some i,H1,I1,.int i t,q⟩
def SlR (X:Cx) (r:V→Option Int→Option Int→Hp→VK→Prop):Prop :=
  ∀ (pins:List (Addr×Obj)) (s:Shared) (σ:St) (H:Hp) (x:V) (v vl vu:Value) (lo hi:Option Int) (sl:Addr) (Q:VK),Inv X pins σ H s→RelV x v→s.heap.IsSliceOf sl vl vu .none→IsPart vl lo→IsPart vu hi→r x lo hi H Q→
    ∃ T id,typeLookup (.type T) "__getitem__"=pure (some (.builtin id))∧s.TypeIs v T∧wpAny (model X.prog X.w) X.A (getItem v (.ref sl)) (EP X pins σ Q) X.xe s
def tSl (r:V→Option Int→Option Int→Hp→VK→Prop) (te:TE) (tl th:TO):TE:=fun σ H Q=>te σ H fun x H1=>tl σ H1 fun l H2=>th σ H2 fun u H3=>r x l u H3 Q
theorem pe_slice {r:V→Option Int→Option Int→Hp→VK→Prop} (hr:SlR X r) (he:PE X e te) (hl:PO X lo tl) (hu:PO X hi th):PE X (.Subscript e (.Slice lo hi none p2) pos) (tSl r te tl th):=by
  intro pins s σ H Q I h
  refine Subscript_ (thn (he pins s σ H _ I h) fun v s1 ⟨x,H1,I1,r1,q1⟩=>?_)
  refine wpAny_Slice (thn (hl pins s1 σ H1 _ I1 q1) fun vl s2 ⟨l,H2,I2,pl,q2⟩=>thn (hu pins s2 σ H2 _ I2 q2) fun vu s3 ⟨u,H3,I3,pu,q3⟩=>?_)
  rw [evalPart_none]
  refine wpAny_pure ?_
  have I4:Inv X pins σ H3 { s3 with heap:=s3.heap.push { cls:=.type "slice",data:=.fields #[vl,vu,.none] } }:=I3.kept (t':=s3.toks) fun b ob q=>Heap.get?_push_of_some _ q
  obtain ⟨T,id,hT,ht,hg⟩:=hr pins { s3 with heap:=s3.heap.push { cls:=.type "slice",data:=.fields #[vl,vu,.none] } } σ H3 x v vl vu l u s3.heap.objs.size Q I4 r1 (Heap.IsSliceOf.new ..) pl pu q3
  show wpAny (model X.prog X.w) X.A (subscriptTail e (.Slice lo hi none p2) v (.ref s3.heap.objs.size)) (EP X pins σ Q) X.xe { s3 with heap:=s3.heap.push { cls:=.type "slice",data:=.fields #[vl,vu,.none] } }
  exact tail_any (ops:=[.ref s3.heap.objs.size,v]) ht hT hg (by with_unfolding_all rfl)
def cutV (xs:List V) (lo hi:Option Int):List V:=(xs.drop (HT.sIx xs.length 0 lo)).take (HT.sIx xs.length xs.length hi - HT.sIx xs.length 0 lo)
theorem cutV_length (xs:List V) (lo hi:Option Int):(cutV xs lo hi).length≤xs.length:=by
  unfold cutV
  rw [List.length_take,List.length_drop]
  omega
def rSlT (K:PySem.W.Frag):V→Option Int→Option Int→Hp→VK→Prop:=fun x lo hi H Q=>∃ a xs,x=.ref a∧SqT K H a xs∧
  ¬ (HT.sIx xs.length 0 lo=0∧HT.sIx xs.length xs.length hi=xs.length)∧∀ p,H p=none→Q (.ref p) (upd H p (.tup (cutV xs lo hi)))
theorem sl_tup:SlR X (rSlT X.K):=by
  intro pins s σ H x v vl vu lo hi sl Q I rx hs pl pu h
  obtain ⟨a,xs,rfl,hx,hw,q⟩:=h
  cases rx
  obtain ⟨its,r,ht,hz⟩:=I.tuple hx
  have hlen:its.toArray.size=xs.length:=by rw [List.size_toArray]; exact r.length.symm
  refine ⟨"tuple",_,PyProof.Rows.slot_tuple_getitem.lookup,ht.typeIs,?_⟩
  refine HT.getItem_tuple_cut ht hs pl pu (by rw [hlen]; exact hw) ?_ (by rw [hlen]; exact hz)
  rw [hlen]
  refine ⟨.ref s.heap.objs.size,_,I.laid (t':=s.toks) (o:=.tup (cutV xs lo hi)) (fun b ob q=>Heap.get?_push_of_some _ q) (Nat.le_refl _) ?_,rfl,q _ (I.hok.fresh (Nat.le_refl _))⟩
  exact ⟨Nat.le_trans (cutV_length xs lo hi) hz,_,(r.drop (HT.sIx xs.length 0 lo)).take (HT.sIx xs.length xs.length hi - HT.sIx xs.length 0 lo),IsTup.new _ _⟩
def rLtT (K:PySem.W.Frag):R2:=fun x y H Q=>∃ a b ns ms,x=.ref a∧y=.ref b∧SqT K H a (ns.map V.int)∧SqT K H b (ms.map V.int)∧Q (.bl (HT.lexLt ns ms)) H
def rCatT (K:PySem.W.Frag):R2:=fun x y H Q=>∃ a b xs ys,x=.ref a∧y=.ref b∧SqT K H a xs∧SqT K H b ys∧xs≠[]∧xs.length+ys.length≤sizeLine∧
  (ys=[]→Q (.ref a) H)∧(ys≠[]→∀ p,H p=none→Q (.ref p) (upd H p (.tup (xs++ys))))
theorem Vals.nil_iff {xs:List V} {us:List Value} (r:Vals xs us):us=[]↔xs=[]:=by
  cases r with
  | nil=>simp
  | cons _ _=>simp
theorem op_catT:OpR X (binaryOp .Add) (rCatT X.K):=by
  intro pins s σ H x y v u Q I rx ry h
  obtain ⟨a,b,xs,ys,rfl,rfl,ha,hb,hx,hz,q1,q2⟩:=h
  cases rx
  cases ry
  obtain ⟨its,r1,p1,_⟩:=I.tuple ha
  obtain ⟨its2,r2,p2,_⟩:=I.tuple hb
  refine HT.cat_tup p1 p2 (fun z=>hx (r1.nil_iff.mp z)) (fun z=>⟨.ref a,H,I,rfl,q1 (r2.nil_iff.mp z)⟩) (fun z=>?_) (by rw [← r1.length,← r2.length]; exact hz)
  refine ⟨.ref s.heap.objs.size,_,I.laid (t':=s.toks) (o:=.tup (xs++ys)) (fun b ob q=>Heap.get?_push_of_some _ q) (Nat.le_refl _) ?_,rfl,q2 (fun w=>z (r2.nil_iff.mpr w)) _ (I.hok.fresh (Nat.le_refl _))⟩
  exact ⟨by rw [List.length_append]; exact hz,_,r1.append r2,IsTup.new _ _⟩
end
end L2
namespace L2
open PySem PySem.Spec PyProof.Rows
def ixN (n:Nat) (i:Int):Option Nat:=if 0≤i then (if i<n then some i.toNat else none) else if -(n:Int)≤i then some (i+n).toNat else none
def atI {α:Type} (xs:List α) (i:Int):Option α:=(ixN xs.length i).bind fun j=>xs[j]?
theorem ixN_seq {n:Nat} {i:Int} {j:Nat} (h:ixN n i=some j):seqIndex? i n=some j∧j<n∧-(n:Int)≤i∧i<n:=by
  unfold ixN at h
  by_cases h0:0≤i
  · rw [if_pos h0] at h
    by_cases h1:i<n
    · rw [if_pos h1] at h
      have e:i.toNat=j:=Option.some.inj h
      exact ⟨by rw [seqIndex_of h0 h1,e],by omega,by omega,h1⟩
    · rw [if_neg h1] at h; cases h
  · rw [if_neg h0] at h
    by_cases h1:-(n:Int)≤i
    · rw [if_pos h1] at h
      have e:(i+n).toNat=j:=Option.some.inj h
      exact ⟨by rw [seqIndex_neg (by omega) h1,e],by omega,h1,by omega⟩
    · rw [if_neg h1] at h; cases h
theorem atI_get {α:Type} {xs:List α} {i:Int} {v:α} (h:atI xs i=some v):∃ j,seqIndex? i xs.length=some j∧xs[j]?=some v∧j<xs.length∧-(xs.length:Int)≤i∧i<xs.length:=by
  unfold atI at h
  cases e:ixN xs.length i with
  | none=>rw [e] at h; cases h
  | some j =>
    rw [e] at h
    obtain ⟨h1,h2,h3,h4⟩:=ixN_seq e
    exact ⟨j,h1,h,h2,h3,h4⟩
theorem atI_nat {α:Type} {xs:List α} {j:Nat} {v:α} (h:xs[j]?=some v):atI xs (j:Int)=some v:=by
  have hj:j<xs.length:=(List.getElem?_eq_some_iff.mp h).1
  have e:ixN xs.length (j:Int)=some j:=by
    unfold ixN
    rw [if_pos (by omega),if_pos (by omega)]; simp
  unfold atI; rw [e]; exact h
theorem atI_last {α:Type} (xs:List α) (v:α):atI (xs++[v]) (-1)=some v:=by
  have hl:(xs++[v]).length=xs.length+1:=by simp
  have e:ixN (xs++[v]).length (-1)=some xs.length:=by
    unfold ixN
    rw [hl,if_neg (by decide),if_pos (by omega)]
    congr 1
    omega
  unfold atI
  rw [e]
  show (xs++[v])[xs.length]?=some v
  simp
def PlainIx (b:Expr):Prop:=∀ o i,subscripted b false o i=operate [o,i] (getItem o i)
def IxR (X:Cx) (r:R2):Prop :=
  ∀ (value slice:Expr) (pins:List (Addr×Obj)) (s:Shared) (σ:St) (H:Hp) (x y:V) (v u:Value) (Q:VK),Inv X pins σ H s→RelV x v→RelV y u→r x y H Q→
    subscripted slice false v u=operate [v,u] (getItem v u)→wpAny (model X.prog X.w) X.A (subscriptTail value slice v u) (EP X pins σ Q) X.xe s
def MtR (X:Cx) (id:String) (r:V→List V→Hp→VK→Prop):Prop :=
  ∀ (pins:List (Addr×Obj)) (s:Shared) (σ:St) (H:Hp) (x:V) (xs:List V) (v:Value) (us:List Value) (Q:VK),Inv X pins σ H s→RelV x v→Vals xs us→r x xs H Q→
    wpAny (model X.prog X.w) X.A (call (.builtin id) (v::us)) (EP X pins σ Q) X.xe s
section
variable {X:Cx} {a b:Expr} {ta tb:TE} {pos:Pos}
theorem pe_ix {r:R2} (hr:IxR X r) (ha:PE X a ta) (hb:PE X b tb) (hs:PlainIx b):PE X (.Subscript a b pos) (tOp r ta tb):=by
  intro pins s σ H Q I h
  exact Subscript_ (binT ha hb I h fun v u s2 x y H2 I2 rx ry q=>hr a b pins s2 σ H2 x y v u Q I2 rx ry q (hs _ _))
def rIxL (K:PySem.W.Frag):R2:=fun x y H Q=>∃ p xs i v,x=.ref p∧y=.int i∧SqL K H p xs∧atI xs i=some v∧Q v H
def rIxT (K:PySem.W.Frag):R2:=fun x y H Q=>∃ p xs i v,x=.ref p∧y=.int i∧SqT K H p xs∧atI xs i=some v∧Q v H
def rIxS:R2:=fun x y H Q=>∃ z i c,x=.str z∧y=.int i∧z.length≤sizeLine∧atI z.cps.toList i=some c∧Q (.str ⟨#[c]⟩) H
theorem ix_list:IxR X (rIxL X.K):=by
  intro value slice pins s σ H x y v u Q I rx ry h hs
  obtain ⟨p,xs,i,z,rfl,rfl,hq,he,q⟩:=h
  cases rx
  obtain ⟨t,rfl⟩:=ry
  obtain ⟨its,r,pl,hz⟩:=I.list hq
  obtain ⟨j,h1,h2,h3,h4,h5⟩:=atI_get he
  obtain ⟨w,ew,rw'⟩:=r.get h2
  have hl:=r.length
  have hn:=line63
  have fin:EP X pins σ Q w s:=⟨z,H,I,rw',q⟩
  by_cases h0:0≤i
  · have hj:i.toNat=j:=by
      rw [seqIndex_of h0 h5] at h1
      exact Option.some.inj h1
    exact item_listR pl.isList h0 (by omega) (by rw [hj]; simpa using ew) fin hs
  · have hj:(i+(its.toArray.size:Int)).toNat=j:=by
      rw [seqIndex_neg (by omega) h4] at h1
      rw [List.size_toArray,← hl]
      exact Option.some.inj h1
    exact subscriptTail_builtinR (x:=w) pl.isList.typeIs slot_list_getitem.lookup
      (wpAny_getItem_list_neg (Q:=fun r s'=>r=w∧EP X pins σ Q r s') pl.isList (by omega) (by rw [List.size_toArray] <;> omega) (by omega) (by rw [hj]; simpa using ew) ⟨rfl,fin⟩) hs
theorem ix_tup:IxR X (rIxT X.K):=by
  intro value slice pins s σ H x y v u Q I rx ry h hs
  obtain ⟨p,xs,i,z,rfl,rfl,hq,he,q⟩:=h
  cases rx
  obtain ⟨t,rfl⟩:=ry
  obtain ⟨its,r,pl,hz⟩:=I.tuple hq
  obtain ⟨j,h1,h2,h3,h4,h5⟩:=atI_get he
  obtain ⟨w,ew,rw'⟩:=r.get h2
  have hl:=r.length
  have hn:=line63
  have fin:EP X pins σ Q w s:=⟨z,H,I,rw',q⟩
  exact subscriptTail_builtinR (x:=w) pl.typeIs slot_tuple_getitem.lookup
    (getItem_tuple (j:=j) (Q:=fun r s'=>r=w∧EP X pins σ Q r s') pl (by omega) (by omega) (by rw [List.size_toArray,← hl]; exact h1) (by simpa using ew) ⟨rfl,fin⟩) hs
theorem ix_str:IxR X rIxS:=by
  intro value slice pins s σ H x y v u Q I rx ry h hs
  obtain ⟨z,i,c,rfl,rfl,hz,he,q⟩:=h
  obtain ⟨t,rfl⟩:=rx
  obtain ⟨t',rfl⟩:=ry
  obtain ⟨j,h1,h2,h3,h4,h5⟩:=atI_get he
  have hl:z.cps.toList.length=z.length:=by simp [Str.length]
  rw [hl] at h1 h4 h5
  have hn:=line63
  exact tail_any (typeIs_str s z t) slot_str_getitem.lookup (getItem_str (c:=c) (by
    have e1:decide (i < -(2 ^ 63:Int))=false:=decide_eq_false (by omega)
    have e2:decide (i ≥ 2 ^ 63)=false:=decide_eq_false (by omega)
    rw [e1,e2,Bool.or_false]) (by rw [h1]; simpa using h2) ⟨.str ⟨#[c]⟩,H,I.tok _,⟨_,rfl⟩,q⟩) hs
def rIx (K:PySem.W.Frag):R2:=fun x y H Q=>rIxL K x y H Q∨rIxT K x y H Q∨rIxS x y H Q
theorem mapSeq_set (its:List Value) (n j:Nat) (u:Value):Obj.mapSeq (·.setIfInBounds j u) { cls:=.type "list",data:=.seq its.toArray n }={ cls:=.type "list",data:=.seq (its.set j u).toArray n }:=by
  simp [Obj.mapSeq]
theorem Inv.lst {pins:List (Addr×Obj)} {σ:St} {H:Hp} {s:Shared} {p:Addr} {xs:List V} (I:Inv X pins σ H s) (h:H p=some (.lst xs)) :
    ∃ (its:List Value) (n:Nat),Vals xs its∧s.heap.get? p=some { cls:=.type "list",data:=.seq its.toArray n }∧xs.length≤sizeLine:=by
  obtain ⟨z,its,n,r,e⟩:=I.hok p _ h
  exact ⟨its,n,r,e,z⟩
theorem Inv.lstUpd {pins:List (Addr×Obj)} {σ:St} {H:Hp} {s:Shared} {p:Addr} {xs ys:List V} {its its':List Value} {n n':Nat} {f:Obj→Obj} (I:Inv X pins σ H s) (h:H p=some (.lst xs))
    (ho:s.heap.get? p=some { cls:=.type "list",data:=.seq its.toArray n }) (hf:f { cls:=.type "list",data:=.seq its.toArray n }={ cls:=.type "list",data:=.seq its'.toArray n' }) (r:Vals ys its') (hz:ys.length≤sizeLine) (t:Nat) :
    Inv X pins σ (upd H p (.lst ys)) { s with heap:=s.heap.update p f,toks:=t }:=by
  have e:(s.heap.update p f).get? p=some { cls:=.type "list",data:=.seq its'.toArray n' }:=by
    rw [Heap.get?_update_self f ho (by rw [hf] <;> rfl),hf]
  refine I.write (x:=p) (e:=p) (by rw [h]; trivial) (.inl rfl) (fun b u hb q=>(Heap.get?_update_other _ _ (Ne.symm hb)).trans q) ⟨_,e⟩ ?_
  exact ⟨hz,its',n',r,e⟩
def rSetL:V→V→V→Hp→(Hp→Prop)→Prop:=fun o i v H Q=>∃ p xs k j,o=.ref p∧i=.int k∧H p=some (.lst xs)∧ixN xs.length k=some j∧Q (upd H p (.lst (xs.set j v)))
theorem set_list:PSet X rSetL:=by
  intro pins s σ H o i v ov iv u Q I ro ri rv h
  obtain ⟨p,xs,k,j,rfl,rfl,hp,hj,q⟩:=h
  cases ro
  obtain ⟨t,rfl⟩:=ri
  obtain ⟨its,n,r,ho,hz⟩:=I.lst hp
  obtain ⟨h1,h2,h3,h4⟩:=ixN_seq hj
  have hl:=r.length
  have hn:=line63
  have I':Inv X pins σ (upd H p (.lst (xs.set j v))) { s with heap:=s.heap.update p (Obj.mapSeq (·.setIfInBounds j u)) } :=
    I.lstUpd hp ho (mapSeq_set its n j u) (r.set rv j) (by rw [List.length_set]; exact hz) s.toks
  by_cases h0:0≤k
  · have hk:k.toNat=j:=by
      rw [seqIndex_of h0 h4] at h1
      exact Option.some.inj h1
    exact PySem.W.ki_setAt ho h0 (by omega) (by rw [List.size_toArray,← hl]; exact h4) (by rw [hk]; exact ⟨_,I',q⟩)
  · have hk:(k+(its.toArray.size:Int)).toNat=j:=by
      rw [seqIndex_neg (by omega) h3] at h1
      rw [List.size_toArray,← hl]
      exact Option.some.inj h1
    exact PySem.W.ki_setBack ho (by omega) (by rw [List.size_toArray,← hl]; exact h3) (by omega) (by rw [hk]; exact ⟨_,I',q⟩)
theorem slice_bounds (lo hi:Option Int) (n:Nat):(sliceBounds lo hi none n).1=((HT.sIx n 0 lo:Nat):Int)∧(sliceBounds lo hi none n).2.1=((HT.sIx n n hi:Nat):Int)∧(sliceBounds lo hi none n).2.2=1:=by
  refine ⟨?_,?_,rfl⟩
  · cases lo with
    | none=>simp [sliceBounds,HT.sIx]
    | some i =>
      simp only [sliceBounds,HT.sIx,Option.getD_none,show (1:Int) > 0 by decide,if_true]
      by_cases h:i<0
      · simp only [h,if_true] <;> omega
      · simp only [h,if_false] <;> omega
  · cases hi with
    | none=>simp [sliceBounds,HT.sIx]
    | some i =>
      simp only [sliceBounds,HT.sIx,Option.getD_none,show (1:Int) > 0 by decide,if_true]
      by_cases h:i<0
      · simp only [h,if_true] <;> omega
      · simp only [h,if_false] <;> omega
theorem slicePick_cut (its:List Value) (lo hi:Option Int):slicePick its.toArray lo hi none=((its.drop (HT.sIx its.length 0 lo)).take (HT.sIx its.length its.length hi - HT.sIx its.length 0 lo)).toArray:=by
  obtain ⟨h1,h2,h3⟩:=slice_bounds lo hi its.toArray.size
  unfold slicePick
  rw [h1,h2,h3]
  simp only [sliceRange_one,pick_run,List.size_toArray] <;> rfl
def rSlL (K:PySem.W.Frag):V→Option Int→Option Int→Hp→VK→Prop:=fun x lo hi H Q=>∃ a xs,x=.ref a∧SqL K H a xs∧∀ p,H p=none→Q (.ref p) (upd H p (.lst (cutV xs lo hi)))
theorem sl_list:SlR X (rSlL X.K):=by
  intro pins s σ H x v vl vu lo hi sl Q I rx hs pl pu h
  obtain ⟨a,xs,rfl,hx,q⟩:=h
  cases rx
  obtain ⟨its,r,ht,hz⟩:=I.list hx
  have hlen:=r.length
  refine ⟨"list",_,slot_list_getitem.lookup,ht.isList.typeIs,?_⟩
  refine wpAny_getItem_list_slice ht.isList hs pl pu .none (by simp) ?_ (by rw [List.size_toArray] <;> omega)
  rw [slicePick_cut,← hlen]
  refine ⟨.ref s.heap.objs.size,_,I.laid (t':=s.toks) (o:=.lst (cutV xs lo hi)) (fun b ob q=>Heap.get?_push_of_some _ q) (Nat.le_refl _) ?_,rfl,q _ (I.hok.fresh (Nat.le_refl _))⟩
  exact ⟨Nat.le_trans (cutV_length xs lo hi) hz,_,0,(r.drop (HT.sIx xs.length 0 lo)).take (HT.sIx xs.length xs.length hi - HT.sIx xs.length 0 lo),Heap.get?_push_size _ rfl⟩
def flatV:V→Bool
  | .non=>true
  | .bl _=>true
  | .int _=>true
  | .str _=>true
  | _=>false
def eqV:V→V→Bool
  | .non,.non=>true
  | .bl a,.bl b=>a == b
  | .bl a,.int b=>(if a then 1 else 0) == b
  | .int a,.bl b=>a == (if b then 1 else 0)
  | .int a,.int b=>a == b
  | .str a,.str b=>a == b
  | _,_=>false
theorem eqAt_V {A:Around} {s:Shared} {y x:V} {u v:Value} (ry:RelV y u) (rx:RelV x v) (fy:flatV y=true) (fx:flatV x=true):SeqAt.EqAt A s u v (eqV y x):=by
  cases y with
  | non =>
    cases ry
    cases x with
    | non=>cases rx; exact SeqAt.EqAt.same _
    | bl b=>cases rx; exact SeqAt.EqAt.none_bool b
    | int b=>obtain ⟨t,rfl⟩:=rx; exact SeqAt.EqAt.none_int b t
    | str b=>obtain ⟨t,rfl⟩:=rx; exact SeqAt.EqAt.none_str b t
    | _=>exact absurd (show false=true from fx) Bool.false_ne_true
  | bl a =>
    cases ry
    cases x with
    | non=>cases rx; exact SeqAt.EqAt.bool_none a
    | bl b=>cases rx; exact SeqAt.EqAt.bool_bool a b
    | int b=>obtain ⟨t,rfl⟩:=rx; exact SeqAt.EqAt.bool_int a b t
    | str b=>obtain ⟨t,rfl⟩:=rx; exact SeqAt.EqAt.bool_str a b t
    | _=>exact absurd (show false=true from fx) Bool.false_ne_true
  | int a =>
    obtain ⟨t',rfl⟩:=ry
    cases x with
    | non=>cases rx; exact SeqAt.EqAt.int_none a t'
    | bl b=>cases rx; exact SeqAt.EqAt.int_bool a t' b
    | int b=>obtain ⟨t,rfl⟩:=rx; exact SeqAt.EqAt.int_int a t' b t
    | str b=>obtain ⟨t,rfl⟩:=rx; exact SeqAt.EqAt.int_str a t' b t
    | _=>exact absurd (show false=true from fx) Bool.false_ne_true
  | str a =>
    obtain ⟨t',rfl⟩:=ry
    cases x with
    | non=>cases rx; exact SeqAt.EqAt.str_none a t'
    | bl b=>cases rx; exact SeqAt.EqAt.str_bool a t' b
    | int b=>obtain ⟨t,rfl⟩:=rx; exact SeqAt.EqAt.str_int a t' b t
    | str b=>obtain ⟨t,rfl⟩:=rx; exact SeqAt.EqAt.str_str a t' b t
    | _=>exact absurd (show false=true from fx) Bool.false_ne_true
  | _=>exact absurd (show false=true from fy) Bool.false_ne_true
def eqU (x:V) (u:Value):Bool:=match u with
  | .none=>eqV .non x
  | .bool b=>eqV (.bl b) x
  | .int i _=>eqV (.int i) x
  | .str z _=>eqV (.str z) x
  | _=>false
theorem eqU_of {x y:V} {u:Value} (r:RelV y u) (f:flatV y=true):eqU x u=eqV y x:=by
  cases y with
  | non=>cases r; rfl
  | bl b=>cases r; rfl
  | int i=>obtain ⟨t,rfl⟩:=r; rfl
  | str z=>obtain ⟨t,rfl⟩:=r; rfl
  | _=>exact absurd (show false=true from f) Bool.false_ne_true
theorem any_eqU {x:V}:∀ {xs:List V} {us:List Value},Vals xs us→xs.all flatV=true→us.any (eqU x)=xs.any fun y=>eqV y x
  | _,_,.nil,_=>rfl
  | y::xs,u::us,.cons r t,f=>by
    rw [List.all_cons,Bool.and_eq_true] at f
    rw [List.any_cons,List.any_cons,eqU_of r f.1,any_eqU t f.2]
theorem mem_eqAt {A:Around} {s:Shared} {x:V} {v:Value} (rx:RelV x v) (fx:flatV x=true):∀ {xs:List V} {us:List Value},Vals xs us→xs.all flatV=true→∀ u∈us,SeqAt.EqAt A s u v (eqU x u)
  | _,_,.nil,_=>fun u hu=>by cases hu
  | y::xs,u::us,.cons r t,f=>fun u' hu=>by
    rw [List.all_cons,Bool.and_eq_true] at f
    rcases List.mem_cons.mp hu with rfl | hu
    · rw [eqU_of r f.1]; exact eqAt_V r rx f.1 fx
    · exact mem_eqAt rx fx t f.2 u' hu
def inV (x:V) (xs:List V):Bool:=xs.any fun y=>eqV y x
def rIn (K:PySem.W.Frag) (neg:Bool):R2:=fun x y H Q=>∃ p xs,y=.ref p∧(SqL K H p xs∨SqT K H p xs)∧flatV x=true∧xs.all flatV=true∧Q (.bl (if neg then !inV x xs else inV x xs)) H
theorem op_in_seq:OpR X (compareOp .In) (rIn X.K false):=by
  intro pins s σ H x y v u Q I rx ry h
  obtain ⟨p,xs,rfl,hq,fx,fs,q⟩:=h
  cases ry
  rcases hq with hq | hq
  · obtain ⟨its,r,pl,hz⟩:=I.list hq
    refine SeqAt.in_listAt (eqU x) pl.isList (fun w hw=>mem_eqAt rx fx r fs w (by simpa using hw)) ⟨.bl _,H,I,rfl,?_⟩
    rw [show its.toArray.any (eqU x)=its.any (eqU x) by simp,any_eqU r fs]
    exact q
  · obtain ⟨its,r,pl,hz⟩:=I.tuple hq
    refine SeqAt.in_tupleAt (eqU x) pl (fun w hw=>mem_eqAt rx fx r fs w (by simpa using hw)) ⟨.bl _,H,I,rfl,?_⟩
    rw [show its.toArray.any (eqU x)=its.any (eqU x) by simp,any_eqU r fs]
    exact q
theorem op_notIn_seq:OpR X (compareOp .NotIn) (rIn X.K true):=by
  intro pins s σ H x y v u Q I rx ry h
  obtain ⟨p,xs,rfl,hq,fx,fs,q⟩:=h
  cases ry
  rcases hq with hq | hq
  · obtain ⟨its,r,pl,hz⟩:=I.list hq
    refine SeqAt.notIn_listAt (eqU x) pl.isList (fun w hw=>mem_eqAt rx fx r fs w (by simpa using hw)) ⟨.bl _,H,I,rfl,?_⟩
    rw [show its.toArray.any (eqU x)=its.any (eqU x) by simp,any_eqU r fs]
    exact q
  · obtain ⟨its,r,pl,hz⟩:=I.tuple hq
    refine SeqAt.notIn_tupleAt (eqU x) pl (fun w hw=>mem_eqAt rx fx r fs w (by simpa using hw)) ⟨.bl _,H,I,rfl,?_⟩
    rw [show its.toArray.any (eqU x)=its.any (eqU x) by simp,any_eqU r fs]
    exact q
theorem call_len_seq:CallR X (.builtin "len") (fun xs H Q=>∃ p ys,xs=[.ref p]∧(SqL X.K H p ys∨SqT X.K H p ys)∧Q (.int ys.length) H):=by
  intro pins s σ H xs us Q I r h
  obtain ⟨p,ys,rfl,hq,q⟩:=h
  obtain ⟨u,rfl,rx⟩:=vals1 r
  cases rx
  have hn:=line63
  rcases hq with hq | hq
  · obtain ⟨its,r',pl,hz⟩:=I.list hq
    have hlen:=r'.length
    exact Calls.call_len_list pl.isList (by simp only [List.size_toArray] <;> omega) ⟨.int ys.length,H,I.tok _,⟨s.toks+1,by rw [List.size_toArray,hlen]⟩,q⟩
  · obtain ⟨its,r',pl,hz⟩:=I.tuple hq
    have hlen:=r'.length
    exact len_tuple pl (by simp only [List.size_toArray] <;> omega) ⟨.int ys.length,H,I.tok _,⟨s.toks+1,by rw [List.size_toArray,hlen]⟩,q⟩
theorem call_len_str:CallR X (.builtin "len") (fun xs H Q=>∃ z,xs=[.str z]∧z.length≤sizeLine∧Q (.int z.length) H):=by
  intro pins s σ H xs us Q I r h
  obtain ⟨z,rfl,hz,q⟩:=h
  obtain ⟨u,rfl,t,rfl⟩:=vals1 r
  have hn:=line63
  exact len_str (by omega) ⟨.int z.length,H,I.tok _,⟨_,rfl⟩,q⟩
theorem call_list_of:CallR X (.type "list") (fun xs H Q=>∃ p ys,xs=[.ref p]∧(SqL X.K H p ys∨SqT X.K H p ys)∧∀ l,H l=none→Q (.ref l) (upd H l (.lst ys))):=by
  intro pins s σ H xs us Q I r h
  obtain ⟨p,ys,rfl,hq,q⟩:=h
  obtain ⟨u,rfl,rx⟩:=vals1 r
  cases rx
  have fin:∀ (its:List Value),Vals ys its→ys.length≤sizeLine→∀ (h':Heap) (c':Nat),(∀ b o',s.heap.get? b=some o'→h'.get? b=some o')→
      h'.get? s.heap.objs.size=some { cls:=.type "list",dict:=none,data:=.seq its.toArray c',slots:=#[] }→EP X pins σ Q (.ref s.heap.objs.size) { s with heap:=h' }:=fun its r' hz h' c' kp e =>
    ⟨.ref s.heap.objs.size,_,I.laid (t':=s.toks) kp (Nat.le_refl _) (show ObjOk X.prog X.w _ h' _ (.lst ys) from ⟨hz,its,c',r',e⟩),rfl,q _ (I.hok.fresh (Nat.le_refl _))⟩
  rcases hq with hq | hq
  · obtain ⟨its,r',pl,hz⟩:=I.list hq
    have hlen:=r'.length
    obtain ⟨o,ho,hc,n,hd⟩:=pl.isList
    exact call_list_seq p (.inl rfl) ho hc hd (fun h' c' kp e=>fin its r' hz h' c' kp e) (by simp only [List.size_toArray] <;> omega)
  · obtain ⟨its,r',pl,hz⟩:=I.tuple hq
    have hlen:=r'.length
    obtain ⟨o,ho,hc,n,hd⟩:=pl
    exact call_list_seq p (.inr rfl) ho hc hd (fun h' c' kp e=>fin its r' hz h' c' kp e) (by simp only [List.size_toArray] <;> omega)
theorem call_tuple_of:CallR X (.type "tuple") (fun xs H Q=>∃ p ys,xs=[.ref p]∧((SqL X.K H p ys∧∀ l,H l=none→Q (.ref l) (upd H l (.tup ys)))∨(SqT X.K H p ys∧Q (.ref p) H))):=by
  intro pins s σ H xs us Q I r h
  obtain ⟨p,ys,rfl,h⟩:=h
  obtain ⟨u,rfl,rx⟩:=vals1 r
  cases rx
  rcases h with ⟨hq,q⟩ | ⟨hq,q⟩
  · obtain ⟨its,r',pl,hz⟩:=I.list hq
    have hlen:=r'.length
    refine call_tuple_list pl.isList (fun h' kp=>?_) (by simp only [List.size_toArray] <;> omega)
    have I1:Inv X pins σ H { s with heap:=h' }:=I.kept (t':=s.toks) kp
    have I2:Inv X pins σ (upd H h'.objs.size (.tup ys)) { s with heap:=h'.push { cls:=.type "tuple",data:=.seq its.toArray } } :=
      I1.laid (t':=s.toks) (fun b o e=>Heap.get?_push_of_some _ e) (Nat.le_refl _) (show ObjOk X.prog X.w _ _ _ (.tup ys) from ⟨hz,its,r',IsTup.new _ _⟩)
    exact ⟨.ref h'.objs.size,_,I2,rfl,q _ (I1.hok.fresh (Nat.le_refl _))⟩
  · obtain ⟨its,r',pl,hz⟩:=I.tuple hq
    exact call_tuple_same pl ⟨.ref p,H,I,rfl,q⟩
def tyV (K:PySem.W.Frag) (T:String) (x:V) (H:Hp):Prop:=match x with
  | .str _=>T="str"
  | .int _=>T="int"
  | .ref p=>(T="list"∧∃ xs,SqL K H p xs)∨(T="tuple"∧∃ o,K.lookup p=some o∧o.cls=.type "tuple"∧o.dict=none)∨
      (T="dict"∧((∃ kvs,H p=some (.dK kvs))∨∃ kvs,H p=some (.dT kvs)))∨(T="set"∧∃ S n,H p=some (.set S n))
  | _=>False
theorem tyV_is {pins:List (Addr×Obj)} {σ:St} {H:Hp} {s:Shared} {T:String} {x:V} {v:Value} (I:Inv X pins σ H s) (r:RelV x v) (ty:tyV X.K T x H) :
    s.TypeIs v T∧∀ a,v=.ref a→∃ ob,s.heap.get? a=some ob∧ob.dict=none:=by
  cases x with
  | str z =>
    obtain ⟨t,rfl⟩:=r
    cases (show T="str" from ty)
    exact ⟨typeIs_str s z t,fun _ e=>nomatch e⟩
  | int i =>
    obtain ⟨t,rfl⟩:=r
    cases (show T="int" from ty)
    exact ⟨typeIs_int s i t,fun _ e=>nomatch e⟩
  | ref p =>
    cases r
    rcases ty with ⟨rfl,xs,hq⟩ | ⟨rfl,o,hk,hc,hd⟩ | ⟨rfl,hk⟩ | ⟨rfl,S,n,hk⟩
    · obtain ⟨its,_,pl,_⟩:=I.list hq
      refine ⟨pl.isList.typeIs,fun a e=>?_⟩
      cases e
      obtain ⟨o,n,e,c,hd,_⟩:=pl
      exact ⟨o,e,hd⟩
    · refine ⟨⟨o,I.kIn p o hk,hc⟩,fun a e=>?_⟩
      cases e
      exact ⟨o,I.kIn _ o hk,hd⟩
    · have z:∃ o,s.heap.get? p=some o∧o.ExactDict:=by
        rcases hk with ⟨kvs,hk⟩ | ⟨kvs,hk⟩
        · obtain ⟨_,_,_,_,o,_,_,e,ex,_⟩:=I.hok p _ hk
          exact ⟨o,e,ex⟩
        · obtain ⟨_,_,_,_,o,_,_,e,ex,_⟩:=I.hok p _ hk
          exact ⟨o,e,ex⟩
      obtain ⟨o,e,ex⟩:=z
      refine ⟨⟨o,e,ex.1⟩,fun a e2=>?_⟩
      cases e2
      exact ⟨o,e,ex.2.1⟩
    · obtain ⟨o,_,_,_,e,ex,_⟩:=I.hok p _ hk
      refine ⟨⟨o,e,ex.1⟩,fun a e2=>?_⟩
      cases e2
      exact ⟨o,e,ex.2.1⟩
  | _=>exact False.elim ty
def tBM0 (K:PySem.W.Frag) (T:String) (r:V→List V→Hp→VK→Prop) (to:TE):TE:=fun σ H Q=>to σ H fun x H1=>tyV K T x H1∧r x [] H1 Q
def tBM (K:PySem.W.Frag) (T:String) (r:V→List V→Hp→VK→Prop) (to:TE) (t:TA):TE:=fun σ H Q=>to σ H fun x H1=>tyV K T x H1∧t σ H1 fun xs H2=>r x xs H2 Q
variable {o e:Expr} {es:List Expr} {to:TE} {t:TA} {name:Str} {apos cpos:Pos} {T id:String} {r:V→List V→Hp→VK→Prop}
theorem pe_bm0 (pa:PlainAttrs T) (slot:Slot T name id) (hty:typeOf (.builtin id)=pure (.type "method_descriptor")) (hm:MtR X id r) (ho:PE X o to)
    (hbase:attributeBase o name X.env (eval o X.env)=eval o X.env:=by rfl) (hline:(apos.endLine == cpos.line)=true:=by rfl):PE X (.Call (.Attribute o name apos) [] [] cpos) (tBM0 X.K T r to):=by
  intro pins s σ H Q I h
  refine wpAny_Call_method0_late hbase hline (thn (ho pins s σ H _ I h) fun v s1 ⟨x,H1,I1,r1,ty,q1⟩=>?_)
  obtain ⟨h1,h2⟩:=tyV_is I1 r1 ty
  exact ⟨T,id,pa,slot,hty,h1,h2,Calls.callWith_builtin rfl (PySem.evalArgs_none (hm pins s1 σ H1 x [] v [] Q I1 r1 .nil q1))⟩
theorem pe_bm (pa:PlainAttrs T) (slot:Slot T name id) (hty:typeOf (.builtin id)=pure (.type "method_descriptor")) (hm:MtR X id r) (ho:PE X o to) (ha:PA X (e::es) t)
    (hbase:attributeBase o name X.env (eval o X.env)=eval o X.env:=by rfl)
    (hfew:((backTo cpos (starEach (e::es) X.env)).all (fun x=>!x.1) && (backToKw cpos (keywordEach [] X.env)).all (fun x=>x.1.isSome)
      && decide ((e::es).length+([]:List Keyword).length+(if ([]:List Keyword).isEmpty then 0 else 1)<30))=true:=by rfl)
    (hline:(apos.endLine == cpos.line)=true:=by rfl) (hs:starEach (e::es) X.env=(false,eval e X.env)::starEach es X.env:=by rfl) (hplain:(backTo cpos (starEach es X.env)).any (·.1)=false:=by rfl) :
    PE X (.Call (.Attribute o name apos) (e::es) [] cpos) (tBM X.K T r to t):=by
  intro pins s σ H Q I h
  refine wpAny_Call_method_late hbase hfew hline rfl (thn (ho pins s σ H _ I h) fun v s1 ⟨x,H1,I1,r1,ty,q1⟩=>?_)
  obtain ⟨h1,h2⟩:=tyV_is I1 r1 ty
  refine ⟨T,id,pa,slot,hty,h1,h2,?_⟩
  have hA:=ha cpos pins s1 σ H1 _ I1 q1
  rw [hs] at hA ⊢
  refine Calls.callWith_builtin (by show (false || (backTo cpos (starEach es X.env)).any (·.1))=false; rw [hplain] <;> rfl) (Calls.evalArgs_plain ?_)
  exact thn hA fun us s2 ⟨vs,H2,I2,r2,q2⟩=>hm pins s2 σ H2 x vs v us Q I2 r1 r2 q2
end
end L2
namespace L2
open PySem PySem.Spec PyProof.Rows
def MtM (X:Cx) (id:String) (r:V→List V→Hp→VK→Prop):Prop :=
  ∀ (pins:List (Addr×Obj)) (s:Shared) (σ:St) (H:Hp) (x:V) (xs:List V) (v:Value) (us:List Value) (Q:VK),Inv X pins σ H s→RelV x v→Vals xs us→r x xs H Q→
    wpAny (model X.prog X.w) X.A (call (.builtin id) (v::us)) (EP X pins σ Q) X.xe s
theorem Vals.one:∀ {x:V} {us:List Value},Vals [x] us→∃ u,us=[u]∧RelV x u
  | _,_,.cons r .nil=>⟨_,rfl,r⟩
theorem Vals.zero:∀ {us:List Value},Vals [] us→us=[]
  | _,.nil=>rfl
theorem Vals.dropLast {xs:List V} {us:List Value} (h:Vals xs us):Vals xs.dropLast us.dropLast:=by
  induction h with
  | nil=>exact .nil
  | cons r t ih =>
    cases t with
    | nil=>exact .nil
    | cons q t'=>exact .cons r ih
theorem erase_last {α:Type} (l:List α):l.eraseIdx (l.length - 1)=l.dropLast:=by
  induction l with
  | nil=>rfl
  | cons a r ih =>
    cases r with
    | nil=>rfl
    | cons b r =>
      have e:(a::b::r).length - 1=((b::r).length - 1)+1:=by
        have h1:(a::b::r).length=r.length+2:=rfl
        have h2:(b::r).length=r.length+1:=rfl
        omega
      rw [e,List.eraseIdx_cons_succ,ih]
      all_goals rfl
section
variable {X:Cx} {pins:List (Addr×Obj)} {σ:St} {H:Hp} {s:Shared} {l b:Addr} {xs ys zs:List V}
theorem Inv.lset {its its':List Value} {n:Nat} {f:Array Value→Array Value} {t':Nat} (I:Inv X pins σ H s) (hH:H l=some (.lst xs))
    (e:s.heap.get? l=some { cls:=.type "list",data:=.seq its.toArray n }) (hf:f its.toArray=its'.toArray) (hv:Vals ys its') (hz:ys.length≤sizeLine) :
    Inv X pins σ (upd H l (.lst ys)) { s with heap:=s.heap.update l (Obj.mapSeq f),toks:=t' }:=by
  have q:=PySem.IsL.update e f
  rw [hf] at q
  refine I.write (x:=l) (e:=l) (by rw [hH]; exact trivial) (.inl rfl) (fun b' u hb hu=>(Heap.get?_update_other s.heap (Obj.mapSeq f) (Ne.symm hb)).trans hu) ⟨_,q⟩ ?_
  exact ⟨hz,its',_,hv,q⟩
theorem Inv.lnew {its:List Value} {t':Nat} (I:Inv X pins σ H s) (hv:Vals ys its) (hz:ys.length≤sizeLine) :
    Inv X pins σ (upd H s.heap.objs.size (.lst ys)) { s with heap:=s.heap.push { cls:=.type "list",data:=.seq its.toArray },toks:=t' } :=
  I.laid (fun _ _ q=>Heap.get?_push_of_some _ q) (Nat.le_refl _) ⟨hz,its,0,hv,Heap.get?_push_size _ rfl⟩
theorem Inv.fresh (I:Inv X pins σ H s):H s.heap.objs.size=none:=I.hok.fresh (Nat.le_refl _)
theorem Inv.lstM (I:Inv X pins σ H s) (hH:H l=some (.lst xs)):xs.length≤sizeLine∧∃ (its:List Value) (n:Nat),Vals xs its∧xs.length=its.length∧s.heap.get? l=some { cls:=.type "list",data:=.seq its.toArray n }:=by
  obtain ⟨z,its,n,r,e⟩:=I.hok l _ hH
  exact ⟨z,its,n,r,r.length,e⟩
theorem notLongL {n:Nat} (h:n≤sizeLine):Builtin.List.listTooLong n=false:=by
  unfold Builtin.List.listTooLong
  exact decide_eq_false (by omega)
end
section
variable {X:Cx}
def rAppend:V→List V→Hp→VK→Prop:=fun x vs H Q=>∃ l xs y,x=.ref l∧vs=[y]∧H l=some (.lst xs)∧xs.length<sizeLine∧Q .non (upd H l (.lst (xs++[y])))
theorem mt_append:MtM X "list.append" rAppend:=by
  intro pins s σ H x vs v us Q I rx rv h
  obtain ⟨l,xs,y,rfl,rfl,hH,hz,q⟩:=h
  cases rx
  obtain ⟨u,rfl,ru⟩:=rv.one
  obtain ⟨z,its,n,r,hl,e⟩:=I.lstM hH
  refine call_meets F.slot_list_append ⟨_,e,rfl⟩ F.entry_list_append (F.args_list_append_2 _ _) (PySem.list_append l its.toArray n u (by rw [List.size_toArray]; omega)) ⟨e,?_⟩
  refine ⟨.non,_,I.lset (its':=its++[u]) hH e (by simp) (r.append (.cons ru .nil)) ?_,rfl,q⟩
  rw [List.length_append,List.length_singleton]
  omega
def rExtend:V→List V→Hp→VK→Prop:=fun x vs H Q=>∃ l b xs zs,x=.ref l∧vs=[.ref b]∧H l=some (.lst xs)∧H b=some (.lst zs)∧xs.length+zs.length≤sizeLine∧Q .non (upd H l (.lst (xs++zs)))
theorem mt_extend:MtM X "list.extend" rExtend:=by
  intro pins s σ H x vs v us Q I rx rv h
  obtain ⟨l,b,xs,zs,rfl,rfl,hH,hB,hz,q⟩:=h
  cases rx
  obtain ⟨u,rfl,ru⟩:=rv.one
  cases ru
  obtain ⟨z,its,n,r,hl,e⟩:=I.lstM hH
  obtain ⟨z2,its2,n2,r2,hl2,e2⟩:=I.lstM hB
  have hsz:its.toArray.size+its2.toArray.size≤sizeLine:=by rw [List.size_toArray,List.size_toArray]; omega
  have hlong:¬ (!its.toArray.isEmpty && Builtin.List.listTooLong (its.toArray.size+its2.toArray.size))=true:=by
    rw [notLongL hsz,Bool.and_false]
    exact Bool.false_ne_true
  refine call_meets F.slot_list_extend ⟨_,e,rfl⟩ F.entry_list_extend (F.args_list_extend_2 _ _)
    (AutoSeq1.list_extend_list_list_0 l its.toArray n b its2.toArray n2 hlong (by rw [List.size_toArray]; omega) (by omega)) ⟨e,e2,?_⟩
  refine ⟨.non,_,I.lset (its':=its++its2) hH e (by simp) (r.append r2) ?_,rfl,q⟩
  rw [List.length_append]
  omega
def rPop:V→List V→Hp→VK→Prop:=fun x vs H Q=>∃ l xs y,x=.ref l∧vs=[]∧H l=some (.lst xs)∧xs[xs.length - 1]?=some y∧Q y (upd H l (.lst xs.dropLast))
theorem mt_pop:MtM X "list.pop" rPop:=by
  intro pins s σ H x vs v us Q I rx rv h
  obtain ⟨l,xs,y,rfl,rfl,hH,hy,q⟩:=h
  cases rx
  have hus:=rv.zero
  subst hus
  obtain ⟨z,its,n,r,hl,e⟩:=I.lstM hH
  obtain ⟨u,hu,ru⟩:=r.get hy
  have hy':its.toArray[its.toArray.size - 1]?=some u:=by
    show its.toArray[its.length - 1]?=some u
    rw [← Array.getElem?_toList,← hl]
    exact hu
  refine call_meets F.slot_list_pop ⟨_,e,rfl⟩ F.entry_list_pop (F.args_list_pop_1 _) (MeetsSeq.list_pop_last l its.toArray n u hy' (by rw [List.size_toArray]; omega)) ⟨e,?_⟩
  refine ⟨y,_,I.lset (its':=its.dropLast) hH e ?_ r.dropLast ?_,ru,q⟩
  · show its.toArray.eraseIdxIfInBounds (its.toArray.size - 1)=its.dropLast.toArray
    rw [List.size_toArray,List.eraseIdxIfInBounds_toArray,erase_last]
  · rw [List.length_dropLast]
    omega
def rPopAt:V→List V→Hp→VK→Prop:=fun x vs H Q=>∃ l xs i k y,x=.ref l∧vs=[.int i]∧H l=some (.lst xs)∧-(2 ^ 63)≤i∧i<2 ^ 63∧seqIndex? i xs.length=some k∧xs[k]?=some y∧Q y (upd H l (.lst (xs.eraseIdx k)))
def rReverse:V→List V→Hp→VK→Prop:=fun x vs H Q=>∃ l xs,x=.ref l∧vs=[]∧H l=some (.lst xs)∧Q .non (upd H l (.lst xs.reverse))
def rClear:V→List V→Hp→VK→Prop:=fun x vs H Q=>∃ l xs,x=.ref l∧vs=[]∧H l=some (.lst xs)∧Q .non (upd H l (.lst []))
def rCat:R2:=fun x y H Q=>∃ l b xs zs,x=.ref l∧y=.ref b∧H l=some (.lst xs)∧H b=some (.lst zs)∧xs.length+zs.length≤sizeLine∧∀ p,H p=none→Q (.ref p) (upd H p (.lst (xs++zs)))
theorem op_cat:OpR X (binaryOp .Add) rCat:=by
  intro pins s σ H x y v u Q I rx ry h
  obtain ⟨l,b,xs,zs,rfl,rfl,hH,hB,hz,q⟩:=h
  cases rx
  cases ry
  obtain ⟨z,its,n,r,hl,e⟩:=I.lstM hH
  obtain ⟨z2,its2,n2,r2,hl2,e2⟩:=I.lstM hB
  refine PySem.P.add_list e e2 ?_ (by rw [List.size_toArray,List.size_toArray]; omega)
  have ea:its.toArray++its2.toArray=(its++its2).toArray:=by simp
  rw [ea]
  exact ⟨.ref _,_,I.lnew (t':=s.toks) (r.append r2) (by rw [List.length_append]; omega),rfl,q _ I.fresh⟩
def rRep:R2:=fun x y H Q=>∃ l k xs,x=.ref l∧y=.int k∧H l=some (.lst xs)∧-(2 ^ 63)≤k∧k<2 ^ 63∧xs.length * k.toNat≤sizeLine∧
  ∀ p,H p=none→Q (.ref p) (upd H p (.lst (List.replicate k.toNat xs).flatten))
end
section
variable {prog:Program} {w:World} {A:Around} {E:Value→Shared→Prop} {s:Shared}
end
section
variable {X:Cx}
end
end L2
namespace Att
open PySem PySem.W PySem.Calls PyProof.Rows
theorem ints_of_wellAll {P:Params} {h:Heap}:∀ (ns:List Int) (vs:List Value),WellAll P h vs (ns.map WData.int)→IntsAre vs ns:=by
  intro ns
  induction ns with
  | nil =>
    intro vs w
    rw [List.map_nil] at w
    cases w
    exact .nil
  | cons n ns ih =>
    intro vs w
    rw [List.map_cons] at w
    cases w with
    | cons a b =>
      cases a
      exact .cons _ _ (ih _ b)
theorem script_of {l:OpenLaw} {n:Nat} (hn:l.most=some n) {P:Params} {h:Heap} {args:List WData} {vals:List Value}
    (hpre:l.row.toRowW.claim.pre args=true) (hwl:WellAll P h vals args) :
    ∃ a vs ns,vals=[Value.ref a]∧args=[WData.list (ns.map WData.int)]∧h.get? a=some { cls:=.type "list",data:=.seq vs.toArray }∧IntsAre vs ns∧ns.length≤n:=by
  have hsh:WShape.hasAll [] args [.list .int]=true:=(pre_splitW hpre).1
  have hc:l.pre.holds [] { args:=args }=true:=(pre_splitW hpre).2
  obtain ⟨d,r,rfl,h1,h2⟩:=hasAllW_cons hsh
  obtain rfl:=hasAllW_nil h2
  obtain ⟨xs,rfl,h3⟩:=hasW_list h1
  obtain ⟨ns,rfl⟩:=items_int h3
  have hlen:ns.length≤n:=by
    unfold OpenLaw.pre at hc
    have h4:(WTm.not (.lt (.lit (.int (n:Int))) (.len (.arg 0)))).holds [] { args:=[.list (ns.map .int)] }=true:=by
      have h4:=(holds_andW hc).1
      rw [hn] at h4
      exact h4
    have h5:=condW_of h4 (w_not (w_lt w_lit (w_len_list (w_arg rfl))))
    rw [List.length_map] at h5
    refine Nat.le_of_not_lt fun q=>?_
    have q':(n:Int)<((ns.length:Nat):Int):=by omega
    first
      | (rw [decide_eq_true q'] at h5; exact absurd h5 (by decide))
      | (simp at h5; omega)
  cases hwl with
  | cons w1 w2 =>
    cases w2
    cases w1 with
    | list ho hall=>exact ⟨_,_,ns,rfl,rfl,ho,ints_of_wellAll ns _ hall,hlen⟩
theorem post_true (l:OpenLaw) (args:List WData):l.row.toRowW.claim.post args (.bool true) args=true :=
  postW_of (r:=l.row.toRowW) (X:=(true == true))
    (show WShape.has [] (.bool true) .bool=true by first | rfl | decide | simp [WShape.has,WShape.arms,WShape.armsAll])
    (show (WTm.eq .res (.lit (.bool true))).value [] { args:=args,res:=some (.bool true),after:=args }=some (.bool (true == true)) from w_eq_bool (w_res rfl) w_lit) rfl
theorem attach_call {l:OpenLaw} {n:Nat} {q:Program} {loose:List Str} {XP:(Str→Option Value)→Heap→Prop} {YP:World→Heap→Prop} {d:DefRec}
    (hn:l.most=some n) (hdf:d.params.defaults=[])
    (call:∀ (w:World) (s₀ s₁:Shared) (mg mb:Str→Option Value) (fa:Addr) (o:Obj) (pm cd doc:Value) (a:Addr) (vs:List Value) (ns:List Int),
      Ground q loose [] XP w s₀ mg mb s₁.heap→YP w s₁.heap→
      s₁.heap.get? fa=some o→o.data=.func (docDef d.name d.params d.body d.scope pm cd doc)→s₁.heap.CodeRec cd d.name→mg d.name=some (.ref fa)→
      s₁.heap.get? a=some { cls:=.type "list",data:=.seq vs.toArray }→IntsAre vs ns→ns.length≤n→s₁.gens=#[]→
      codeAny (model l.prog w) callerA (.call (.ref fa) ⟨[.ref a],[]⟩) (fun r s'=>r=.ok (.ret (.bool true))∧OldK s₁.heap s'.heap∧s'.os=s₁.os∧AllBare s'.gens) s₁) :
    WalkO q loose XP YP l.row.toRowW d [] (fun f vs=>PySem.call f vs):=by
  intro w s₀ s₁ mg mb G Y fa o pm cd doc dV kV ho hd hcd hD hmg hg args vals as hpre hlay hrd hwl hlo
  obtain rfl:dV=.none:=Dflts.none hD hdf
  obtain rfl:kV=.none:=Dflts.noKw hD
  obtain ⟨a,vs,ns,rfl,rfl,hobj,hints,hlen⟩:=script_of hn hpre hwl
  refine enter_call (codeAny_mono (call w s₀ s₁ mg mb fa o pm cd doc a vs ns G Y ho (fd_plain hd) hcd hmg hobj hints hlen hg) fun r s' hq=>?_)
  obtain ⟨rfl,h2,h3,h4⟩:=hq
  exact ⟨.inl ⟨.bool true,.bool true,[],rfl,fun _=>rfl,.bool true,post_true l _,fun _=>⟨List.Pairwise.nil,fun _ hm=>(nomatch hm)⟩⟩,h2,h3,h4⟩
section
variable {prog:Program} {w:World} {A:Around} {E:Value→Shared→Prop} {s:Shared} {K:Frag}
def noObjs (h:Heap):Heap:={ h with objs:=#[] }
def ledger (h:Heap) (L d:Addr):List (Addr×Obj):=(List.range h.objs.size).filterMap fun a=>if a=L∨a=d then none else (h.get? a).map fun o=>(a,o)
end
end Att
namespace L2
open PySem PySem.Spec PyProof.Rows
theorem vals_ints:∀ {vs:List Value} {ns:List Int},IntsAre vs ns→Vals (ns.map V.int) vs
  | _,_,.nil=>.nil
  | _,_,.cons n t h=>.cons ⟨t,rfl⟩ (vals_ints h)
def Only (H:Hp):Prop:=∀ b,H b=none∨∃ o xs,H b=some (.frz o (.lst xs))
theorem law_call {P:Program} {w:World} {K:PySem.W.Frag} {mg mb:Str→Option Value} {CX:CXT} {k:Nat} {fa a:Addr} {fd:FuncData} {x:Str} {sp:Sp} {s₁:Shared} {vs:List Value} {ns:List Int}
    (KX:K.In s₁.heap) (hns:s₁.heap.Ns mainGlobals mg) (hb:s₁.heap.Ns builtinsNs mb) (hbb:∀ x:Str,x≠"__name__"→mb x=bootBuiltins x) (hlim:s₁.heap.NoLimit) (hg:s₁.gens=#[])
    (ha:s₁.heap.get? a=some { cls:=.type "list",data:=.seq vs.toArray }) (hi:IntsAre vs ns) (hl:ns.length≤sizeLine) (hr:Room k callerA)
    (F:∀ base:Heap,K.In base→base.Ns mainGlobals mg→FnOk P w K mg base CX k fa fd [x] sp) (hbind:∀ (s:Shared) (u:Value),BindsTo s fd ⟨[u],[]⟩ [(x,u)])
    (hsp:∀ H:Hp,Only H→SqL K H a (ns.map V.int)→sp [.ref a] H (fun v _=>v=.bl true) fun _ _ _=>False)
    (hCX:∀ H e s',CX [] H s₁ (fun _ _ _=>False) e s'→False) :
    codeAny (model P w) callerA (.call (.ref fa) ⟨[.ref a],[]⟩) (fun r s'=>r=.ok (.ret (.bool true))∧OldK s₁.heap s'.heap∧s'.os=s₁.os∧AllBare s'.gens) s₁:=by
  have rv:=vals_ints hi
  have lenV:=hi.length
  have core:∀ H:Hp,Only H→SqL K H a (ns.map V.int)→HOk P w H s₁.heap→(∀ b,H b≠none→b=a)→(H a≠none→K.lookup a=none)→
      codeAny (model P w) callerA (.call (.ref fa) ⟨[.ref a],[]⟩) (fun r s'=>r=.ok (.ret (.bool true))∧OldK s₁.heap s'.heap∧s'.os=s₁.os∧AllBare s'.gens) s₁:=by
    intro H hO hS hok hA hK
    have base_of:∀ {b:Addr} {o:Obj},s₁.heap.get? b=some o→H b=none→(hidT s₁.heap H).get? b=some o:=fun e n=>hidT_get e n
    have noA:∀ {b:Addr} {o:Obj} {es:Array DictEntry} {ep:Nat},s₁.heap.get? b=some o→o.data=.dict es ep→H b=none:=fun {b o es ep} e d=>by
      cases q:H b with
      | none=>rfl
      | some u =>
        have e':b=a:=hA b (by rw [q]; simp)
        subst e'
        rw [ha] at e; cases e
        have d':Data.seq vs.toArray _=Data.dict es ep:=d
        cases d'
    have nsK:∀ {b:Addr} {m:Str→Option Value},s₁.heap.Ns b m→(hidT s₁.heap H).Ns b m:=fun {b m} ⟨o,es,ep,e,d,r⟩=>⟨o,es,ep,base_of e (noA e d),d,r⟩
    have hKb:K.In (hidT s₁.heap H):=fun b o e=>base_of (KX b o e) (by
      cases q:H b with
      | none=>rfl
      | some u =>
        have e':b=a:=hA b (by rw [q]; simp)
        subst e'
        rw [hK (by rw [q]; simp)] at e; cases e)
    have hM:Mod K mg (hidT s₁.heap H):=⟨hKb,nsK hns,⟨mb,nsK hb,hbb⟩,let ⟨mc,h1,h2⟩:=hlim; ⟨mc,nsK h1,h2⟩⟩
    have e0:Env0 P w K mg (hidT s₁.heap H) callerA [] s₁ H:=⟨rfl,hM,fun b o e=>of_hidT e,Nat.le_of_eq (hidT_size _ _),trivial,fun b hb=>absurd (show b∈([]:List Addr) from hb) (by simp),hok,.of_eq hg⟩
    refine codeAny_mono ((F _ hKb (nsK hns)).run callerA [] s₁ H ⟨[.ref a],[]⟩ [.ref a] [.ref a] _ _ hr e0 (hbind s₁ (.ref a)) (.cons rfl .nil) (hsp H hO hS)) fun r s' h=>?_
    cases r with
    | error e=>exact (hCX H e s' h).elim
    | ok fl =>
      cases fl with
      | next=>exact False.elim h
      | brk=>exact False.elim h
      | cont=>exact False.elim h
      | ret u =>
        obtain ⟨v,H',os,bare,un,hok',r',q⟩:=h
        have q':v=.bl true:=q
        subst q'
        obtain rfl:u=Value.bool true:=r'
        refine ⟨rfl,OldK.of_keep fun b o e=>?_,os,bare⟩
        cases q:H b with
        | none=>exact un.keep b o e q (by intro z; exact absurd (show b∈([]:List Addr) from z) (by simp)) (by simp)
        | some u =>
          rcases hO b with z | ⟨ob,xs,z⟩
          · rw [q] at z; cases z
          · have z2:=un.frzs b ob _ z
            obtain ⟨e1,_⟩:=hok b _ z
            obtain ⟨e2,_⟩:=hok' b _ z2
            rw [e] at e1; cases e1
            exact e2
  cases hk:K.lookup a with
  | some o =>
    have e:=KX a o hk
    rw [ha] at e
    cases e
    refine core (fun _=>none) (fun _=>.inl rfl) (.inr ⟨_,vs.toArray,_,hk,rfl,rfl,rfl,by rw [List.size_toArray,lenV]; exact hl,by simpa using rv⟩) (fun b u z=>by have z':(none:Option HO)=some u:=z; cases z') (fun b z=>absurd rfl z) fun z=>absurd rfl z
  | none =>
    refine core (fun b=>if b=a then some (.frz { cls:=.type "list",data:=.seq vs.toArray } (.lst (ns.map V.int))) else none) (fun b=>?_) (.inl (.inr ⟨{ cls:=.type "list",data:=.seq vs.toArray },if_pos rfl⟩)) (fun b u z=>?_) (fun b z=>?_) fun _=>hk
    · by_cases hb:b=a
      · exact .inr ⟨_,_,if_pos hb⟩
      · exact .inl (if_neg hb)
    · by_cases hb:b=a
      · have z':=(if_pos hb).symm.trans z
        cases z'
        subst hb
        exact ⟨ha,by rw [List.length_map]; exact hl,vs,_,rv,ha⟩
      · have z':=(if_neg hb).symm.trans z
        cases z'
    · by_cases hb:b=a
      · exact hb
      · exact absurd (if_neg hb) z
end L2
namespace L2
open PySem PySem.Spec PyProof.Rows
abbrev KOf {K:PySem.W.Frag} {h:Heap} (_:K.In h):PySem.W.Frag:=K
theorem walk_of {l:PySem.W.OpenLaw} {n k:Nat} {q:Program} {loose:List Str} {XP:(Str→Option Value)→Heap→Prop} {YP:World→Heap→Prop} {d:DefRec} {K:Params→PySem.W.Frag} {CX:World→CXT} {sp:World→Sp} {x:Str}
    (hn:l.most=some n) (hn2:n≤sizeLine) (hdf:d.params.defaults=[]) (hr:Room k callerA)
    (hY:∀ (w:World) (h:Heap),YP w h→(K w.params).In h)
    (F:∀ (w:World) (mg:Str→Option Value) (fa:Addr) (h:Heap),(K w.params).In h→h.Ns mainGlobals mg→mg d.name=some (.ref fa)→
      ∃ fd:FuncData,(∀ (s:Shared) (u:Value),BindsTo s fd ⟨[u],[]⟩ [(x,u)])∧
        ∀ base:Heap,(K w.params).In base→base.Ns mainGlobals mg→FnOk l.prog w (K w.params) mg base (CX w) k fa fd [x] (sp w))
    (hsp:∀ (w:World) (H:Hp) (a:Addr) (ns:List Int),ns.length≤n→Only H→SqL (K w.params) H a (ns.map V.int)→sp w [.ref a] H (fun v _=>v=.bl true) fun _ _ _=>False)
    (hCX:∀ (w:World) (H:Hp) (s:Shared) (e:Value) (s':Shared),CX w [] H s (fun _ _ _=>False) e s'→False) :
    PySem.W.WalkO q loose XP YP l.row.toRowW d [] (fun f vs=>PySem.call f vs):=by
  refine Att.attach_call hn hdf fun w s₀ s₁ mg mb fa o pm cd doc a vs ns G Y ho hd hcd hmg hobj hints hlen hg=>?_
  have KX:=hY w _ Y
  obtain ⟨fd,hb,hF⟩:=F w mg fa _ KX G.T.g hmg
  exact law_call KX G.T.g G.T.b G.T.builtins G.T.nolimit hg hobj hints (Nat.le_trans hlen hn2) hr hF hb (fun H hO hS=>hsp w H a ns hlen hO hS) fun H e s'=>hCX w H s₁ e s'
theorem walk_ofK {l:PySem.W.OpenLaw} {n k:Nat} {q:Program} {loose:List Str} {XP:(Str→Option Value)→Heap→Prop} {YP:World→Heap→Prop} {d:DefRec} {K:Params→PySem.W.Frag} {CX:CXT} {sp:PySem.W.Frag→Sp} {x:Str}
    (hn:l.most=some n) (hn2:n≤sizeLine) (hdf:d.params.defaults=[]) (hr:Room k callerA)
    (hY:∀ (w:World) (h:Heap),YP w h→(K w.params).In h)
    (F:∀ (w:World) (mg:Str→Option Value) (fa:Addr) (h:Heap),(K w.params).In h→h.Ns mainGlobals mg→mg d.name=some (.ref fa)→
      ∃ fd:FuncData,(∀ (s:Shared) (u:Value),BindsTo s fd ⟨[u],[]⟩ [(x,u)])∧
        ∀ base:Heap,(K w.params).In base→base.Ns mainGlobals mg→FnOk l.prog w (K w.params) mg base CX k fa fd [x] (sp (K w.params)))
    (hsp:∀ (K:PySem.W.Frag) (H:Hp) (a:Addr) (ns:List Int),ns.length≤n→Only H→SqL K H a (ns.map V.int)→sp K [.ref a] H (fun v _=>v=.bl true) fun _ _ _=>False)
    (hCX:∀ (H:Hp) (s:Shared) (e:Value) (s':Shared),CX [] H s (fun _ _ _=>False) e s'→False) :
    PySem.W.WalkO q loose XP YP l.row.toRowW d [] (fun f vs=>PySem.call f vs) :=
  walk_of (K:=K) (CX:=fun _=>CX) (sp:=fun w=>sp (K w.params)) hn hn2 hdf hr hY F (fun w H a ns h1 h2 h3=>hsp (K w.params) H a ns h1 h2 h3) fun _ H s e s'=>hCX H s e s'
end L2
namespace L2
open PySem PySem.Spec PyProof.Rows
def inClass (s:Stmt) (j:Nat):Stmt:=match s with
  | .ClassDef _ _ _ body _ _ _ _ _ _ _=>body.getD j (.Pass ⟨0,0,0,0⟩)
  | _=>.Pass ⟨0,0,0,0⟩
def defArgs (s:Stmt):Arguments:=match s with
  | .FunctionDef _ a _ _ _ _ _ _ _ _=>a
  | _=>{ posonlyargs:=[],args:=[],vararg:=none,kwonlyargs:=[],kw_defaults:=[],kwarg:=none,defaults:=[] }
def defBody (s:Stmt):List Stmt:=match s with
  | .FunctionDef _ _ b _ _ _ _ _ _ _=>b
  | _=>[]
def defScope (s:Stmt):Scope:=match s with
  | .FunctionDef _ _ _ _ _ _ sc _ _ _=>sc
  | _=>{ kind:=.function,names:=[],isGenerator:=false,isCoroutine:=false }
abbrev CX0:CXT:=fun _ _ _ _ _ _=>False
abbrev E0:XK:=fun _ _ _=>False
theorem pass0 {X:Cx}:Passes CX0 X E0:=fun _ _ _ _ _ _ _ h=>h.elim
structure Fun (K:PySem.W.Frag) (x qual:Str) (st:Stmt) (f:Addr) (fd:FuncData):Prop where
  ex:∃ (oc:Value) (od:Option Addr) (kV doc pm:Value) (an:Option Addr) (cdv ct:Value) (osl:Array (Option Value)),
    fd=PySem.W.fnOf x qual (defArgs st) (defBody st) (defScope st) .none kV doc pm an cdv ct∧K.lookup f=some ⟨oc,od,.func fd,osl⟩∧PySem.W.codeIn K cdv qual=true
  kp:PySem.W.keepIn K (.ref f)=true
section
variable {P:Program} {w:World} {K:PySem.W.Frag} {mg:Str→Option Value} {base:Heap}
theorem Fun.ok {x qual:Str} {st:Stmt} {f:Addr} {fd:FuncData} {N ps:List Str} {k:Nat} {sp:Sp} (F:Fun K x qual st f fd) (S:FnScope N ps (defScope st)) (len:∀ vs H Q E,sp vs H Q E→vs.length=ps.length)
    (hbody:∀ (cdv:Value) (A:Around) (outer:List Env) (s:Shared) (H:Hp) (vs:List V) (Q:VK) (E:XK),Room k (A.deeper (envOfC qual (defScope st) s.heap.objs.size f cdv))→sp vs H Q E→
      ∃ t,PSs (cxOf CX0 P w K mg base N qual (defScope st) f cdv A outer s H E).nox (defBody st) t∧t { nx:=fun _ H'=>Q .non H',rt:=Q } (start N vs) H):FnOk P w K mg base CX0 (k+1) f fd ps sp:=by
  obtain ⟨oc,od,kV,doc,pm,an,cdv,ct,osl,rfl,lk,hcd⟩:=F.ex
  refine fn_of lk hcd S len fun A outer s H vs Q E hr hsp=>?_
  obtain ⟨t,h,q⟩:=hbody cdv A outer s H vs Q E hr hsp
  exact ⟨t,h.nox,q⟩
theorem Fun.binds {x qual:Str} {st:Stmt} {f:Addr} {fd:FuncData} {ps:List Str} (F:Fun K x qual st f fd)
    (h:∀ (kV doc pm:Value) (an:Option Addr) (cdv ct:Value) (us:List Value),us.length=ps.length→bindArgs (PySem.W.fnOf x qual (defArgs st) (defBody st) (defScope st) .none kV doc pm an cdv ct) ⟨us,[]⟩=pure (ps.zip us)):Binds K fd ps []:=by
  obtain ⟨oc,od,kV,doc,pm,an,cdv,ct,osl,rfl,lk,hcd⟩:=F.ex
  exact .all (h kV doc pm an cdv ct)
theorem fun_mk {x qual:Str} {st:Stmt} {f:Addr} {oc:Value} {od an:Option Addr} {osl:Array (Option Value)} {kV doc pm cdv ct:Value} (l:K.lookup f=some ⟨oc,od,.func (PySem.W.fnOf x qual (defArgs st) (defBody st) (defScope st) .none kV doc pm an cdv ct),osl⟩)
    (c:PySem.W.codeIn K cdv qual=true) (k:PySem.W.keepIn K (.ref f)=true):Fun K x qual st f (PySem.W.fnOf x qual (defArgs st) (defBody st) (defScope st) .none kV doc pm an cdv ct):=⟨⟨oc,od,kV,doc,pm,an,cdv,ct,osl,rfl,l,c⟩,k⟩
end
theorem hu_of {A:Around} {k:Nat} (hr:Room k A):A.units+1<cLine:=Nat.lt_of_le_of_lt (Nat.add_le_add_left (by decide:1≤64) _) hr.units
theorem small1000 {n:Nat} (h:n≤1000):n<sizeLine:=Nat.lt_of_le_of_lt h (by decide)
section
variable {X:Cx}
theorem pv (i:Nat) {x:Str} {pos:Pos} (hN:X.N[i]?=some x:=by rfl) (hv:Vis X.env.scope x:=by first | exact Or.inl rfl | exact Or.inr (Or.inl rfl) | exact Or.inr (Or.inr rfl)) (hd:(x == ("__debug__":Str))=false:=by decide)
    (hcd:(x == ("__classdict__":Str))=false:=by decide):PE X (.Name x pos) (tVar i):=pe_var hN hv hd hcd
end
theorem iteF {A B:Prop} (h:B):if false=true then A else B:=by
  rw [if_neg Bool.false_ne_true]
  exact h
theorem iteT {A B:Prop} (h:A):if true=true then A else B:=by
  rw [if_pos rfl]
  exact h
theorem ite2 {c A B:Prop} [Decidable c] (h1:c→A) (h2:¬ c→B):if c then A else B:=by
  by_cases h:c
  · rw [if_pos h]
    exact h1 h
  · rw [if_neg h]
    exact h2 h
def Same (H H':Hp):Prop:=∀ b o,H b=some o→H' b=some o
theorem Same.refl (H:Hp):Same H H:=fun _ _ h=>h
theorem Same.trans {H H1 H2:Hp} (a:Same H H1) (b:Same H1 H2):Same H H2:=fun c o h=>b c o (a c o h)
theorem Same.free {H H':Hp} (e:Same H H') {l:Addr} (h:H' l=Option.none):H l=Option.none:=by
  cases q:H l with
  | none=>rfl
  | some o =>
    rw [e l o q] at h
    cases h
theorem Same.seq {K:PySem.W.Frag} {H H':Hp} {a:Addr} {xs:List V} (e:Same H H') (h:SqL K H a xs):SqL K H' a xs:=by
  rcases h with (h | ⟨o,h⟩) | h
  · exact .inl (.inl (e _ _ h))
  · exact .inl (.inr ⟨o,e _ _ h⟩)
  · exact .inr h
end L2
set_option maxHeartbeats 4000000
namespace L2
open PySem PySem.Spec PyProof.Rows
def Big (i:Int):Prop:=i.natAbs<2 ^ 4000
theorem log2_lt_of {n m:Nat} (h:n<2 ^ m) (hm:0<m):n.log2<m:=by
  rcases Nat.eq_zero_or_pos n with h0 | hp
  · rw [h0]
    exact Nat.lt_of_le_of_lt (by decide) hm
  · exact (Nat.log2_lt (Nat.ne_of_gt hp)).mpr h
def CMulB (i j:Int):Prop:=Big i∧Big j
def CDivB (_ j:Int):Prop:=0<j∧Big j
section
variable {X:Cx}
theorem op_fdivB:OpR X (binaryOp .FloorDiv) (rI CDivB fun i j=>.int (i / j)):=opI fun i j _ _ _ _ _ hc q=>by
  have h1:(0:Int)<j:=hc.1
  have h2:j.natAbs.log2<4000:=log2_lt_of hc.2 (by decide)
  exact floordiv_int (by omega) (by rw [Int.fdiv_eq_ediv_of_nonneg i (by omega)]; exact q) (.inl (PyProof.noPylong_of_log2 (by omega)))
theorem call_isinst:CallR X (.builtin "isinstance") (fun xs H Q=>∃ (x c:V) (t:Value) (b:Bool),xs=[x,c]∧TyOf X.K H x t∧(∃ u,RelV c u∧(∀ u',RelV c u'→u'=u)∧PySem.W.kitOne X.K t u=some b)∧Q (.bl b) H):=by
  intro pins s σ H xs us Q I r h
  obtain ⟨x,c,t,b,rfl,ty,⟨u,_,hu,e⟩,q⟩:=h
  obtain ⟨u1,u2,rfl,r1,r2⟩:=vals2 r
  have e2:=hu u2 r2
  subst e2
  exact isinst_ok I r1 ty e fun tk=>⟨.bl b,H,I.tok _,rfl,q⟩
def rIsT (K:PySem.W.Frag) (n:String):List V→Hp→VK→Prop:=fun xs H Q=>∃ (x:V) (t:Value) (b:Bool),xs=[x,.ty n]∧TyOf K H x t∧PySem.W.kitOne K t (.type n)=some b∧Q (.bl b) H
theorem call_isT (n:String):CallR X (.builtin "isinstance") (rIsT X.K n):=by
  intro pins s σ H xs us Q I r h
  obtain ⟨x,t,b,rfl,ty,e,q⟩:=h
  exact call_isinst pins s σ H _ us Q I r ⟨x,.ty n,t,b,rfl,ty,⟨.type n,rfl,fun u' h'=>h',e⟩,q⟩
def rIsC (K:PySem.W.Frag) (C:Addr):List V→Hp→VK→Prop:=fun xs H Q=>∃ (x:V) (t:Value) (b:Bool),xs=[x,.ref C]∧TyOf K H x t∧PySem.W.kitOne K t (.ref C)=some b∧Q (.bl b) H
theorem Inv.turnedNew {pins:List (Addr×Obj)} {σ:St} {H:Hp} {s:Shared} {h':Heap} {t':Nat} {ch:List Addr} {a:Addr} {o:HO} (I:Inv X pins σ H s) (k:∀ b u,b∉ch→s.heap.get? b=some u→h'.get? b=some u)
    (hf:∀ b∈ch,FpOk X pins H b) (hp:s.heap.objs.size≤a) (new:ObjOk X.prog X.w (upd H a o) h' a o):Inv X pins σ (upd H a o) { s with heap:=h',toks:=t' }:=by
  have na:H a=none:=I.hok.fresh hp
  have nch:∀ b u,H b=some u→b∉ch:=fun b u e z=>by
    have:=(hf b z).1
    rw [this] at e
    cases e
  refine I.step (g':=s.gens) (d':=s.drawn) (ch:=ch) (fun b hb=>?_) (fun b u _ _ hc e _=>k b u hc e) (fun b u _ _ hc e _=>⟨u.slots,k b u hc e⟩) (fun b u _ e n=>?_)
    (fun b u hc e=>⟨u,k b u hc e⟩) (fun b xs e=>by rw [upd_ne (ne_of_none e na)]; exact e) (fun b u v e=>by rw [upd_ne (ne_of_none e na)]; exact e) (fun b ps e=>⟨#[],by rw [upd_ne (ne_of_none e na),e]; simp⟩) (fun m hm=>?_) (fun b u e=>?_) I.bare
  · obtain ⟨_,f1,_,f3,f4,f5⟩:=hf b hb
    exact ⟨f3,f1,f4,f5⟩
  · have hne:b≠a:=Nat.ne_of_lt (Nat.lt_of_lt_of_le (Heap.lt_size e) hp)
    rw [upd_ne hne]
    exact n
  · obtain ⟨ob,es,ep,ho,r⟩:=hm
    exact ⟨ob,es,ep,k _ ob (fun z=>(hf _ z).2.1 rfl) ho,r⟩
  · by_cases hb:b=a
    · subst hb
      rw [upd_same] at e
      cases e
      exact new
    · rw [upd_ne hb] at e
      refine (I.hok b u e).stay (fun c v hc q=>k c v ?_ q) (fun c q=>by rw [upd_ne (ne_of_none q na)]; exact q) fun c xs q=>by rw [upd_ne (ne_of_none q na)]; exact q
      rcases hc with z | z
      · rw [z]; exact nch b u e
      · exact nch c _ z
theorem Inv.turnedL {pins:List (Addr×Obj)} {σ:St} {H:Hp} {s:Shared} {h':Heap} {t':Nat} {ch:List Addr} (I:Inv X pins σ H s) (k:∀ b u,b∉ch→s.heap.get? b=some u→h'.get? b=some u)
    (hf:∀ b∈ch,FpOk X pins H b):Inv X pins σ H { s with heap:=h',toks:=t' }:=by
  have nch:∀ b u,H b=some u→b∉ch:=fun b u e z=>by
    have:=(hf b z).1
    rw [this] at e
    cases e
  refine I.step (g':=s.gens) (d':=s.drawn) (ch:=ch) (fun b hb=>?_) (fun b u _ _ hc e _=>k b u hc e) (fun b u _ _ hc e _=>⟨u.slots,k b u hc e⟩) (fun b u _ e n=>n)
    (fun b u hc e=>⟨u,k b u hc e⟩) (fun b xs e=>e) (fun b u v e=>e) (fun b ps e=>⟨#[],by rw [e]; simp⟩) (fun m hm=>?_) (fun b u e=>?_) I.bare
  · obtain ⟨_,f1,_,f3,f4,f5⟩:=hf b hb
    exact ⟨f3,f1,f4,f5⟩
  · obtain ⟨ob,es,ep,ho,r⟩:=hm
    exact ⟨ob,es,ep,k _ ob (fun z=>(hf _ z).2.1 rfl) ho,r⟩
  · refine (I.hok b u e).stay (fun c v hc q=>k c v ?_ q) (fun c q=>q) fun c xs q=>q
    rcases hc with z | z
    · rw [z]; exact nch b u e
    · exact nch c _ z
end
def Ite (K:PySem.W.Frag) (a:Addr):It :=
  ⟨fun i H=>∃ xs x,SqL K H a xs∧xs[i]?=some x,fun i H v H'=>∃ T x,H T=none∧H'=upd H T (.tup [.int (i:Int),x])∧v=.ref T∧∀ xs,SqL K H a xs→xs[i]?=some x,fun i H=>∃ xs,SqL K H a xs∧xs.length≤i⟩
section
variable {X:Cx}
def iEnum (K:PySem.W.Frag) (ta:TA):TI:=fun σ H R=>ta σ H fun vs H1=>∃ a,vs=[.ref a]∧(∃ xs,SqL K H1 a xs)∧R (Ite K a) H1
end
section
variable {prog:Program} {w:World} {A:Around} {E:Value→Shared→Prop} {s:Shared}
end
section
variable {X:Cx} {pos:Pos}
def gTupL (K:PySem.W.Frag) (n:Nat) (t:TGs):TG:=fun v σ H Q=>∃ a xs,v=.ref a∧SqL K H a xs∧xs.length=n∧t xs σ H Q
end
structure Cal (P:Program) (w:World) (K:PySem.W.Frag) (mg:Str→Option Value) (base:Heap) (k:Nat) (x:Str) (ps:List Str) (sp:Sp):Prop where
  ex:∃ (f:Addr) (fd:FuncData),FnOk P w K mg base CX0 k f fd ps sp∧Binds K fd ps []∧PySem.W.keepIn K (.ref f)=true∧mg x=some (.ref f)
section
variable {X:Cx} {k j:Nat} {x:Str} {ps:List Str} {sp:Sp} {p pos:Pos} {e:Expr} {es:List Expr} {t:TA}
theorem pe_fn (C:Cal X.prog X.w X.K X.mg X.base k x ps sp) (hr:Room j X.A) (hj:k≤j) (hg:Gl X x) (ha:PA X (e::es) t) (hdb:(x == ("__debug__":Str))=false:=by decide) (he:starEach (e::es) X.env=(false,eval e X.env)::starEach es X.env:=by rfl) (hpl:(backTo pos (starEach es X.env)).any (·.1)=false:=by rfl) :
    PE X (.Call (.Name x p) (e::es) [] pos) (tCall sp [] E0 t):=by
  obtain ⟨f,fd,G,b,kp,m⟩:=C.ex
  exact pe_call G (hr.mono hj) hg m kp b .nil pass0 ha hdb he hpl
end
theorem same_new {H:Hp} {p:Addr} (h:H p=none) (o:HO):Same H (upd H p o):=fun b u q=>by rw [upd_ne (ne_of_none q h)]; exact q
theorem Same.upd {H H1:Hp} {p:Addr} (s:Same H H1) (h:H p=none) (o:HO):Same H (upd H1 p o):=fun b u q=>by rw [upd_ne (ne_of_none q h)]; exact s b u q
theorem small {n:Nat} (h:n≤1000):n≤sizeLine:=Nat.le_of_lt (small1000 h)
end L2
namespace L2
open PySem PySem.Spec PyProof.Rows
structure FunAt (K:PySem.W.Frag) (x:Str) (st:Stmt):Prop where
  ex:∃ (f:Addr) (fd:FuncData),Fun K x x st f fd∧PySem.W.nsIn K mainGlobals x=some (some (.ref f))
theorem funAt_mk {K:PySem.W.Frag} {x:Str} {st:Stmt} {f:Addr} {oc:Value} {od an:Option Addr} {osl:Array (Option Value)} {kV doc pm cdv ct:Value} (a:PySem.W.nsIn K mainGlobals x=some (some (.ref f)))
    (l:K.lookup f=some ⟨oc,od,.func (PySem.W.fnOf x x (defArgs st) (defBody st) (defScope st) .none kV doc pm an cdv ct),osl⟩)
    (c:PySem.W.codeIn K cdv x=true) (k:PySem.W.keepIn K (.ref f)=true):FunAt K x st:=⟨f,_,fun_mk (st:=st) l c k,a⟩
theorem FunAt.cal {P:Program} {w:World} {K:PySem.W.Frag} {h base:Heap} {mg:Str→Option Value} {x:Str} {st:Stmt} {ps:List Str} {k:Nat} {sp:Sp} (F:FunAt K x st) (X:K.In h) (G:h.Ns mainGlobals mg)
    (hb:∀ (kV doc pm:Value) (an:Option Addr) (cdv ct:Value) (us:List Value),us.length=ps.length→bindArgs (PySem.W.fnOf x x (defArgs st) (defBody st) (defScope st) .none kV doc pm an cdv ct) ⟨us,[]⟩=pure (ps.zip us))
    (ok:∀ (f:Addr) (fd:FuncData),Fun K x x st f fd→FnOk P w K mg base CX0 k f fd ps sp):Cal P w K mg base k x ps sp:=by
  obtain ⟨f,fd,F1,a⟩:=F.ex
  exact ⟨f,fd,ok f fd F1,F1.binds hb,F1.kp,PySem.W.mg_of X G a⟩
theorem FunAt.law {P:Program} {w:World} {K:PySem.W.Frag} {h:Heap} {mg:Str→Option Value} {x p:Str} {st:Stmt} {fa:Addr} {k:Nat} {sp:Sp} (F:FunAt K x st) (X:K.In h) (G:h.Ns mainGlobals mg) (hfa:mg x=some (.ref fa))
    (hb:∀ (kV doc pm:Value) (an:Option Addr) (cdv ct:Value) (u:Value),bindArgs (PySem.W.fnOf x x (defArgs st) (defBody st) (defScope st) .none kV doc pm an cdv ct) ⟨[u],[]⟩=pure [(p,u)])
    (ok:∀ (base:Heap),K.In base→base.Ns mainGlobals mg→∀ (f:Addr) (fd:FuncData),Fun K x x st f fd→FnOk P w K mg base CX0 k f fd [p] sp) :
    ∃ fd:FuncData,(∀ (s:Shared) (u:Value),BindsTo s fd ⟨[u],[]⟩ [(p,u)])∧∀ base:Heap,K.In base→base.Ns mainGlobals mg→FnOk P w K mg base CX0 k fa fd [p] sp:=by
  obtain ⟨f,fd,F1,a⟩:=F.ex
  have e:=hfa.symm.trans (PySem.W.mg_of X G a)
  cases e
  refine ⟨fd,fun s u=>?_,fun base kb nb=>ok base kb nb _ fd F1⟩
  obtain ⟨oc,od,kV,doc,pm,an,cdv,ct,osl,rfl,lk,hcd⟩:=F1.ex
  exact .of_eq (hb kV doc pm an cdv ct u)
end L2
namespace L2
open PySem PySem.Spec PyProof.Rows
theorem fun_ex {K:PySem.W.Frag} {x qual:Str} {st:Stmt} {f:Addr} {oc:Value} {od an:Option Addr} {osl:Array (Option Value)} {kV doc pm cdv ct:Value}
    (l:K.lookup f=some ⟨oc,od,.func (PySem.W.fnOf x qual (defArgs st) (defBody st) (defScope st) .none kV doc pm an cdv ct),osl⟩)
    (c:PySem.W.codeIn K cdv qual=true) (k:PySem.W.keepIn K (.ref f)=true):∃ fd,Fun K x qual st f fd:=⟨_,fun_mk (st:=st) l c k⟩
end L2
namespace L2
open PySem PySem.Spec PyProof.Rows
theorem cellsFrom_app:∀ (names:List (Str×NameKind)) (n:Nat) (acc:List (Str×Addr)),cellsFrom n names acc=cellsFrom n names []++acc
  | [],_,_=>rfl
  | (x,k)::r,n,acc=>by
    unfold cellsFrom
    split
    · rw [cellsFrom_app r (n+1) ((x,n)::acc),cellsFrom_app r (n+1) [(x,n)],List.append_assoc]
      rfl
    · exact cellsFrom_app r n acc
theorem cellsFrom_none {y:Str}:∀ (names:List (Str×NameKind)) (n:Nat),(∀ k,(y,k)∈names→k≠.cell)→(cellsFrom n names []).lookup y=none
  | [],_,_=>rfl
  | (x,k)::r,n,h=>by
    have hr:∀ k,(y,k)∈r→k≠.cell:=fun k' hk=>h k' (List.mem_cons_of_mem _ hk)
    unfold cellsFrom
    split
    · rename_i hk
      rw [cellsFrom_app,List.lookup_append,cellsFrom_none r (n+1) hr]
      have hne:(y == x)=false:=by
        cases e:(y == x) with
        | false=>rfl
        | true =>
          have e':y=x:=beq_iff_eq.mp e
          subst e'
          exact absurd (beq_iff_eq.mp hk) (h k List.mem_cons_self)
      show Option.or none (List.lookup y [(x,n)])=none
      rw [List.lookup_cons,hne]
      rfl
    · exact cellsFrom_none r n hr
theorem closure_loop {env:Env} (f:Str×NameKind→List (Str×Addr)→Sem (ForInStep (List (Str×Addr))))
    (hf:∀ name kind cs,f (name,kind) cs=if kind == .free then (do let a ← cellOf env name; pure (.yield ((name,a)::cs))) else pure (.yield cs)) :
    ∀ (names:List (Str×NameKind)) (acc:List (Str×Addr)),(∀ y∈names,y.2=.free→∃ c,env.cells.lookup y.1=some c)→(∀ y c,acc.lookup y=some c→env.cells.lookup y=some c)→
      ∃ cl,forIn names acc f=pure cl∧(∀ y c,cl.lookup y=some c→env.cells.lookup y=some c)∧(∀ y c,acc.lookup y=some c→∃ c',cl.lookup y=some c')∧∀ y∈names,y.2=.free→∃ c,cl.lookup y.1=some c
  | [],acc,_,ha=>⟨acc,by rw [List.forIn_nil],ha,fun y c e=>⟨c,e⟩,fun y hy=>nomatch hy⟩
  | (x,k)::r,acc,hc,ha=>by
    have hr:∀ y∈r,y.2=.free→∃ c,env.cells.lookup y.1=some c:=fun y hy=>hc y (List.mem_cons_of_mem _ hy)
    by_cases hk:k=.free
    · obtain ⟨c,ec⟩:=hc (x,k) List.mem_cons_self hk
      have ha':∀ y d,((x,c)::acc).lookup y=some d→env.cells.lookup y=some d:=fun y d e=>by
        rw [List.lookup_cons] at e
        cases q:(y == x) with
        | true =>
          rw [q] at e
          have e1:c=d:=Option.some.inj e
          rw [beq_iff_eq.mp q,← e1]
          exact ec
        | false=>rw [q] at e; exact ha y d e
      obtain ⟨cl,h1,h2,h3,h4⟩:=closure_loop f hf r ((x,c)::acc) hr ha'
      refine ⟨cl,?_,h2,fun y d e=>?_,fun y hy hf=>?_⟩
      · rw [List.forIn_cons,hf,if_pos (by rw [hk]; rfl)]
        have:cellOf env x=pure c:=by unfold cellOf; rw [ec]
        rw [this]
        simp only [pure_bind]
        exact h1
      · cases q:(y == x) with
        | true=>exact h3 y c (by rw [List.lookup_cons,q])
        | false=>exact h3 y d (by rw [List.lookup_cons,q]; exact e)
      · rcases List.mem_cons.mp hy with z | z
        · subst z
          exact h3 x c (by rw [List.lookup_cons]; simp)
        · exact h4 y z hf
    · obtain ⟨cl,h1,h2,h3,h4⟩:=closure_loop f hf r acc hr ha
      refine ⟨cl,?_,h2,h3,fun y hy hf=>?_⟩
      · rw [List.forIn_cons,hf,if_neg (by intro z; exact hk (beq_iff_eq.mp z))]
        simp only [pure_bind]
        exact h1
      · rcases List.mem_cons.mp hy with z | z
        · subst z
          exact absurd hf hk
        · exact h4 y z hf
theorem closure_ok {scope:Scope} {env:Env} (hc:∀ y∈scope.names,y.2=.free→∃ c,env.cells.lookup y.1=some c) :
    ∃ cl,closureFor scope env=pure cl∧(∀ y c,cl.lookup y=some c→env.cells.lookup y=some c)∧∀ y∈scope.names,y.2=.free→∃ c,cl.lookup y.1=some c:=by
  unfold closureFor
  obtain ⟨cl,h1,h2,_,h4⟩:=closure_loop (env:=env) (fun (x:Str×NameKind) (r:List (Str×Addr))=>if x.2 == .free then (do let a ← cellOf env x.1; pure (.yield ((x.1,a)::r))) else pure (.yield r)) (fun _ _ _=>rfl) scope.names [] hc (fun y c e=>by cases e)
  refine ⟨cl,?_,h2,h4⟩
  have e:∀ (f:Str×NameKind→List (Str×Addr)→Sem (ForInStep (List (Str×Addr)))),(∀ x r,f x r=if x.2 == .free then (do let a ← cellOf env x.1; pure (.yield ((x.1,a)::r))) else pure (.yield r))→(forIn scope.names ([]:List (Str×Addr)) f >>= fun cs=>pure cs)=(pure cl:Sem _):=fun f hf=>by
    have:f=fun (x:Str×NameKind) (r:List (Str×Addr))=>if x.2 == .free then (do let a ← cellOf env x.1; pure (.yield ((x.1,a)::r))) else pure (.yield r):=by
      funext x r
      exact hf x r
    rw [this,h1]
    rfl
  refine e _ fun x r=>?_
  obtain ⟨n,k⟩:=x
  cases hk:k == NameKind.free <;> simp [hk]
section
variable {prog:Program} {w:World} {A:Around} {E:Value→Shared→Prop} {R:Result→Shared→Prop} {s:Shared}
theorem comp_loop {elt target iter:Expr} {ifs:List Expr} {scope:Scope} {pos:Pos} {it acc:Value} {env:Env} (I:Nat→Shared→Prop)
    (turn:∀ n s,I n s→wpAny (model prog w) A (pyNext it) (fun r s₁=>match r with
      | none=>R (.ok .next) s₁
      | some v=>wpAny (model prog w) A (letOwnedTupleGo target it v) (fun _ s₁'=>wpAny (model prog w) A (assign target env v) (fun _ s₂ =>
          wpAny (model prog w) A (forIn ifs true fun c r=>if r=true then do let ok ← isTrue c env (eval c env); pure (ForInStep.yield ok) else pure (ForInStep.yield r)) (fun ok s₃ =>
            if ok=true then wpAny (model prog w) A (eval elt env) (fun x s₄ =>
              wpAny (model prog w) A (call (.builtin "list.append") [acc,x]) (fun _ s₅=>∃ m,m<n∧I m s₅) (fun _ _=>False) s₄) (fun _ _=>False) s₃
            else ∃ m,m<n∧I m s₃) (fun _ _=>False) s₂) (fun _ _=>False) s₁') (fun _ _=>False) s₁) (fun _ _=>False) s)
    (n:Nat) (h:I n s) :
    codeAny (model prog w) A (.compLoop (.ListComp elt [⟨target,iter,ifs,0⟩] scope pos) 0 it acc env) R s:=by
  refine codeAny_loop rfl I (fun n s hI=>?_) n h
  show wpAny _ A ((compTurn (.ListComp elt [⟨target,iter,ifs,0⟩] scope pos) 0 it acc env).onRaise (fun x=>do noteFrame x env; theTreesLotGoes x)) _ _ s
  refine wpAny_noted ?_
  rw [compTurn_list]
  refine wpAny_mono (E:=fun _ _=>False) ?_ (fun _ _ z=>z) fun _ _ z=>z.elim
  refine wpAny_bind (wpAny_standAt (wpAny_bind (wpAny_mono (turn n s hI) (fun r s₁ h₁=>?_) fun _ _ h'=>h')))
  cases r with
  | none=>exact wpAny_pure h₁
  | some v =>
    refine wpAny_bind (wpAny_mono h₁ (fun _ s₁' h₁'=>?_) fun _ _ h'=>h')
    refine wpAny_bind (wpAny_mono h₁' (fun _ s₂ h₂=>wpAny_bind (wpAny_mono h₂ (fun ok s₃ h₃=>?_) fun _ _ h'=>h')) fun _ _ h'=>h')
    cases ok with
    | false=>exact wpAny_pure ⟨rfl,h₃⟩
    | true =>
      exact wpAny_bind (wpAny_bind (wpAny_mono h₃ (fun x s₄ h₄=>wpAny_bind (wpAny_mono h₄ (fun _ s₅ h₅=>wpAny_pure (wpAny_pure ⟨rfl,h₅⟩)) fun _ _ h'=>h')) fun _ _ h'=>h'))
theorem comp_env {scope:Scope} {env:Env} {cl:List (Str×Addr)} {Q:Env→Shared→Prop}
    (hQ:Q { scope:=scope,locals:=s.heap.objs.size,globals:=env.globals,cells:=cellsFrom (s.heap.objs.size+1) scope.names cl,qual:=env.qual,func:=none,code:=env.code,frame:=env.frame,builtins:=env.builtins }
      { s with heap:=pushCells (s.heap.push { cls:=.type "dict",data:=.dict #[] }) scope.names }) :
    wpAny (model prog w) A (newFunctionEnv scope env.globals cl [] env.qual none .none (some env)) Q E s:=by
  simp only [newFunctionEnv,Option.isSome_some,if_true]
  refine wpAny_bind (wpAny_alloc ?_)
  refine wpAny_bind (wpAny_layCells _ (fun name kind cells=>by cases hkc:kind == NameKind.cell <;> simp [hkc]) _ _ _ _ ?_)
  rw [show ({ s with heap:=s.heap.push { cls:=.type "dict",data:=.dict #[] } }:Shared).heap.objs.size=s.heap.objs.size+1 from Heap.size_push ..]
  rw [List.forIn_nil]
  exact wpAny_bind (wpAny_pure (wpAny_pure hQ))
end
end L2
namespace L2
open PySem PySem.Spec PyProof.Rows
def compCx (X:Cx) (scope:Scope) (C:Addr) (cells:List (Str×Addr)) (N':List Str) (fp:List Addr) (s:Shared) (H:Hp):Cx where
  prog:=X.prog
  w:=X.w
  K:=X.K
  mg:=X.mg
  base:=X.base
  A:=X.A
  N:=N'
  s₀:=s
  H₀:=H
  env:={ scope:=relabel scope X.env,locals:=C,globals:=X.env.globals,cells:=cells,qual:=X.env.qual,func:=none,code:=X.env.code,frame:=X.env.frame,builtins:=X.env.builtins }
  outer:=X.stack
  stack:=X.stack
  ex:=fp
  fn:=fun y=>decide (scope.names.lookup y=some .cell)
  calm:=X.calm
  pn:=[]
  xe:=fun _ _=>False
def isCF:Option NameKind→Bool
  | some .cell=>true
  | some .free=>true
  | _=>false
theorem isCF_iff {o:Option NameKind} (h:isCF o=true):o=some .cell∨o=some .free:=by
  cases o with
  | none=>cases h
  | some k=>cases k <;> first | exact .inl rfl | exact .inr rfl | cases h
def capOk (env:Env) (scope:Scope) (y:Str):Bool:=isCF (env.scope.names.lookup y) && isCF ((relabel scope env).names.lookup y) && scope.names.all (fun z=>!(z.1 == y) || !(z.2 == .cell)) && scope.names.any fun z=>z.1 == y && z.2 == .free
def PTs (X:Cx) (ifs:List Expr) (t:TT):Prop :=
  ∀ (pins:List (Addr×Obj)) (s:Shared) (σ:St) (H:Hp) (Q:Bool→Hp→Prop),Inv X pins σ H s→t σ H Q→
    wpAny (model X.prog X.w) X.A (forIn ifs true fun c r=>if r=true then do let ok ← isTrue c X.env (eval c X.env); pure (ForInStep.yield ok) else pure (ForInStep.yield r)) (TP X pins σ Q) X.xe s
def tTrue:TT:=fun _ H Q=>Q true H
theorem pts_nil {X:Cx}:PTs X [] tTrue:=fun pins s σ H Q I h=>by
  rw [List.forIn_nil]
  exact wpAny_pure ⟨H,I,h⟩
theorem pts_one {X:Cx} {c:Expr} {t:TT} (h:PT X c t):PTs X [c] t:=fun pins s σ H Q I hw=>by
  rw [List.forIn_cons]
  simp only [if_true]
  refine wpAny_bind (wpAny_bind (thn (h pins s σ H Q I hw) fun b s1 q=>wpAny_pure ?_))
  show wpAny _ _ (forIn [] b _) _ _ s1
  rw [List.forIn_nil]
  exact wpAny_pure q
def capσ (nv:Nat) (ix:List Nat) (σ:St):St:=List.replicate nv none++ix.map fun i=>(σ[i]?).getD none
def CompAt (J:It) (g:TG) (tt:TT) (te:TE) (nv:Nat) (ix:List Nat) (σ:St) (Q:VK) (H1:Hp) (D:Addr):Prop:=∃ W:Nat→Nat→Hp→Prop,(∃ m,W 0 m (upd H1 D (.lst [])))∧∀ i m H2,W i m H2→
  (J.stop i H2∧Q (.ref D) H2)∨(J.go i H2∧∃ Nx:Hp→Prop,(∀ H',Nx H'→∃ m',m'<m∧W (i+1) m' H')∧∀ x H',J.yld i H2 x H'→g x (capσ nv ix σ) H' fun σ2 H3=>σ2.drop nv=(capσ nv ix σ).drop nv∧tt σ2 H3 fun b H4 =>
    if b=true then te σ2 H4 fun v H5=>∃ xs,H5 D=some (.lst xs)∧xs.length<sizeLine∧Nx (upd H5 D (.lst (xs++[v]))) else Nx H4)
def tComp (wi:TI) (g:TG) (tt:TT) (te:TE) (nv:Nat) (ix:List Nat):TE:=fun σ H Q=>wi σ H fun J H1=>∀ D,H1 D=none→CompAt J g tt te nv ix σ Q H1 D
section
variable {X:Cx} {elt target iter:Expr} {ifs:List Expr} {scope:Scope} {pos:Pos} {g:TG} {tt:TT} {te:TE}
theorem comp_block {pins:List (Addr×Obj)} {σ:St} {H:Hp} {s:Shared} {J:It} {fp:List Addr} {it:Addr} {tn:Nat→Heap→Prop} {Q:VK} {E:Value→Shared→Prop} {RR:Value→Addr→Result→Shared→Prop} {cl:List (Str×Addr)} (xs capN:List Str) (ix:List Nat) (hc:X.calm=true)
    (hg:∀ C cells fp s H,PG (compCx X scope C cells (xs++capN) fp s H) target g) (ht:∀ C cells fp s H,PTs (compCx X scope C cells (xs++capN) fp s H) ifs tt) (he:∀ C cells fp s H,PE (compCx X scope C cells (xs++capN) fp s H) elt te)
    (hix:ix.map (fun i=>X.N[i]?)=capN.map some) (hcap:capN.all (capOk X.env scope)=true) (hfree:scope.names.all (fun z=>!(z.2 == .free) || isCF (X.env.scope.names.lookup z.1))=true) (hkind:scope.kind=.function)
    (hclo:∀ y c,cl.lookup y=some c→X.env.cells.lookup y=some c) (hclh:∀ y∈scope.names,y.2=.free→∃ c,cl.lookup y.1=some c)
    (I:Inv X pins σ H s) (T:Turn X.prog X.w X.K target J fp it tn) (st:tn 0 s.heap) (hf:∀ b∈fp,FpOk X pins H b)
    (h:∀ D,H D=none→CompAt J g tt te xs.length ix σ Q H D)
    (hRR:∀ D C s' H' m,Inv X pins σ H' s'→FpOk X pins H' C→s'.heap.Ns C m→Q (.ref D) H'→RR (.ref D) C (.ok .next) s') :
    wpAny (model X.prog X.w) X.A (newList []) (fun acc s₃=>wpAny (model X.prog X.w) X.A (newFunctionEnv scope X.env.globals cl [] X.env.qual none .none (some X.env)) (fun cenv s₄ =>
      codeAny (model X.prog X.w) X.A (.compStart (.ListComp elt [⟨target,iter,ifs,0⟩] scope pos) 0 (.ref it) acc { cenv with scope:=relabel scope X.env }) (RR acc cenv.locals) s₄) E s₃) E s:=by
  refine wpAny_newObj_type (comp_env ?_)
  generalize hD:s.heap.objs.size=D
  have nD:H D=none:=I.hok.fresh (Nat.le_of_eq hD)
  generalize hH1:s.heap.push { cls:=.type "list",dict:=none,data:=.seq ([]:List Value).toArray }=h1
  have z1:h1.objs.size=D+1:=by rw [← hH1,Heap.size_push,hD]
  have k1:∀ b o,s.heap.get? b=some o→h1.get? b=some o:=fun b o e=>by rw [← hH1]; exact Heap.get?_push_of_some _ e
  have l1:h1.get? D=some { cls:=.type "list",dict:=none,data:=.seq ([]:List Value).toArray }:=by rw [← hH1,← hD]; exact Heap.get?_push_size _ rfl
  show codeAny _ _ _ (RR (.ref D) h1.objs.size) { s with heap:=pushCells (h1.push { cls:=.type "dict",data:=.dict #[] }) scope.names }
  rw [z1]
  generalize hH2:h1.push { cls:=.type "dict",data:=.dict #[] }=h2
  have z2:h2.objs.size=D+2:=by rw [← hH2,Heap.size_push,z1]
  have k2:∀ b o,h1.get? b=some o→h2.get? b=some o:=fun b o e=>by rw [← hH2]; exact Heap.get?_push_of_some _ e
  have n2:h2.Ns (D+1) (fun _=>none):=by rw [← hH2,← z1]; exact Heap.Ns.new h1 (.type "dict")
  have ok:=cellsFrom_ok scope.names h2 (D+2) [] ⟨fun _ _ hm=>(nomatch hm),List.Pairwise.nil⟩ (Nat.le_of_eq z2.symm)
  rw [z2] at ok
  have k3:=pushCells_keeps scope.names h2
  have n3:(pushCells h2 scope.names).Ns (D+1) (fun _=>none):=n2.keeps k3
  generalize hH3:pushCells h2 scope.names=h3 at ok k3 n3
  have kk:∀ b o,s.heap.get? b=some o→h3.get? b=some o:=fun b o e=>k3 b o (k2 b o (k1 b o e))
  have l3:h3.get? D=some { cls:=.type "list",dict:=none,data:=.seq ([]:List Value).toArray }:=k3 _ _ (k2 _ _ l1)
  rw [cellsFrom_app]
  generalize hcs:cellsFrom (D+2) scope.names []=cs at ok
  have csn:∀ y,(∀ k,(y,k)∈scope.names→k≠.cell)→cs.lookup y=none:=fun y hy=>by rw [← hcs]; exact cellsFrom_none _ _ hy
  have csh:∀ y,scope.names.lookup y=some .cell→∃ c,cs.lookup y=some c:=fun y hy=>by rw [← hcs]; exact cell_has hy
  have cells_or:∀ y c,(cs++cl).lookup y=some c→(cs.lookup y=some c)∨(cs.lookup y=none∧cl.lookup y=some c):=fun y c e=>by
    rw [List.lookup_append] at e
    cases q:cs.lookup y with
    | some d=>rw [q] at e; exact .inl e
    | none=>rw [q] at e; exact .inr ⟨rfl,e⟩
  have newc:∀ y c,cs.lookup y=some c→D+2≤c∧h3.IsCell c none:=fun y c e=>⟨(ok.empty y c (PySem.mem_of_lookup e)).2,(ok.empty y c (PySem.mem_of_lookup e)).1⟩
  have oldc:∀ y c,cl.lookup y=some c→D > c∧(∃ v,h3.IsCell c v)∧H c=none:=fun y c e=>by
    obtain ⟨v,q⟩:=I.cell y c (hclo y c e)
    exact ⟨by rw [← hD]; exact q.lt,⟨v,q.keeps kk⟩,I.freeC y c (hclo y c e)⟩
  have szD:s.heap.objs.size≤D:=Nat.le_of_eq hD
  have szC:s.heap.objs.size≤D+1:=by omega
  let X':Cx:=compCx X scope (D+1) (cs++cl) (xs++capN) fp s H
  have fpD:∀ b∈fp,D > b:=fun b hb=>by
    obtain ⟨o,e,_⟩:=T.obj 0 s.heap st b hb
    rw [← hD]
    exact Heap.lt_size e
  have okX:X'.Ok:=by
    refine ⟨I.ok.mod,?_,I.ok.glob,I.ok.blt,szC,fun x y c h1 h2=>?_,fun x hx=>?_,fun x c hx hl=>?_,fun _=>I.ok.hd hc,I.ok.frames,.inl rfl,fun b hb=>⟨?_,fun x c hl z=>?_⟩,fun b o e=>⟨(I.bs b o e).1,(I.bs b o e).2⟩,Nat.le_trans I.ok.bsz I.sz,fun b o e hb=>?_,fun b hb hz=>?_,I.stack,I.stkFree⟩
    · show (relabel scope X.env).kind=.function
      exact hkind
    · rcases cells_or x c h1 with e1 | ⟨_,e1⟩ <;> rcases cells_or y c h2 with e2 | ⟨_,e2⟩
      · exact name_of_addr ok.apart (PySem.mem_of_lookup e1) (PySem.mem_of_lookup e2)
      · have a1:=(newc x c e1).1
        have a2:=(oldc y c e2).1
        omega
      · have a1:=(newc y c e2).1
        have a2:=(oldc x c e1).1
        omega
      · exact I.ok.inj x y c (hclo x c e1) (hclo y c e2)
    ·
      have hm:∃ k,(x,k)∈scope.names∧(k=.free∨k=.cell):=by
        have hx':(relabel scope X.env).names.lookup x=some .cell∨(relabel scope X.env).names.lookup x=some .free:=hx
        have mem:∀ k,(relabel scope X.env).names.lookup x=some k→(x,k)∈(relabel scope X.env).names:=fun k e=>PySem.mem_of_lookup e
        rcases hx' with e | e
        · obtain ⟨⟨n,k⟩,h1,h2⟩:=List.mem_map.mp (mem _ e)
          by_cases q:(k == NameKind.free && X.env.scope.kind == .function && X.env.kindOf n == some .cell)=true
          · simp only [q,if_true] at h2
            cases h2
            simp only [Bool.and_eq_true] at q
            exact ⟨k,h1,.inl (beq_iff_eq.mp q.1.1)⟩
          · simp only [q] at h2
            cases h2
            exact ⟨_,h1,.inr rfl⟩
        · obtain ⟨⟨n,k⟩,h1,h2⟩:=List.mem_map.mp (mem _ e)
          by_cases q:(k == NameKind.free && X.env.scope.kind == .function && X.env.kindOf n == some .cell)=true
          · simp only [q,if_true] at h2
            cases h2
          · simp only [q] at h2
            cases h2
            exact ⟨_,h1,.inl rfl⟩
      obtain ⟨k,hk,hk2⟩:=hm
      show ∃ c,(cs++cl).lookup x=some c
      rw [List.lookup_append]
      cases q:cs.lookup x with
      | some d=>exact ⟨d,rfl⟩
      | none =>
        rcases hk2 with z | z
        · subst z
          obtain ⟨c,e⟩:=hclh _ hk rfl
          exact ⟨c,e⟩
        · subst z
          exfalso
          have:∀ (names:List (Str×NameKind)) (n:Nat),(x,NameKind.cell)∈names→(cellsFrom n names []).lookup x≠none:=by
            intro names
            induction names with
            | nil=>intro n hm; cases hm
            | cons p r ih =>
              intro n hm
              obtain ⟨a,b⟩:=p
              unfold cellsFrom
              split
              · rw [cellsFrom_app,List.lookup_append]
                rcases List.mem_cons.mp hm with z | z
                · cases z
                  cases (cellsFrom (n+1) r []).lookup x with
                  | some d=>intro z; cases z
                  | none=>simp
                · cases e:(cellsFrom (n+1) r []).lookup x with
                  | some d=>intro z; cases z
                  | none=>exact absurd e (ih (n+1) z)
              · rename_i hb
                rcases List.mem_cons.mp hm with z | z
                · cases z
                  exact absurd rfl hb
                · exact ih n z
          exact this scope.names (D+2) hk (by rw [hcs]; exact q)
    · have hx':scope.names.lookup x=some .cell:=of_decide_eq_true hx
      rcases cells_or x c hl with e1 | ⟨e0,_⟩
      · have:=(newc x c e1).1
        show s.heap.objs.size≤c
        omega
      · obtain ⟨d,e⟩:=csh x hx'
        rw [e0] at e
        cases e
    · exact Nat.ne_of_lt (Nat.lt_succ_of_lt (fpD b hb))
    · rcases cells_or x c hl with e1 | ⟨_,e1⟩
      · have a1:=(newc x c e1).1
        have a2:=fpD b hb
        subst z
        omega
      · exact (hf b hb).2.2.2.2.1 x c (hclo x c e1) z
    · obtain ⟨f0,f1,f2,f3,_⟩:=hf b hb
      rcases f3 with z | z
      · exact I.ok.noex b o e z
      · have a1:=(I.ok.bs b o e).1
        exact absurd (Nat.lt_of_lt_of_le (Heap.lt_size a1) z) (Nat.lt_irrefl _)
    · have z:=I.stkSub b hz
      rcases List.mem_cons.mp z with q | q
      · exact (hf b hb).2.1 q
      · exact (hf b hb).2.2.1 q
  have hgens:AllBare s.gens:=I.bare
  have capl:capN.length=ix.length:=by
    have:=congrArg List.length hix
    rw [List.length_map,List.length_map] at this
    exact this.symm
  have I0:Inv X' [] (capσ xs.length ix σ) (upd H D (.lst [])) { s with heap:=h3 }:=by
    refine ⟨okX,rfl,hgens,Un.laid kk szD nD,⟨_,n3,fun i y v e1 e2 e3=>?_⟩,fun y c e=>?_,?_,fun y c e=>?_,fun p hp=>absurd hp (by show p∉([]:List (Addr×Obj))++[]; simp),I.hok.laid kk szD ⟨by decide,[],0,.nil,l3⟩,?_⟩
    ·
      have e1':(xs++capN)[i]?=some y:=e1
      have e2':(List.replicate xs.length none++ix.map fun i=>(σ[i]?).getD none)[i]?=some (some v):=e2
      by_cases hi:i<xs.length
      · rw [List.getElem?_append_left (by simpa using hi),List.getElem?_replicate] at e2'
        rw [if_pos hi] at e2'
        cases e2'
      · rw [List.getElem?_append_right (by omega)] at e1'
        rw [List.getElem?_append_right (by simpa using hi),List.length_replicate,List.getElem?_map] at e2'
        generalize i - xs.length=j at e1' e2'
        cases ej:ix[j]? with
        | none=>rw [ej] at e2'; cases e2'
        | some k =>
          rw [ej] at e2'
          have e2'':(σ[k]?).getD none=some v:=Option.some.inj e2'
          have hs:σ[k]?=some (some v):=by
            cases q:σ[k]? with
            | none=>rw [q] at e2''; cases e2''
            | some o=>rw [q] at e2''; exact congrArg some e2''
          have hN:X.N[k]?=some y:=by
            have q:=congrArg (fun l=>l[j]?) hix
            simp only [List.getElem?_map,ej,e1',Option.map_some] at q
            exact Option.some.inj q
          have hyc:=List.all_eq_true.mp hcap y (List.mem_of_getElem? e1')
          unfold capOk at hyc
          simp only [Bool.and_eq_true] at hyc
          obtain ⟨⟨⟨c1,c2⟩,c3⟩,c4⟩:=hyc
          have vis:Vis X.env.scope y:=(isCF_iff c1).elim (fun z=>.inr (.inl z)) fun z=>.inr (.inr z)
          obtain ⟨m0,_,hl0⟩:=I.loc
          obtain ⟨u,ru,lk⟩:=hl0 k y v hN hs vis
          refine ⟨u,ru,.inr ⟨isCF_iff c2,?_⟩⟩
          rcases lk with ⟨q,_⟩ | ⟨_,c,ec,hcell⟩
          · have q':X.env.scope.names.lookup y=some .local:=q
            rw [q'] at c1
            cases c1
          · have no:cs.lookup y=none:=csn y fun k hk z=>by
              have:=List.all_eq_true.mp c3 _ hk
              subst z
              simp at this
            obtain ⟨z,hz,hz2⟩:=List.any_eq_true.mp c4
            simp only [Bool.and_eq_true] at hz2
            have ez:z.1=y:=beq_iff_eq.mp hz2.1
            obtain ⟨d,ed⟩:=hclh z hz (beq_iff_eq.mp hz2.2)
            rw [ez] at ed
            have:d=c:=Option.some.inj ((hclo y d ed).symm.trans ec)
            subst this
            refine ⟨d,?_,hcell.keeps kk⟩
            show (cs++cl).lookup y=some d
            rw [List.lookup_append,no]
            exact ed
    · rcases cells_or y c e with e1 | ⟨_,e1⟩
      · exact ⟨none,(newc y c e1).2⟩
      · exact (oldc y c e1).2.1
    · show (upd H D (.lst [])) (D+1)=none
      rw [upd_ne (Nat.succ_ne_self D)]
      exact I.hok.fresh szC
    · rcases cells_or y c e with e1 | ⟨_,e1⟩
      · have a1:=(newc y c e1).1
        rw [upd_ne (Nat.ne_of_gt (by omega:D<c))]
        exact I.hok.fresh (by omega)
      · have a1:=oldc y c e1
        rw [upd_ne (Nat.ne_of_lt a1.1)]
        exact a1.2.2
    · show (capσ xs.length ix σ).length=(xs++capN).length
      unfold capσ
      rw [List.length_append,List.length_replicate,List.length_map,List.length_append,capl]
  have st3:tn 0 h3:=T.keep 0 s.heap h3 st fun b _ o e=>kk b o e
  obtain ⟨W,⟨m0,w0⟩,turn⟩:=h D nD
  have fpX:∀ {pins':List (Addr×Obj)} {H':Hp},(∀ b∈fp,H' b=none)→(∀ p∈pins',∀ b∈fp,p.1≠b)→∀ b∈fp,FpOk X' pins' H' b:=fun {pins' H'} hn hp b hb=>by
    refine ⟨hn b hb,(okX.exf b hb).1,okX.exfs b hb,.inl hb,(okX.exf b hb).2,fun p hp'=>?_⟩
    rcases List.mem_append.mp hp' with q | q
    · exact absurd (show p∈([]:List (Addr×Obj)) from q) (by simp)
    · exact hp p q b hb
  have noHP:∀ {H':Hp},(∀ b∈fp,H' b=none)→∀ b∈fp,FpOk X' [] H' b:=fun hn=>fpX hn fun p hp=>absurd hp (by simp)
  have loop:∀ s₃:Shared,s₃={ s with heap:=h3 }→codeAny (model X.prog X.w) X.A (.compLoop (.ListComp elt [⟨target,iter,ifs,0⟩] scope pos) 0 (.ref it) (.ref D) X'.env) (RR (.ref D) (D+1)) s₃:=by
    rintro s₃ rfl
    refine comp_loop (fun n s'=>∃ i H',Inv X' [] (capσ xs.length ix σ) H' s'∧tn i s'.heap∧(∀ b∈fp,H' b=none)∧W i n H') ?_ m0 ⟨0,_,I0,st3,fun b hb=>?_,w0⟩
    · rintro n s' ⟨i,H',I',st',fr',w'⟩
      rcases turn i n H' w' with ⟨stop,q⟩ | ⟨go,Nx,hN,step⟩
      · refine thn (T.done X' rfl rfl rfl hc i [] s' _ H' _ I' (noHP fr') st' stop) fun r s4 ⟨hr,I4⟩=>?_
        subst hr
        obtain ⟨m,hn4,_⟩:=I4.loc
        have u4:Un (frs X.stack) fp H H' s.heap s4.heap:=I4.base
        have J4:Inv X pins σ H' s4:=I.call' I4.os u4 I4.hok I4.bare fun b hb=>by
          obtain ⟨f0,f1,f2,f3,f4,f5⟩:=hf b hb
          exact ⟨f3,f1,f4,f5⟩
        refine hRR D (D+1) s4 H' m J4 ⟨I4.free,?_,?_,.inr (Nat.le_trans I.sz szC),fun x c e z=>?_,fun p hp z=>?_⟩ hn4 q
        · exact Nat.ne_of_gt (Nat.lt_of_lt_of_le I.lt szC)
        · exact I.nofs szC
        · obtain ⟨v,qq⟩:=I.cell x c e
          exact Nat.ne_of_lt (Nat.lt_of_lt_of_le qq.lt szC) z
        · exact Nat.ne_of_lt (Nat.lt_of_lt_of_le (Heap.lt_size (I.pin p hp).1) szC) z
      · refine thn (T.item X' rfl rfl rfl hc i [] s' _ H' _ I' (noHP fr') st' go) fun r s4 ⟨u,hr,h4⟩=>?_
        subst hr
        refine thn h4 fun _ s5 ⟨x,H5,I5,r5,y5,st5,fr5⟩=>?_
        have I5':=I5.pinned (noHP fr5) (T.obj _ _ st5)
        have back:∀ {σ7:St} {H7:Hp} {s7:Shared},Inv X' ([]++pinsAt fp s5.heap) σ7 H7 s7→(∀ (j:Nat) v,(capσ xs.length ix σ)[j]?=some (some v)→σ7[j]?=some (some v))→Nx H7→∃ m,m<n∧∃ i H',Inv X' [] (capσ xs.length ix σ) H' s7∧tn i s7.heap∧(∀ b∈fp,H' b=none)∧W i m H':=fun {σ7 H7 s7} I7 hσ n7=>by
          obtain ⟨m',hm,w7⟩:=hN H7 n7
          have I8:Inv X' [] (capσ xs.length ix σ) H7 s7:=(I7.weak (by rw [I7.len]; exact I0.len) hσ).pins_of fun p hp=>absurd hp (by simp)
          refine ⟨m',hm,i+1,H7,I8,T.keep _ _ _ st5 fun b hb o e=>(I7.pin (b,o) (List.mem_append_right _ (List.mem_append_right _ (mem_pinsAt hb e)))).1,fun b hb=>?_,w7⟩
          obtain ⟨o,e,d⟩:=T.obj _ _ st5 b hb
          exact (I7.pin (b,o) (List.mem_append_right _ (List.mem_append_right _ (mem_pinsAt hb e)))).2.1
        have conv:∀ σ7:St,σ7.drop xs.length=(capσ xs.length ix σ).drop xs.length→∀ (j:Nat) v,(capσ xs.length ix σ)[j]?=some (some v)→σ7[j]?=some (some v):=fun σ7 e j v q=>by
          by_cases hj:j<xs.length
          · unfold capσ at q
            rw [List.getElem?_append_left (by simpa using hj),List.getElem?_replicate,if_pos hj] at q
            cases q
          · have e2:=congrArg (fun l=>l[j - xs.length]?) e
            simp only [List.getElem?_drop] at e2
            rw [show xs.length+(j - xs.length)=j by omega] at e2
            rw [e2]
            exact q
        refine thn (hg _ _ _ _ _ _ s5 _ H5 x u _ I5' r5 (step x H5 y5)) fun _ s6 ⟨σ6,H6,I6,hσ,q6⟩=>?_
        refine thn (ht _ _ _ _ _ _ s6 σ6 H6 _ I6 q6) fun b s7 ⟨H7,I7,q7⟩=>?_
        cases b with
        | false =>
          rw [if_neg Bool.false_ne_true]
          rw [if_neg Bool.false_ne_true] at q7
          exact back I7 (conv σ6 hσ) q7
        | true =>
          rw [if_pos rfl]
          rw [if_pos rfl] at q7
          refine thn (he _ _ _ _ _ _ s7 σ6 H7 _ I7 q7) fun v s8 ⟨y,H8,I8,r8,ys,hy,hl,q8⟩=>?_
          refine thn (mt_append _ s8 σ6 H8 (.ref D) [y] (.ref D) [v] (fun _ H9=>Nx H9) I8 rfl (.cons r8 .nil) ⟨D,ys,y,rfl,rfl,hy,hl,q8⟩) fun _ s9 ⟨_,H9,I9,_,q9⟩=>?_
          exact back I9 (conv σ6 hσ) q9
    · rw [upd_ne (Nat.ne_of_lt (fpD b hb))]
      exact (hf b hb).1
  exact codeAny_compStart_list (loop _ rfl) (wpAny_mono (T.self X.A 0 _ _ (fun _ _=>False) st3 (loop _ rfl)) (fun _ _ z=>z) fun _ _ z=>z.elim)
theorem pe_comp {wi:TI} (xs capN:List Str) (ix:List Nat) (hc:X.calm=true) (hi:PI X target iter wi)
    (hg:∀ C cells fp s H,PG (compCx X scope C cells (xs++capN) fp s H) target g) (ht:∀ C cells fp s H,PTs (compCx X scope C cells (xs++capN) fp s H) ifs tt) (he:∀ C cells fp s H,PE (compCx X scope C cells (xs++capN) fp s H) elt te)
    (hix:ix.map (fun i=>X.N[i]?)=capN.map some:=by rfl) (hcap:capN.all (capOk X.env scope)=true:=by rfl) (hfree:scope.names.all (fun z=>!(z.2 == .free) || isCF (X.env.scope.names.lookup z.1))=true:=by rfl) (hkind:scope.kind=.function:=by rfl)
    (hnames:scope.names.all (fun z=>!(z.2 == .local) || scope.names.lookup z.1 == some .local)=true:=by decide +kernel) (hs:∀ x,foldedSetIterable iter X.env x=pure x:=by intro _; rfl) :
    PE X (.ListComp elt [⟨target,iter,ifs,0⟩] scope pos) (tComp wi g tt te xs.length ix):=by
  intro pins s σ H Q I h
  have hcf:∀ y∈scope.names,y.2=.free→∃ c,X.env.cells.lookup y.1=some c:=fun y hy hf=>by
    have:=List.all_eq_true.mp hfree y hy
    rw [hf] at this
    exact I.ok.has y.1 (isCF_iff (show isCF (X.env.scope.names.lookup y.1)=true by simpa using this))
  obtain ⟨cl,hcl,h2,h3⟩:=closure_ok hcf
  rw [eval_ListComp]
  refine wpAny_comprehension_free (use:=none) rfl hs hcl hkind (fun x hx hl=>?_) (thn (hi pins s σ H _ I h) fun v s1 h1=>thn h1 fun itv s2 ⟨it,fp,tn,J,H2,e,I2,T,st,hf,q⟩=>?_)
  · have:=List.all_eq_true.mp hnames x hx
    rw [hl] at this
    simpa using this
  subst e
  refine comp_block (RR:=fun acc C=>compPost (model X.prog X.w) X.A X.xe none (EP X pins σ Q) acc C) xs capN ix hc hg ht he hix hcap hfree hkind h2 h3 I2 T st hf q ?_
  intro D C s' H' m I' fC hn q'
  refine ⟨m,hn,fun h' hs'=>⟨.ref D,H',?_,rfl,q'⟩⟩
  obtain ⟨f0,f1,f2,f3,f4,f5⟩:=fC
  exact I'.turned (t':=s'.toks) (fun b o hb e=>(hs'.2 b hb).trans e) f0 f1 f3 f4 f5
end
end L2
namespace L2
open PySem PySem.Spec PyProof.Rows
section
variable {X:Cx} {elt target iter:Expr} {ifs:List Expr} {scope:Scope} {pos spos px:Pos} {g:TG} {tt:TT} {te:TE}
theorem ps_setComp {wi:TI} {i:Nat} {x:Str} (xs capN:List Str) (ix:List Nat) (hc:X.calm=true) (hN:X.N.Nodup) (hxi:X.N[i]?=some x) (hx:Loc X.env.scope x) (hi:PI X target iter wi)
    (hg:∀ C cells fp s H,PG (compCx X scope C cells (xs++capN) fp s H) target g) (ht:∀ C cells fp s H,PTs (compCx X scope C cells (xs++capN) fp s H) ifs tt) (he:∀ C cells fp s H,PE (compCx X scope C cells (xs++capN) fp s H) elt te)
    (hix:ix.map (fun i=>X.N[i]?)=capN.map some:=by rfl) (hcap:capN.all (capOk X.env scope)=true:=by rfl) (hfree:scope.names.all (fun z=>!(z.2 == .free) || isCF (X.env.scope.names.lookup z.1))=true:=by rfl) (hkind:scope.kind=.function:=by rfl)
    (hnames:scope.names.all (fun z=>!(z.2 == .local) || scope.names.lookup z.1 == some .local)=true:=by decide +kernel) (hs:∀ x,foldedSetIterable iter X.env x=pure x:=by intro _; rfl)
    (hsw:swapsWith (.ListComp elt [⟨target,iter,ifs,0⟩] scope pos) (some (.Name x px)) spos.line X.env=pure true:=by rfl)
    (hf:X.fn x=true∨X.env.scope.names.lookup x=some .local:=by first | exact .inl rfl | exact .inr rfl | assumption) :
    PS X (.Assign [.Name x px] (.ListComp elt [⟨target,iter,ifs,0⟩] scope pos) spos) (tAsg (tComp wi g tt te xs.length ix) (gName i)):=by
  intro pins s σ H D I h
  have hcf:∀ y∈scope.names,y.2=.free→∃ c,X.env.cells.lookup y.1=some c:=fun y hy hf=>by
    have:=List.all_eq_true.mp hfree y hy
    rw [hf] at this
    exact I.ok.has y.1 (isCF_iff (show isCF (X.env.scope.names.lookup y.1)=true by simpa using this))
  obtain ⟨cl,hcl,h2,h3⟩:=closure_ok hcf
  rw [exec_Assign_Name_used _ _ _ _ hsw]
  refine wpAny_bind (wpAny_standAt (wpAny_bind ?_))
  show wpAny _ X.A (do let _ ← comprehension (.ListComp elt [⟨target,iter,ifs,0⟩] scope pos) scope X.env _ (newList []) false (eval iter X.env) (some (assign (.Name x px) X.env))) _ _ s
  refine wpAny_bind (wpAny_mono (wpAny_comprehension_free (use:=some (assign (.Name x px) X.env)) (Q:=fun _ s'=>SP X pins D .next s') rfl hs hcl hkind (fun x hx hl=>?_)
    (thn (hi pins s σ H _ I h) fun v s1 h1=>thn h1 fun itv s2 ⟨it,fp,tn,J,H2,e,I2,T,st,hf',q⟩=>?_)) (fun _ s' hq=>wpAny_pure (wpAny_pure hq)) fun _ _ e=>e)
  · have:=List.all_eq_true.mp hnames x hx
    rw [hl] at this
    simpa using this
  subst e
  refine comp_block (Q:=fun v H1=>gName i v σ H1 D.nx) (RR:=fun acc C=>compPost (model X.prog X.w) X.A X.xe (some (assign (.Name x px) X.env)) (fun _ s'=>SP X pins D .next s') acc C) xs capN ix hc hg ht he hix hcap hfree hkind h2 h3 I2 T st hf' q ?_
  intro E C s' H' m I' fC hn q'
  obtain ⟨f0,f1,f2,f3,f4,f5⟩:=fC
  obtain ⟨oC,es,ep,hoC,hdC,r⟩:=hn
  have I'':Inv X (pins++[(C,oC)]) σ H' s':=I'.pins_of fun p hp=>by
    rcases List.mem_append.mp hp with z | z
    · exact I'.pin p (List.mem_append_right _ z)
    · have e:p=(C,oC):=by simpa using z
      subst e
      exact ⟨hoC,f0,f1,f2,fun v z=>by rw [hdC] at z; cases z⟩
  show wpAny _ X.A (assign (.Name x px) X.env (.ref E)) _ _ s'
  refine thn (pg_name hN hxi hx hf _ s' σ H' (.ref E) (.ref E) _ I'' rfl q') fun _ s4 ⟨σ2,H4,I4,q4⟩=>?_
  have hp4:=I4.pin (C,oC) (List.mem_append_right _ (List.mem_append_right _ (by simp)))
  refine ⟨m,⟨oC,es,ep,hp4.1,hdC,r⟩,fun h' hs'=>⟨σ2,H4,?_,q4⟩⟩
  have I5:Inv X pins σ2 H4 s4:=I4.unpinned
  exact I5.turned (t':=s4.toks) (fun b o hb e=>(hs'.2 b hb).trans e) hp4.2.1 f1 f3 f4 f5
end
theorem comp_list {K:PySem.W.Frag} {a:Addr} {xs:List V} {g:TG} {tt:TT} {te:TE} {nv:Nat} {ix:List Nat} {σ:St} {D:Addr} {H:Hp} {Q:VK} (Pv:Nat→List V→Hp→Prop) (h0:Pv 0 [] (upd H D (.lst []))) (hl:∀ i ys H,i≤xs.length→Pv i ys H→SqL K H a xs)
    (hs:∀ i x ys H,xs[i]?=some x→Pv i ys H→H D=some (.lst ys)→g x (capσ nv ix σ) H fun σ2 H3=>σ2.drop nv=(capσ nv ix σ).drop nv∧tt σ2 H3 fun b H4 =>
      if b=true then te σ2 H4 fun v H5=>∃ zs,H5 D=some (.lst zs)∧zs.length<sizeLine∧(∃ ys',Pv (i+1) ys' (upd H5 D (.lst (zs++[v])))∧(upd H5 D (.lst (zs++[v]))) D=some (.lst ys')) else ∃ ys',Pv (i+1) ys' H4∧H4 D=some (.lst ys'))
    (hd:∀ ys H,Pv xs.length ys H→H D=some (.lst ys)→Q (.ref D) H) :
    CompAt (Itl K a) g tt te nv ix σ Q H D:=by
  refine ⟨fun i m H2=>m=xs.length - i∧i≤xs.length∧∃ ys,Pv i ys H2∧H2 D=some (.lst ys),⟨xs.length,by simp,Nat.zero_le _,[],h0,upd_same⟩,?_⟩
  rintro i m H2 ⟨rfl,hi,ys,p,hD⟩
  have q:=hl i ys H2 hi p
  by_cases hlt:i<xs.length
  · refine .inr ⟨⟨xs,xs[i],q,by simp [hlt]⟩,fun H'=>∃ ys,Pv (i+1) ys H'∧H' D=some (.lst ys),fun H' p'=>⟨xs.length - (i+1),by omega,rfl,hlt,p'⟩,fun x H' y=>?_⟩
    obtain ⟨e,y⟩:=y
    subst e
    exact hs i x ys _ (y xs q) p hD
  · have e:i=xs.length:=by omega
    subst e
    exact .inl ⟨⟨xs,q,Nat.le_refl _⟩,hd ys H2 p hD⟩
theorem comp_range {lo:Int} {n:Nat} {g:TG} {tt:TT} {te:TE} {nv:Nat} {ix:List Nat} {σ:St} {D:Addr} {H:Hp} {Q:VK} (Pv:Nat→List V→Hp→Prop) (h0:Pv 0 [] (upd H D (.lst [])))
    (hs:∀ i ys H,i<n→Pv i ys H→H D=some (.lst ys)→g (.int (lo+i)) (capσ nv ix σ) H fun σ2 H3=>σ2.drop nv=(capσ nv ix σ).drop nv∧tt σ2 H3 fun b H4 =>
      if b=true then te σ2 H4 fun v H5=>∃ zs,H5 D=some (.lst zs)∧zs.length<sizeLine∧(∃ ys',Pv (i+1) ys' (upd H5 D (.lst (zs++[v])))∧(upd H5 D (.lst (zs++[v]))) D=some (.lst ys')) else ∃ ys',Pv (i+1) ys' H4∧H4 D=some (.lst ys'))
    (hd:∀ ys H,Pv n ys H→H D=some (.lst ys)→Q (.ref D) H) :
    CompAt (Itr lo n) g tt te nv ix σ Q H D:=by
  refine ⟨fun i m H2=>m=n - i∧i≤n∧∃ ys,Pv i ys H2∧H2 D=some (.lst ys),⟨n,by simp,Nat.zero_le _,[],h0,upd_same⟩,?_⟩
  rintro i m H2 ⟨rfl,hi,ys,p,hD⟩
  by_cases hlt:i<n
  · refine .inr ⟨hlt,fun H'=>∃ ys,Pv (i+1) ys H'∧H' D=some (.lst ys),fun H' p'=>⟨n - (i+1),by omega,rfl,hlt,p'⟩,fun x H' y=>?_⟩
    obtain ⟨e,y⟩:=y
    subst e y
    exact hs i ys _ hlt p hD
  · have e:i=n:=by omega
    subst e
    exact .inl ⟨Nat.le_refl _,hd ys H2 p hD⟩
end L2
namespace L2
open PySem PySem.Spec PyProof.Rows
def eqL:List V→List V→Bool
  | [],[]=>true
  | x::xs,y::ys=>eqV x y && eqL xs ys
  | _,_=>false
def eqJ (xs ys:List V) (j:Nat):Bool:=match xs[j]?,ys[j]? with
  | some a,some b=>eqV a b
  | _,_=>false
theorem all_eqJ:∀ (xs ys:List V),xs.length=ys.length→(List.range xs.length).all (eqJ xs ys)=eqL xs ys
  | [],[],_=>rfl
  | x::xs,y::ys,h=>by
    have ih:=all_eqJ xs ys (Nat.succ.inj h)
    rw [List.length_cons,List.range_succ_eq_map,List.all_cons,List.all_map]
    show (eqV x y && (List.range xs.length).all (eqJ xs ys))=(eqV x y && eqL xs ys)
    rw [ih]
theorem eqL_len:∀ {xs ys:List V},¬ xs.length=ys.length→eqL xs ys=false
  | [],[],h=>absurd rfl h
  | [],_::_,_=>rfl
  | _::_,[],_=>rfl
  | x::xs,y::ys,h=>by
    unfold eqL
    rw [eqL_len (fun e=>h (congrArg (·+1) e)),Bool.and_false]
section
variable {X:Cx}
def rEqL (K:PySem.W.Frag) (neg:Bool):R2:=fun x y H Q=>∃ a b xs ys,x=.ref a∧y=.ref b∧SqL K H a xs∧SqL K H b ys∧xs.all flatV=true∧ys.all flatV=true∧Q (.bl (if neg then !eqL xs ys else eqL xs ys)) H
theorem eqL_at {A:Around} {s:Shared} {xs ys:List V} {us ws:List Value} (r:Vals xs us) (r':Vals ys ws) (f:xs.all flatV=true) (f':ys.all flatV=true) :
    ∀ j (h1:j<us.toArray.size) (h2:j<ws.toArray.size),SeqAt.EqAt A s us.toArray[j] ws.toArray[j] (eqJ xs ys j):=fun j h1 h2=>by
  have l1:=r.length
  have l2:=r'.length
  simp only [List.size_toArray] at h1 h2
  have e1:xs[j]?=some xs[j]:=List.getElem?_eq_getElem (by omega)
  have e2:ys[j]?=some ys[j]:=List.getElem?_eq_getElem (by omega)
  obtain ⟨u,hu,ru⟩:=r.get e1
  obtain ⟨v,hv,rv⟩:=r'.get e2
  have fu:=List.all_eq_true.mp f _ (List.mem_of_getElem? e1)
  have fv:=List.all_eq_true.mp f' _ (List.mem_of_getElem? e2)
  have eu:us.toArray[j]=u:=by
    have:us[j]?=some us[j]:=List.getElem?_eq_getElem h1
    rw [this] at hu
    exact Option.some.inj hu
  have ev:ws.toArray[j]=v:=by
    have:ws[j]?=some ws[j]:=List.getElem?_eq_getElem h2
    rw [this] at hv
    exact Option.some.inj hv
  rw [eu,ev]
  unfold eqJ
  rw [e1,e2]
  exact eqAt_V ru rv fu fv
theorem op_eqL (hu:X.A.units<cLine):OpR X (compareOp .Eq) (rEqL X.K false):=by
  intro pins s σ H x y v u Q I rx ry h
  obtain ⟨a,b,xs,ys,rfl,rfl,ha,hb,fa,fb,q⟩:=h
  cases rx
  cases ry
  obtain ⟨us,r1,p1,_⟩:=I.list ha
  obtain ⟨ws,r2,p2,_⟩:=I.list hb
  have l1:=r1.length
  have l2:=r2.length
  by_cases hl:xs.length=ys.length
  · refine SeqAt.eq_listAt p1.isList p2.isList (by simp only [List.size_toArray]; omega) hu (eqL_at r1 r2 fa fb) ⟨.bl (eqL xs ys),H,I,?_,q⟩
    show Value.bool _=Value.bool _
    rw [List.size_toArray,← l1,all_eqJ _ _ hl]
  · refine SeqAt.eq_list_lengthsAt p1.isList p2.isList (by simp only [List.size_toArray,bne_iff_ne]; omega) hu ⟨.bl (eqL xs ys),H,I,?_,q⟩
    show Value.bool _=Value.bool _
    rw [eqL_len hl]
theorem op_neL (hu:X.A.units<cLine):OpR X (compareOp .NotEq) (rEqL X.K true):=by
  intro pins s σ H x y v u Q I rx ry h
  obtain ⟨a,b,xs,ys,rfl,rfl,ha,hb,fa,fb,q⟩:=h
  cases rx
  cases ry
  obtain ⟨us,r1,p1,_⟩:=I.list ha
  obtain ⟨ws,r2,p2,_⟩:=I.list hb
  have l1:=r1.length
  have l2:=r2.length
  by_cases hl:xs.length=ys.length
  · refine SeqAt.RcNeAt.lists p1.isList p2.isList (by simp only [List.size_toArray]; omega) hu (eqL_at r1 r2 fa fb) _ _ _ _ ⟨.bl (!eqL xs ys),H,I,?_,q⟩
    show Value.bool _=Value.bool _
    rw [List.size_toArray,← l1,all_eqJ _ _ hl]
  · refine SeqAt.RcNeAt.lists_lengths p1.isList p2.isList (by simp only [List.size_toArray,bne_iff_ne]; omega) hu _ _ _ _ ⟨.bl (!eqL xs ys),H,I,?_,q⟩
    show Value.bool _=Value.bool _
    rw [eqL_len hl]
    rfl
theorem call_sorted:CallR X (.builtin "sorted") (fun xs H Q=>∃ (p:Addr) (ns:List Int),xs=[.ref p]∧SqL X.K H p (ns.map V.int)∧ns.length<64∧∀ (l:Addr) (ns':List Int),H l=none→ns'.Perm ns→ns'.Pairwise (·≤·)→Q (.ref l) (upd H l (.lst (ns'.map V.int)))):=by
  intro pins s σ H xs us Q I r h
  obtain ⟨p,ns,rfl,hp,hl,q⟩:=h
  obtain ⟨u,rfl,ru⟩:=vals1 r
  cases ru
  obtain ⟨its,rv,pl,hz⟩:=I.list hp
  have hlen:=rv.length
  rw [List.length_map] at hlen
  refine sorted_ints pl.isList (intsAre_of rv) (by omega) fun out ns' a1 a2 a3=>?_
  obtain ⟨e,he⟩:=sortedAll_at s.heap its out
  have hn:H (s.heap.objs.size+1)=none:=I.hok.fresh (Nat.le_succ _)
  refine ⟨.ref (s.heap.objs.size+1),_,I.laid (t':=s.toks) (o:=.lst (ns'.map V.int)) (fun _ _=>sortedAll_old) (Nat.le_succ _) ?_,rfl,q _ ns' hn a2 a3⟩
  refine ⟨?_,out.toList,e,vals_ints a1,?_⟩
  · rw [List.length_map,a2.length_eq]
    exact small (by omega)
  · simpa using he
theorem vals_bools:∀ {bs:List Bool} {us:List Value},Vals (bs.map V.bl) us→∀ (i:Nat) v,us[i]?=some v→∃ b,bs[i]?=some b∧v=.bool b
  | [],_,r,i,v,e=>by cases r; simp at e
  | b::bs,_,.cons r t,0,v,e=>by
    simp at e
    subst e
    exact ⟨b,rfl,r⟩
  | b::bs,_,.cons r t,i+1,v,e=>by
    obtain ⟨c,h1,h2⟩:=vals_bools t i v (by simpa using e)
    exact ⟨c,by simpa using h1,h2⟩
theorem call_all (hc:X.calm=true):CallR X (.builtin "all") (fun xs H Q=>∃ (p:Addr) (bs:List Bool),xs=[.ref p]∧SqL X.K H p (bs.map V.bl)∧Q (.bl (bs.all id)) H):=by
  intro pins s σ H xs us Q I r h
  obtain ⟨p,bs,rfl,hp,q⟩:=h
  obtain ⟨u,rfl,ru⟩:=vals1 r
  cases ru
  obtain ⟨its,rv,pl,hz⟩:=I.list hp
  have hl:=pl.isList
  have hlt:p<s.heap.objs.size:=by obtain ⟨_,e,_⟩:=hl; exact Heap.lt_size e
  have hlen:=rv.length
  rw [List.length_map] at hlen
  refine call_all_walk (wpAny_pyIter_list hl ?_)
  refine ⟨s.heap.objs.size,[s.heap.objs.size,p],[s.heap.objs.size],its.toArray.size,_,_,fun i=>(bs[i]?).getD true,rfl,Walks.list (A:=X.A.in1) (I.ok.hd hc) _ p (Nat.ne_of_lt hlt) its.toArray,
    ⟨⟨_,Heap.get?_push_size _ rfl,rfl,rfl⟩,hl.push _⟩,fun i v s' Q' E' hP hQ=>?_,fun h' tk hk=>?_⟩
  · obtain ⟨b,e,rfl⟩:=vals_bools rv i v (by simpa using hP)
    simp only [e,Option.getD_some] at hQ
    exact wpAny_truthy_bool hQ
  · have e:((List.range its.toArray.size).all fun i=>(bs[i]?).getD true)=bs.all id:=by
      rw [List.size_toArray,← hlen,Bool.eq_iff_iff,List.all_eq_true,List.all_eq_true]
      constructor
      · intro z b hb
        obtain ⟨i,hi,rfl⟩:=List.getElem_of_mem hb
        have:=z i (List.mem_range.mpr hi)
        show bs[i]=true
        simpa only [List.getElem?_eq_getElem hi,Option.getD_some] using this
      · intro z i hi
        have hi':=List.mem_range.mp hi
        have z2:bs[i]=true:=z _ (List.getElem_mem hi')
        simpa only [List.getElem?_eq_getElem hi',Option.getD_some] using z2
    refine ⟨.bl (bs.all id),H,I.kept fun b o x=>hk b o (fun hm=>?_) (Heap.get?_push_of_some _ x),by rw [e]; rfl,q⟩
    rw [List.mem_singleton.mp hm] at x
    exact Nat.lt_irrefl _ (Heap.lt_size x)
def rRevL (K:PySem.W.Frag):V→Hp→VK→Prop:=fun x H Q=>∃ a xs,x=.ref a∧SqL K H a xs∧∀ p,H p=none→Q (.ref p) (upd H p (.lst xs.reverse))
def tRev (K:PySem.W.Frag) (te:TE):TE:=fun σ H Q=>te σ H fun x H1=>rRevL K x H1 Q
end
structure ClsFn (K:PySem.W.Frag) (C:Addr) (m:Str) (g:Addr):Prop where
  rd:PySem.W.readsIn K C (.type "type")=true
  at_:PySem.W.findCls K (.ref C) (.type "type") m=some (.val (.ref g))
  sp:PySem.W.specialIn K (.ref C) "__getattribute__"=some (some (.builtin "type.__getattribute__"))
  kp:PySem.W.keepIn K (.ref g)=true
section
variable {X:Cx} {CX:CXT} {k:Nat} {f C:Addr} {fd:FuncData} {ps:List Str} {sp:Sp} {dvs:List V} {ds:List Value} {E:XK} {x m:Str} {p pos apos:Pos} {e:Expr} {es:List Expr} {t:TA}
theorem pe_clsfn {pl:Sem Bool} (hg:Gl X x) (hm:X.mg x=some (.ref C)) (c:ClsFn X.K C m f) (F:FnOk X.prog X.w X.K X.mg X.base CX k f fd ps sp) (hr:Room k X.A) (hb:Binds X.K fd ps ds) (hd:Vals dvs ds) (hx:Passes CX X E) (ha:PA X (e::es) t)
    (hdb:(x == ("__debug__":Str))=false:=by decide) (hst:starEach (e::es) X.env=(false,eval e X.env)::starEach es X.env:=by rfl) (hpl:(backTo pos (starEach es X.env)).any (·.1)=false:=by rfl)
    (ht:eval (.Call (.Attribute (.Name x p) m apos) (e::es) [] pos) X.env=(do
      let ov ← eval (.Name x p) X.env
      standAt apos.atName
      let (f,first) ← holding [ov] (getMethod ov m pl)
      callWith pos f first (backTo pos (starEach (e::es) X.env)) (backToKw pos (keywordEach [] X.env))):=by rfl) :
    PE X (.Call (.Attribute (.Name x p) m apos) (e::es) [] pos) (tCall sp dvs E t):=by
  intro pins s σ H Q I h
  refine PySem.W.methodCall_KW (pl:=pl) (ld_glob I hg hm ?_ hdb) ht
  refine PySem.W.method_cls I.kIn c.sp (PySem.W.cls_value I.kIn c.rd c.at_ rfl ?_)
  have I1:Inv X pins σ H { s with toks:=s.toks+1 }:=I.tok _
  refine PySem.W.callWith_K (first:=[]) (h₀:=X.base) I.ok.mod.kin c.kp (thn (ha pos pins _ σ H _ I1 h) fun us s2 ⟨vs,H2,I2,r,q2⟩=>⟨I2.kIn,?_⟩) hst hpl
  exact run_fn (us:=us) (vs:=vs) F hr hb hd hx I2 r q2
end
end L2
namespace L2
open PySem PySem.Spec PyProof.Rows
def XAt (B h:Heap) (x:Addr) (C:Value) (d:Option Addr) (vs:Array Value):Prop:=B.get? x=none∧∃ sl,h.get? x=some ⟨C,d,.fields vs,sl⟩
def TAt (B h:Heap) (x:Addr) (vs:Array Value) (fl:Value):Prop:=∃ (T:Addr) (oT:Obj) (ts:Array Value),vs[1]?=some (.ref T)∧T≠x∧B.get? T=none∧h.get? T=some oT∧oT.data=.fields ts∧ts[3]?=some fl
structure Moved (l:List Env) (B h h':Heap):Prop where
  stay:B.StaysIn h'
  funs:h'.FunFrames B l
  slot:∀ b∈frs l,∀ o,h.get? b=some o→∃ sl,h'.get? b=some { o with slots:=sl }
theorem Moved.trans {l:List Env} {B h h1 h2:Heap} (a:Moved l B h h1) (b:Moved l B h1 h2):Moved l B h h2 :=
  ⟨b.stay,b.funs,fun c hc o e=>by
    obtain ⟨sl,e1⟩:=a.slot c hc o e
    obtain ⟨sl2,e2⟩:=b.slot c hc _ e1
    exact ⟨sl2,e2⟩⟩
section
variable {M:Model} {A:Around} {E:Value→Shared→Prop} {s:Shared} {B:Heap} {l:List Env} {x:Addr} {C:Value} {d:Option Addr} {vs:Array Value}
theorem rec_noFrame {h:Heap} (hl:h.FunFrames B l) {b:Addr} {o:Obj} {ws:Array Value} (e:h.get? b=some o) (hd:o.data=.fields ws):b∉frs l:=fun hb=>by
  obtain ⟨_,o',e',n⟩:=hl.mem hb
  rw [e] at e'
  cases e'
  exact n ws hd
theorem moved_update {h:Heap} (hs:B.StaysIn h) (hl:h.FunFrames B l) {b:Addr} {o:Obj} {ws:Array Value} (e:h.get? b=some o) (hd:o.data=.fields ws) (hb:B.get? b=none) (f:Obj→Obj):Moved l B h (h.update b f):=by
  have nf:=rec_noFrame hl e hd
  refine ⟨fun c u q=>?_,hl.of_keeps fun c u q n=>⟨u,?_,rfl⟩,fun c hc u q=>⟨u.slots,?_⟩⟩
  · have hne:b≠c:=fun z=>by rw [z,q] at hb; cases hb
    rw [Heap.get?_update_other _ _ hne]
    exact hs c u q
  · have hne:b≠c:=fun z=>by
      subst z
      rw [e] at q
      cases q
      exact n ws hd
    rw [Heap.get?_update_other _ _ hne]
    exact q
  · have hne:b≠c:=fun z=>nf (by rw [z]; exact hc)
    rw [Heap.get?_update_other _ _ hne]
    exact q
theorem flight_none {fl:Value} {Q:Unit→Shared→Prop} (hs:B.StaysIn s.heap) (hl:s.heap.FunFrames B l) (hx:XAt B s.heap x C d vs) (ht:TAt B s.heap x vs fl)
    (h:∀ h',XAt B h' x C d vs→TAt B h' x vs .none→Moved l B s.heap h'→Q () { s with heap:=h' }):wpAny M A (setFlight (.ref x) none) Q E s:=by
  obtain ⟨bx,sl,ex⟩:=hx
  obtain ⟨T,oT,ts,v1,hne,bT,eT,dT,t3⟩:=ht
  have h3:3<ts.size:=(Array.getElem?_eq_some_iff.mp t3).1
  unfold setFlight
  refine wpAny_bind (wpAny_field ex rfl v1 ?_)
  rw [if_pos (show (Value.ref T != Value.none)=true by simp)]
  refine wpAny_setField eT dT h3 (h _ ⟨bx,sl,?_⟩ ?_ (moved_update hs hl eT dT bT _))
  · rw [Heap.get?_update_other _ _ hne]
    exact ex
  · have dN:=Obj.data_mapFields dT (·.setIfInBounds 3 Value.none)
    exact ⟨T,_,_,v1,hne,bT,Heap.get?_update_self _ eT (Obj.isFreed_of_fields dN),dN,by simp [h3]⟩
theorem entry_new {env:Env} {outer:List Env} {L:Addr} {head:Value} {hadNext:Bool} {Q:Unit→Shared→Prop} (hfr:A.frames=some (env::outer)) (hf:env.frame=some L) (hs:B.StaysIn s.heap) (hl:s.heap.FunFrames B (env::outer))
    (hx:XAt B s.heap x C d vs) (h1:1<vs.size)
    (h:∀ h' ws,ws[0]?=vs[0]?→XAt B h' x C d ws→TAt B h' x ws (rawInt L)→Moved (env::outer) B s.heap h'→Q () { s with heap:=h' }) :
    wpAny M A (do let a ← frameOf env; let pl ← entryPlaceOf L hadNext; let b ← EntryCells.newEntry head a .none (rawInt L) .none pl; setField (.ref x) 1 b) Q E s:=by
  obtain ⟨bx,sl,ex⟩:=hx
  have nx:=rec_noFrame hl ex rfl
  refine wpAny_bind (wpAny_frameOf_fun hfr hl hf fun g1 k1=>?_)
  have ex1:g1.get? x=some ⟨C,d,.fields vs,sl⟩:=(k1.2.1 x nx).trans ex
  have hs1:B.StaysIn g1:=fun b o q=>(k1.2.1 b fun hb=>by have z:=(hl.mem hb).1; rw [q] at z; cases z).trans (hs b o q)
  have m1:Moved (env::outer) B s.heap g1:=⟨hs1,hl.of_keeps fun b o q _=>let ⟨sl',z⟩:=k1.2.2 b o q; ⟨_,z,rfl⟩,fun b _ o q=>k1.2.2 b o q⟩
  refine wpAny_bind (wpAny_entryPlaceOf fun pl hpl=>?_)
  unfold EntryCells.newEntry newFields
  refine wpAny_bind (wpAny_newObj_type ?_ (hpl.sizeOk5 _ _ _ _ _))
  generalize hts:([head,Value.ref L,Value.none,rawInt L,Value.none]++(if pl.isEmpty then List.replicate 6 Value.none else pl)).toArray=ts
  have t3:ts[3]?=some (rawInt L):=by
    rw [← hts]
    simp
  have hTx:g1.objs.size≠x:=Nat.ne_of_gt (Heap.lt_size ex1)
  have m2:Moved (env::outer) B g1 (g1.push ⟨.type "traceback",none,.fields ts,#[]⟩) :=
    ⟨fun b o q=>Heap.get?_push_of_some _ (hs1 b o q),m1.funs.of_keeps fun b o q _=>⟨o,Heap.get?_push_of_some _ q,rfl⟩,fun b _ o q=>⟨o.slots,Heap.get?_push_of_some _ q⟩⟩
  have ex2:=Heap.get?_push_of_some (h:=g1) ⟨.type "traceback",none,.fields ts,#[]⟩ ex1
  refine wpAny_setField ex2 rfl h1 (h _ (vs.setIfInBounds 1 (.ref g1.objs.size)) ?_ ⟨bx,sl,?_⟩ ?_ ((m1.trans m2).trans (moved_update m2.stay m2.funs ex2 rfl bx _)))
  · rw [Array.getElem?_setIfInBounds_ne (by decide)]
  · exact Heap.get?_update_self (Obj.mapFields (·.setIfInBounds 1 (Value.ref g1.objs.size))) ex2 rfl
  · refine ⟨g1.objs.size,⟨.type "traceback",none,.fields ts,#[]⟩,ts,by simp [h1],hTx,hs1.fresh,?_,rfl,t3⟩
    rw [Heap.get?_update_other _ _ (Ne.symm hTx)]
    exact Heap.get?_push_size _ rfl
theorem note_frame {env:Env} {outer:List Env} {L:Addr} {Q:Unit→Shared→Prop} (hfr:A.frames=some (env::outer)) (hf:env.frame=some L) (hs:B.StaysIn s.heap) (hl:s.heap.FunFrames B (env::outer))
    (hx:XAt B s.heap x C d vs) (ht:vs[1]?=some .none∨TAt B s.heap x vs .none)
    (h:∀ h' ws,ws[0]?=vs[0]?→XAt B h' x C d ws→TAt B h' x ws (rawInt L)→Moved (env::outer) B s.heap h'→Q () { s with heap:=h' }) :
    wpAny M A (noteFrame (.ref x) env) Q E s:=by
  obtain ⟨bx,sl,ex⟩:=id hx
  unfold noteFrame
  simp only [hf]
  rcases ht with v1 | ⟨T,oT,ts,v1,hne,bT,eT,dT,t3⟩
  · refine wpAny_bind (wpAny_field ex rfl v1 ?_)
    rw [if_neg (by decide)]
    exact entry_new hfr hf hs hl hx (Array.getElem?_eq_some_iff.mp v1).1 h
  · refine wpAny_bind (wpAny_field ex rfl v1 ?_)
    rw [if_pos (show (Value.ref T != Value.none)=true by simp)]
    refine wpAny_bind (wpAny_field eT dT t3 ?_)
    rw [if_neg (show ¬ ((Value.none == rawInt L)=true) by simp [rawInt])]
    refine wpAny_bind (wpAny_setField eT dT (Array.getElem?_eq_some_iff.mp t3).1 ?_)
    have mv:=moved_update hs hl eT dT bT (Obj.mapFields (·.setIfInBounds 3 Value.none))
    refine entry_new (s:={ s with heap:=s.heap.update T (Obj.mapFields (·.setIfInBounds 3 Value.none)) }) hfr hf mv.stay mv.funs ⟨bx,sl,?_⟩ (Array.getElem?_eq_some_iff.mp v1).1 fun h' ws a b c e=>h h' ws a b c (mv.trans e)
    show (s.heap.update T _).get? x=_
    rw [Heap.get?_update_other _ _ hne]
    exact ex
theorem leave_frame {env:Env} {outer:List Env} {L:Addr} {Q:Unit→Shared→Prop} (hfr:A.frames=some (env::outer)) (hf:env.frame=some L) (hs:B.StaysIn s.heap) (hl:s.heap.FunFrames B (env::outer))
    (hx:XAt B s.heap x C d vs) (ht:vs[1]?=some .none∨TAt B s.heap x vs .none)
    (h:∀ h' ws,ws[0]?=vs[0]?→XAt B h' x C d ws→TAt B h' x ws .none→Moved (env::outer) B s.heap h'→Q () { s with heap:=h' }) :
    wpAny M A (leaving env (.ref x)) Q E s:=by
  unfold leaving
  refine wpAny_bind (note_frame hfr hf hs hl hx ht fun g1 ws a b c e=>?_)
  exact flight_none (s:={ s with heap:=g1 }) e.stay e.funs b c fun g2 b2 c2 e2=>h g2 ws a b2 c2 (e.trans e2)
end
end L2
namespace L2
open PySem PySem.Spec PyProof.Rows
theorem HOk.tracked {P:Program} {w:World} {H:Hp} {h h':Heap} (ok:HOk P w H h) (k:∀ b u o,H b=some u→h.get? b=some o→h'.get? b=some o):HOk P w H h':=fun b u e=>by
  refine (ok b u e).stay (fun c v hc q=>?_) (fun _ q=>q) fun _ _ q=>q
  rcases hc with z | z
  · subst z
    exact k _ u v e q
  · exact k c _ v z q
theorem ObjOk.there {P:Program} {w:World} {H:Hp} {h:Heap} {a:Addr} {o:HO} (x:ObjOk P w H h a o):∃ u,h.get? a=some u:=by
  cases o with
  | lst xs=>obtain ⟨_,_,_,_,e⟩:=x; exact ⟨_,e⟩
  | tup xs=>obtain ⟨_,_,_,p⟩:=x; obtain ⟨u,e,_⟩:=p; exact ⟨u,e⟩
  | dK kvs=>obtain ⟨_,_,_,_,u,_,_,e,_⟩:=x; exact ⟨u,e⟩
  | dT kvs=>obtain ⟨_,_,_,_,u,_,_,e,_⟩:=x; exact ⟨u,e⟩
  | set S n=>obtain ⟨u,_,_,_,e,_⟩:=x; exact ⟨u,e⟩
  | ins C dx fs=>exact ⟨_,x.2.2.2.1⟩
  | own y=>exact x
  | xd fs=>obtain ⟨_,⟨u,_,_,e,_⟩,_⟩:=x; exact ⟨u,e⟩
  | met f y=>exact ⟨_,x⟩
  | rng lo hi=>obtain ⟨_,_,_,e⟩:=x; exact ⟨_,e⟩
  | frz u v=>exact ⟨u,x.1⟩
  | tbl ps=>exact ⟨_,x⟩
  | ext φ=>exact x.2.1
theorem frames_base {h B B':Heap}:∀ {l:List Env},(∀ b∈frs l,B'.get? b=none)→h.FunFrames B l→h.FunFrames B' l
  | [],_,_=>trivial
  | env::r,hn,⟨hk,⟨L,o,hf,_,ho,hd⟩,hr⟩=>by
    have e:frs (env::r)=L::frs r:=by
      unfold frs
      rw [List.filterMap_cons,hf]
    exact ⟨hk,⟨L,o,hf,hn L (by rw [e]; exact List.mem_cons_self),ho,hd⟩,frames_base (fun b hb=>hn b (by rw [e]; exact List.mem_cons_of_mem _ hb)) hr⟩
structure Fly (P:Program) (w:World) (outer:List Env) (H H':Hp) (g B:Heap) (x C:Addr) (d:Option Addr) (h':Heap):Prop where
  un:Un (frs outer) [] H H' g h'
  hok:HOk P w H' h'
  stay:B.StaysIn h'
  funs:h'.FunFrames B outer
  cov:∀ b o,g.get? b=some o→b∉frs outer→∃ o',B.get? b=some o'
  covT:∀ b o,H' b=some o→∃ o',B.get? b=some o'
  exc:∃ vs,XAt B h' x (.ref C) d vs∧TAt B h' x vs .none
def CXE (P:Program) (w:World):CXT:=fun outer H s E e s'=>∃ (x C:Addr) (d:Option Addr) (H':Hp) (B:Heap),e=.ref x∧s'.os=s.os∧AllBare s'.gens∧Fly P w outer H H' s.heap B x C d s'.heap∧E (.ref C) d H'
section
variable {P:Program} {w:World} {outer:List Env} {H H':Hp} {g B h h':Heap} {x C:Addr} {d:Option Addr}
theorem un_moved (un:Un (frs outer) [] H H' g h) (hs:B.StaysIn h) (hl:h.FunFrames B outer) (cov:∀ b o,g.get? b=some o→b∉frs outer→∃ o',B.get? b=some o') (m:Moved outer B h h'):Un (frs outer) [] H H' g h' where
  keep:=fun b o e n hb hx=>by
    have e1:=un.keep b o e n hb hx
    obtain ⟨o',e2⟩:=cov b o e hb
    have e3:=hs b o' e2
    rw [e1] at e3
    cases e3
    exact m.stay b _ e2
  slot:=fun b o e n hb hx=>by
    obtain ⟨sl,e1⟩:=un.slot b o e n hb hx
    obtain ⟨sl2,e2⟩:=m.slot b hb _ e1
    exact ⟨sl2,e2⟩
  free:=un.free
  there:=fun b o e hx=>by
    by_cases hb:b∈frs outer
    · obtain ⟨o1,e1⟩:=un.there b o e hx
      obtain ⟨sl,e2⟩:=m.slot b hb o1 e1
      exact ⟨_,e2⟩
    · obtain ⟨o',e2⟩:=cov b o e hb
      exact ⟨o',m.stay b o' e2⟩
  tups:=un.tups
  frzs:=un.frzs
  tbls:=un.tbls
theorem hok_moved (ok:HOk P w H' h) (hs:B.StaysIn h) (covT:∀ b o,H' b=some o→∃ o',B.get? b=some o') (m:B.StaysIn h'):HOk P w H' h' :=
  ok.tracked fun b u o e q=>by
    obtain ⟨o',e2⟩:=covT b u e
    have e3:=hs b o' e2
    rw [q] at e3
    cases e3
    exact m b _ e2
end
def Starts (X:Cx) (E:XK):Prop:=∀ (pins:List (Addr×Obj)) (σ:St) (H:Hp) (s:Shared) (h':Heap) (x C:Addr) (sl:Array (Option Value)) (vs:Array Value),Inv X pins σ H s→(∀ b o,s.heap.get? b=some o→h'.get? b=some o)→
  s.heap.get? x=none→h'.get? x=some ⟨.ref C,none,.fields vs,sl⟩→vs[1]?=some .none→E (.ref C) none H→X.xe (.ref x) { s with heap:=h' }
section
variable {P:Program} {w:World} {K:PySem.W.Frag} {mg:Str→Option Value} {base:Heap} {N:List Str} {qual:Str} {scope:Scope} {f:Addr} {cd:Value} {A:Around} {outer:List Env} {s₀:Shared} {H₀:Hp} {E:XK}
theorem stack_frs {X:Cx} {env:Env} {outer:List Env} {L:Addr} (e:X.stack=env::outer) (hf:env.frame=some L):frs X.stack=L::frs outer:=by
  rw [e]
  unfold frs
  rw [List.filterMap_cons,hf]
theorem leave_un {H1 H2:Hp} {g0 g1 h' B:Heap} {L:Addr} (hL:g0.objs.size≤L) (a:Un (frs outer) [] H₀ H1 g0 g1) (b:Un (L::frs outer) [] H1 H2 g1 h'):Un (frs outer) [] H₀ H2 g0 h':=by
  have nL:∀ c o,g0.get? c=some o→c≠L:=fun c o e=>Nat.ne_of_lt (Nat.lt_of_lt_of_le (Heap.lt_size e) hL)
  have n0:∀ c:Addr,c∉([]:List Addr):=fun c=>by simp
  refine ⟨fun c o e n hc hx=>?_,fun c o e n hc hx=>?_,fun c o e n hx=>?_,fun c o e hx=>?_,fun c xs e=>b.tups c xs (a.tups c xs e),fun c o u e=>b.frzs c o u (a.frzs c o u e),fun c ps e=>?_⟩
  · exact b.keep c o (a.keep c o e n hc hx) (a.free c o e n hx) (fun z=>(List.mem_cons.mp z).elim (nL c o e) hc) (n0 c)
  · obtain ⟨sl,e1⟩:=a.slot c o e n hc hx
    obtain ⟨sl2,e2⟩:=b.slot c _ e1 (a.free c o e n hx) (List.mem_cons_of_mem _ hc) (n0 c)
    exact ⟨sl2,e2⟩
  · obtain ⟨o1,e1⟩:=a.there c o e hx
    exact b.free c o1 e1 (a.free c o e n hx) (n0 c)
  · obtain ⟨o1,e1⟩:=a.there c o e hx
    exact b.there c o1 e1 (n0 c)
  · obtain ⟨m1,e1⟩:=a.tbls c ps e
    obtain ⟨m2,e2⟩:=b.tbls c _ e1
    exact ⟨m1++m2,by rw [e2,Array.append_assoc]⟩
theorem passes_cx:Passes (CXE P w) (cxOf (CXE P w) P w K mg base N qual scope f cd A outer s₀ H₀ E) E:=by
  intro pins σ H s e s' I hx
  obtain ⟨x,C,d,H',B,rfl,os,bare,F,q⟩:=hx
  obtain ⟨vs,xa,ta⟩:=F.exc
  show wpAny _ _ (leaving _ _) _ _ s'
  have hfr:=I.ok.frames
  have hsf:frs (cxOf (CXE P w) P w K mg base N qual scope f cd A outer s₀ H₀ E).stack=s₀.heap.objs.size::frs outer:=stack_frs rfl rfl
  refine leave_frame (L:=s₀.heap.objs.size) hfr rfl F.stay F.funs xa (.inr ta) fun h' ws _ xa' ta' m=>?_
  refine ⟨x,C,d,H',B,rfl,os.trans I.os,bare,⟨?_,hok_moved F.hok F.stay F.covT m.stay,m.stay,m.funs.2.2,fun b o e hb=>?_,F.covT,ws,xa',ta'⟩,q⟩
  · have u2:=un_moved F.un F.stay F.funs F.cov m
    exact leave_un (L:=s₀.heap.objs.size) (B:=B) (Nat.le_refl _) I.base (hsf▸u2)
  · obtain ⟨o1,e1⟩:=I.base.there b o e (fun z=>by simp [cxOf] at z)
    refine F.cov b o1 e1 fun z=>?_
    rw [hsf] at z
    exact (List.mem_cons.mp z).elim (Nat.ne_of_lt (Heap.lt_size e)) hb
theorem starts_cx:Starts (cxOf (CXE P w) P w K mg base N qual scope f cd A outer s₀ H₀ E) E:=by
  intro pins σ H s h' x C sl vs I kp nx hx v1 q
  show wpAny _ _ (leaving _ _) _ _ _
  have hfr:=I.ok.frames
  have hsf:frs (cxOf (CXE P w) P w K mg base N qual scope f cd A outer s₀ H₀ E).stack=s₀.heap.objs.size::frs outer:=stack_frs rfl rfl
  let B:=PySem.W.hideAll s.heap (frs (cxOf (CXE P w) P w K mg base N qual scope f cd A outer s₀ H₀ E).stack)
  have hB:B.StaysIn s.heap:=fun b o e=>PySem.W.of_hideAll _ e
  have hB':B.StaysIn h':=fun b o e=>kp b o (hB b o e)
  have bget:∀ b o,s.heap.get? b=some o→b∉frs (cxOf (CXE P w) P w K mg base N qual scope f cd A outer s₀ H₀ E).stack→B.get? b=some o:=fun b o e n=>PySem.W.hideAll_get _ e n
  have bx:B.get? x=none:=by
    cases z:B.get? x with
    | none=>rfl
    | some o =>
      have:=hB x o z
      rw [nx] at this
      cases this
  have fn:h'.FunFrames B (cxOf (CXE P w) P w K mg base N qual scope f cd A outer s₀ H₀ E).stack:=(frames_base (fun b hb=>PySem.W.hideAll_none _ hb) I.stack).of_keeps fun b o e _=>⟨o,kp b o e,rfl⟩
  have covT:∀ b o,H b=some o→∃ o',B.get? b=some o':=fun b o e=>by
    have hlt:=(I.hok b o e).lt
    obtain ⟨u,hu⟩:∃ u,s.heap.get? b=some u:=(I.hok b o e).there
    refine ⟨u,bget b u hu fun hb=>?_⟩
    rw [I.stkFree b hb] at e
    cases e
  have un0:Un (frs (cxOf (CXE P w) P w K mg base N qual scope f cd A outer s₀ H₀ E).stack) [] H H s.heap h':=Un.kept kp
  have cov1:∀ b o,s.heap.get? b=some o→b∉frs (cxOf (CXE P w) P w K mg base N qual scope f cd A outer s₀ H₀ E).stack→∃ o',B.get? b=some o':=fun b o e n=>⟨o,bget b o e n⟩
  refine leave_frame (s:={ s with heap:=h' }) (B:=B) (L:=s₀.heap.objs.size) hfr rfl hB' fn ⟨bx,sl,hx⟩ (.inl v1) fun h2 ws _ xa' ta' m=>?_
  refine ⟨x,C,none,H,B,rfl,I.os,I.bare,⟨?_,hok_moved (I.hok.kept kp) hB' covT m.stay,m.stay,m.funs.2.2,fun b o e hb=>?_,covT,ws,xa',ta'⟩,q⟩
  · have u2:=un_moved un0 hB' fn cov1 m
    exact leave_un (L:=s₀.heap.objs.size) (B:=B) (Nat.le_refl _) I.base (hsf▸u2)
  · obtain ⟨o1,e1⟩:=I.base.there b o e (fun z=>by simp [cxOf] at z)
    refine cov1 b o1 e1 fun z=>?_
    rw [hsf] at z
    exact (List.mem_cons.mp z).elim (Nat.ne_of_lt (Heap.lt_size e)) hb
end
end L2
namespace L2
open PySem PySem.Spec PyProof.Rows
section
variable {P:Program} {w:World} {K:PySem.W.Frag} {mg:Str→Option Value} {base:Heap} {k:Nat} {f:Addr} {fd:FuncData} {ps:List Str} {sp:Sp}
theorem FnOk.to0 (F:FnOk P w K mg base (CXE P w) k f fd ps sp):FnOk P w K mg base CX0 k f fd ps (fun vs H Q _=>sp vs H Q E0) :=
  ⟨fun vs H Q _ h=>F.len vs H Q E0 h,fun A outer s H args us vs Q _ hr e0 hb r h=>codeAny_mono (F.run A outer s H args us vs Q E0 hr e0 hb r h) fun r s' q=>by
    cases r with
    | ok fl=>cases fl <;> exact q
    | error e =>
      obtain ⟨x,C,d,H',B,_,_,_,_,z⟩:=q
      exact z⟩
theorem Fun.okX {x qual:Str} {st:Stmt} {N:List Str} (F:Fun K x qual st f fd) (S:FnScope N ps (defScope st)) (len:∀ vs H Q E,sp vs H Q E→vs.length=ps.length)
    (hbody:∀ (cdv:Value) (A:Around) (outer:List Env) (s:Shared) (H:Hp) (vs:List V) (Q:VK) (E:XK),Room k (A.deeper (envOfC qual (defScope st) s.heap.objs.size f cdv))→sp vs H Q E→
      ∃ t,PSs (cxOf (CXE P w) P w K mg base N qual (defScope st) f cdv A outer s H E) (defBody st) t∧t { nx:=fun _ H'=>Q .non H',rt:=Q } (start N vs) H):FnOk P w K mg base (CXE P w) (k+1) f fd ps sp:=by
  obtain ⟨oc,od,kV,doc,pm,an,cdv,ct,osl,rfl,lk,hcd⟩:=F.ex
  exact fn_of lk hcd S len fun A outer s H vs Q E hr hsp=>hbody cdv A outer s H vs Q E hr hsp
end
structure CalX (P:Program) (w:World) (K:PySem.W.Frag) (mg:Str→Option Value) (base:Heap) (k:Nat) (x:Str) (ps:List Str) (sp:Sp):Prop where
  ex:∃ f fd,FnOk P w K mg base (CXE P w) k f fd ps sp∧Binds K fd ps []∧PySem.W.keepIn K (.ref f)=true∧mg x=some (.ref f)
theorem CalX.to0 {P:Program} {w:World} {K:PySem.W.Frag} {mg:Str→Option Value} {base:Heap} {k:Nat} {x:Str} {ps:List Str} {sp:Sp} (C:CalX P w K mg base k x ps sp):Cal P w K mg base k x ps (fun vs H Q _=>sp vs H Q E0):=by
  obtain ⟨f,fd,F,b,kp,m⟩:=C.ex
  exact ⟨f,fd,F.to0,b,kp,m⟩
abbrev TX:=St→Hp→VK→XK→Prop
def FX (X:Cx) (pins:List (Addr×Obj)) (σ:St) (E:XK) (v:Value) (s':Shared):Prop:=∃ H1 s1,Inv X pins σ H1 s1∧CXE X.prog X.w X.stack H1 s1 E v s'
def PX (X:Cx) (e:Expr) (t:TX):Prop :=
  ∀ (pins:List (Addr×Obj)) (s:Shared) (σ:St) (H:Hp) (Q:VK) (E:XK),Inv X pins σ H s→t σ H Q E→wpAny (model X.prog X.w) X.A (eval e X.env) (EP X pins σ Q) (FX X pins σ E) s
section
variable {X:Cx} {k j:Nat} {f:Addr} {fd:FuncData} {ps:List Str} {sp:Sp} {E:XK} {x:Str} {p pos:Pos} {e:Expr} {es:List Expr} {t:TA}
theorem pe_fnX (C:CalX X.prog X.w X.K X.mg X.base k x ps sp) (hx:Passes (CXE X.prog X.w) X E) (hr:Room j X.A) (hj:k≤j) (hg:Gl X x) (ha:PA X (e::es) t) (hdb:(x == ("__debug__":Str))=false:=by decide) (he:starEach (e::es) X.env=(false,eval e X.env)::starEach es X.env:=by rfl) (hpl:(backTo pos (starEach es X.env)).any (·.1)=false:=by rfl) :
    PE X (.Call (.Name x p) (e::es) [] pos) (tCall sp [] E t):=by
  obtain ⟨f,fd,F,b,kp,m⟩:=C.ex
  exact pe_call F (hr.mono hj) hg m kp b .nil hx ha hdb he hpl
end
def VE:List Value:=[.type "ValueError",.type "Exception",.type "BaseException",.type "object"]
def ExcC (K:PySem.W.Frag) (C:Addr):Prop:=PySem.W.excIn K C VE "ValueError.__new__"=true
theorem exc_obj {K:PySem.W.Frag} {h:Heap} {C:Addr} (q:ExcC K C) (X:K.In h):∃ bm N nm q bs hdct sn sub ab col dd k0 k1 k2 k3 k5 mN,h.get? C=some (excClassObj nm q C N bs bm hdct sn sub ab col dd k0 k1 k2 k3 k5 "ValueError.__new__")∧h.Ns N mN∧mN "__init__"=none∧OwnTail h VE bm:=by
  unfold ExcC PySem.W.excIn at q
  split at q
  · rename_i dd cd sl ho
    split at q
    · rename_i C' bm k0 k1 k2 k3 n k5 hm hs
      simp only [Bool.and_eq_true,beq_iff_eq,Bool.not_eq_true'] at q
      obtain ⟨⟨⟨⟨⟨rfl,rfl⟩,hdel⟩,ht⟩,hok⟩,hni⟩:=q
      obtain ⟨nm,bs,mro,ns,qn,hd,sn,sub,ab,col,del⟩:=cd
      dsimp only at hm hdel hok hni
      subst hm hdel
      have hsl:sl=#[k0,k1,k2,k3,some (.builtin "ValueError.__new__"),k5]:=by
        obtain ⟨l⟩:=sl
        simp only at hs
        rw [hs]
      subst hsl
      exact ⟨bm,ns,nm,qn,bs,hd,sn,sub,ab,col,dd,k0,k1,k2,k3,k5,_,X _ _ ho,.of_isNs (PySem.W.isNs_of_in X hok),PySem.W.nsMap_none_of_in X hok hni,PySem.W.tail_of_in X ht⟩
    · cases q
  · cases q
def tRaise0 (E:XK) (C:Addr):TS:=fun _ _ H=>E (.ref C) none H
theorem ps_raise0 {X:Cx} {E:XK} {x:Str} {C:Addr} {np cpos pos:Pos} (hs:Starts X E) (hc:X.calm=true) (hg:Gl X x) (hm:X.mg x=some (.ref C)) (q:ExcC X.K C) (hd:(x == ("__debug__":Str))=false:=by decide) :
    PS X (.Raise (some (.Call (.Name x np) [] [] cpos)) none pos) (tRaise0 E C):=by
  intro pins s σ H D I h
  obtain ⟨tl,N,nm,q,bs,hdct,sn,sub,ab,col,dd,k0,k1,k2,k3,k5,mN,hC,hN,hni,T⟩:=exc_obj q I.kIn
  refine wpAny_Raise_call_subT (C:=C) (nm:=nm) (q:=q) (N:=N) (bs:=bs) (bm:=tl) (hdct:=hdct) (sn:=sn) (sub:=sub) (ab:=ab) (col:=col) (dd:=dd) (k0:=k0) (k1:=k1) (k2:=k2) (k3:=k3) (k5:=k5)
    PySem.F.excBase_ValueError (mN:=mN) (T.hasType PySem.F.excBase_ValueError.hasBase) (I.ok.hd hc) rfl hni (ld_glob I hg hm ⟨rfl,?_⟩ hd)
  refine evalArgs_empty ⟨rfl,Nat.zero_le _,hC,hN,T,fun h' e made=>?_⟩
  obtain ⟨t,ht,_,_⟩:=made.there
  exact hs pins σ H s h' e C #[] _ I made.keeps made.new ht rfl h
end L2
namespace L2
open PySem PySem.Spec PyProof.Rows
abbrev TSX:=Ends→XK→St→Hp→Prop
def PSX (X:Cx) (st:Stmt) (t:TSX):Prop :=
  ∀ (pins:List (Addr×Obj)) (s:Shared) (σ:St) (H:Hp) (D:Ends) (E:XK),Inv X pins σ H s→t D E σ H→wpAny (model X.prog X.w) X.A (exec st X.env) (SP X pins D) (FX X pins σ E) s
section
variable {X:Cx} {e:Expr} {tx:TX} {pos:Pos}
def sxDrop (tx:TX):TSX:=fun D E σ H=>tx σ H (fun _ H1=>D.nx σ H1) E
def sxRet (tx:TX):TSX:=fun D E σ H=>tx σ H D.rt E
def sxSet (i:Nat) (tx:TX):TSX:=fun D E σ H=>tx σ H (fun v H1=>D.nx (σ.set i (some v)) H1) E
end
def ExO (a C:Addr) (d:Option Addr):HO:=.ext fun h=>∃ vs sl,h.get? a=some ⟨.ref C,d,.fields vs,sl⟩
section
variable {P:Program} {w:World} {outer:List Env} {H H':Hp} {g B h:Heap} {x C:Addr} {d:Option Addr}
end
abbrev Cx.held (X:Cx) (x:Addr):Cx:={ X with A:=X.A.mark (some (.ref x)),calm:=false,xe:=fun _ _=>False }
section
variable {X:Cx} {pins:List (Addr×Obj)} {σ:St} {H:Hp} {s:Shared} {x:Addr}
end
section
variable {X:Cx} {st b0:Stmt} {suite:List Stmt} {c n:Str} {C0:Addr} {np hpos pos:Pos} {tb:TSX} {ts:TS}
def tTry (K:PySem.W.Frag) (C0:Addr) (tb:TSX) (ts:TS):TS:=fun D σ H=>tb D (fun c d H'=>PySem.W.exmOne K c (.ref C0)=some true∧∀ a C,c=.ref C→H' a=none→ts D σ (upd H' a (ExO a C d))) σ H
end
end L2
namespace L2
open PySem PySem.Spec PyProof.Rows
section
variable {X:Cx} {pins:List (Addr×Obj)} {σ:St} {H:Hp} {s:Shared}
end
section
variable {X:Cx} {st b0:Stmt} {suite:List Stmt} {c n:Str} {C0:Addr} {np hpos pos:Pos} {tb:TSX} {ts:TS} {i:Nat}
def Ends.forget (D:Ends) (i:Nat):Ends:={ nx:=fun σ H=>D.nx (σ.set i none) H,rt:=D.rt,bk:=fun σ H=>D.bk (σ.set i none) H,ct:=fun σ H=>D.ct (σ.set i none) H }
def tTryAs (K:PySem.W.Frag) (C0:Addr) (i:Nat) (tb:TSX) (ts:TS):TS:=fun D σ H=>tb D (fun c d H'=>PySem.W.exmOne K c (.ref C0)=some true∧∀ a C,c=.ref C→H' a=none→ts (D.forget i) (σ.set i (some (.ref a))) (upd H' a (ExO a C d))) σ H
end
end L2
namespace L2
open PySem PySem.Spec PyProof.Rows PySem.W
structure XCls (K:PySem.W.Frag) (C:Addr):Prop where
  ga:findIn K (.ref C) "__getattribute__"=some (some (.builtin "BaseException.__getattribute__"))
  gh:findIn K (.ref C) "__getattr__"=some none
  bx:subIn K (.ref C) (.type "BaseException")=some true
  hd:hasDictIn K C=true
  ca:findIn K (.ref C) "__class__"=some (some (.builtin "object.__class__"))
  cg:specialIn K (.builtin "object.__class__") "__get__"=some (some (.builtin "getset_descriptor.__get__"))
  ct:takesIn K (.builtin "object.__class__")=some true
  ob:mroIn K C (.type "object")=some true
section
variable {prog:Program} {w:World} {A:Around} {E:Value→Shared→Prop} {s:Shared} {K:PySem.W.Frag} {x C:Addr} {ox:Obj} {od:Option Obj} {name:Str} {tk:Tok}
end
end L2
namespace L2
open PySem PySem.Spec PyProof.Rows
def XDict (H:Hp) (d:Option Addr):Prop:=d=none∨∃ dx fs,d=some dx∧H dx=some (.xd fs)
section
variable {X:Cx} {pins:List (Addr×Obj)} {σ:St} {H:Hp} {s:Shared}
def rIsX (K:PySem.W.Frag):List V→Hp→VK→Prop:=fun xs H Q=>∃ (a C:Addr) (d:Option Addr) (c:V) (u:Value) (b:Bool),xs=[.ref a,c]∧H a=some (ExO a C d)∧XDict H d∧XCls K C∧(∀ u',RelV c u'→u'=u)∧PySem.W.kitOne K (.ref C) u=some b∧Q (.bl b) H
end
theorem tTrue_ite {σ:St} {H:Hp} {A B:Hp→Prop} (h:A H):tTrue σ H (fun b H4=>if b=true then A H4 else B H4):=iteT (A:=A H) (B:=B H) h
theorem pi_listC {X:Cx} {K:PySem.W.Frag} {tg:Expr} (hK:X.K=K) {l:Expr} {tl:TE} (hl:PE X l tl):PI X tg l (iList K tl):=hK▸pi_list hl
theorem pi_tupC {X:Cx} {K:PySem.W.Frag} {tg:Expr} (hK:X.K=K) {l:Expr} {tl:TE} (hl:PE X l tl):PI X tg l (iTup K tl):=hK▸pi_tup hl
theorem call_len_seqC {X:Cx} {K:PySem.W.Frag} (hK:X.K=K):CallR X (.builtin "len") (fun xs H Q=>∃ p ys,xs=[.ref p]∧(SqL K H p ys∨SqT K H p ys)∧Q (.int (ys.length:Nat)) H):=hK▸call_len_seq
theorem ix_listC {X:Cx} {K:PySem.W.Frag} (hK:X.K=K):IxR X (rIxL K):=hK▸ix_list
theorem ix_tupC {X:Cx} {K:PySem.W.Frag} (hK:X.K=K):IxR X (rIxT K):=hK▸ix_tup
end L2
namespace L2
open PySem PySem.Spec PyProof.Rows
def notStar:Expr→Bool
  | .Starred ..=>false
  | _=>true
section
variable {X:Cx} {e:Expr} {es:List Expr} {te:TE} {t:TA} {x:Str} {p pos:Pos} {id T:String} {r:List V→Hp→VK→Prop} {k j:Nat} {ps:List Str} {sp:Sp}
end
end L2
namespace L2
open PySem PySem.Spec PyProof.Rows
theorem FunAt.calX {P:Program} {w:World} {K:PySem.W.Frag} {h base:Heap} {mg:Str→Option Value} {x:Str} {st:Stmt} {ps:List Str} {k:Nat} {sp:Sp} (F:FunAt K x st) (X:K.In h) (G:h.Ns mainGlobals mg)
    (hb:∀ (kV doc pm:Value) (an:Option Addr) (cdv ct:Value) (us:List Value),us.length=ps.length→bindArgs (PySem.W.fnOf x x (defArgs st) (defBody st) (defScope st) .none kV doc pm an cdv ct) ⟨us,[]⟩=pure (ps.zip us))
    (ok:∀ (f:Addr) (fd:FuncData),Fun K x x st f fd→FnOk P w K mg base (CXE P w) k f fd ps sp):CalX P w K mg base k x ps sp:=by
  obtain ⟨f,fd,F1,a⟩:=F.ex
  exact ⟨f,fd,ok f fd F1,F1.binds hb,F1.kp,PySem.W.mg_of X G a⟩
end L2
namespace L2
open PySem PySem.Spec PyProof.Rows
inductive EqH (K:PySem.W.Frag) (H:Hp):Nat→V→V→Bool→Prop
  | flat {n:Nat} {x y:V} (fx:flatV x=true) (fy:flatV y=true):EqH K H n x y (eqV x y)
  | same {n:Nat} {a:Addr}:EqH K H n (.ref a) (.ref a) true
  | lst {n:Nat} {a b:Addr} {xs ys:List V} (e:Nat→Bool) (hne:a≠b) (ha:SqL K H a xs) (hb:SqL K H b ys) (hl:xs.length=ys.length) (he:∀ (i:Nat) x y,xs[i]?=some x→ys[i]?=some y→EqH K H n x y (e i)):EqH K H (n+1) (.ref a) (.ref b) ((List.range xs.length).all e)
  | len {n:Nat} {a b:Addr} {xs ys:List V} (hne:a≠b) (ha:SqL K H a xs) (hb:SqL K H b ys) (hl:¬ xs.length=ys.length):EqH K H (n+1) (.ref a) (.ref b) false
  | tup {n:Nat} {a b:Addr} {xs ys:List V} (e:Nat→Bool) (hne:a≠b) (ha:SqT K H a xs) (hb:SqT K H b ys) (he:∀ (i:Nat) x y,xs[i]?=some x→ys[i]?=some y→EqH K H n x y (e i)):EqH K H (n+1) (.ref a) (.ref b) ((List.range (min xs.length ys.length)).all e && xs.length == ys.length)
theorem IsTup.tup {h:Heap} {a:Addr} {its:Array Value} (t:IsTup h a its):h.IsTuple a its:=by
  obtain ⟨o,h1,h2,h3⟩:=t
  exact ⟨o,h1,h2,h3⟩
section
variable {X:Cx} {pins:List (Addr×Obj)} {σ:St} {H:Hp} {s:Shared}
theorem each_at {A:Around} {xs ys:List V} {us ws:List Value} {e:Nat→Bool} (r:Vals xs us) (r':Vals ys ws) (he:∀ (i:Nat) x y u v,xs[i]?=some x→ys[i]?=some y→RelV x u→RelV y v→SeqAt.EqAt A s u v (e i)) :
    ∀ j (h1:j<us.toArray.size) (h2:j<ws.toArray.size),SeqAt.EqAt A s us.toArray[j] ws.toArray[j] (e j):=fun j h1 h2=>by
  have l1:=r.length
  have l2:=r'.length
  simp only [List.size_toArray] at h1 h2
  have e1:xs[j]?=some xs[j]:=List.getElem?_eq_getElem (by omega)
  have e2:ys[j]?=some ys[j]:=List.getElem?_eq_getElem (by omega)
  obtain ⟨u,hu,ru⟩:=r.get e1
  obtain ⟨v,hv,rv⟩:=r'.get e2
  have eu:us.toArray[j]=u:=by
    have:us[j]?=some us[j]:=List.getElem?_eq_getElem h1
    rw [this] at hu
    exact Option.some.inj hu
  have ev:ws.toArray[j]=v:=by
    have:ws[j]?=some ws[j]:=List.getElem?_eq_getElem h2
    rw [this] at hv
    exact Option.some.inj hv
  rw [eu,ev]
  exact he j _ _ _ _ e1 e2 ru rv
theorem EqH.at (I:Inv X pins σ H s) {n:Nat} {x y:V} {b:Bool} (h:EqH X.K H n x y b):∀ {A:Around} {u v:Value},A.units+n<cLine→RelV x u→RelV y v→SeqAt.EqAt A s u v b:=by
  induction h with
  | flat fx fy=>intro A u v hu rx ry; exact eqAt_V rx ry fx fy
  | same=>intro A u v hu rx ry; cases rx; cases ry; exact SeqAt.EqAt.same _
  | @lst n a b xs ys e hne ha hb hl he ih =>
    intro A u v hu rx ry
    cases rx
    cases ry
    obtain ⟨us,r1,p1,_⟩:=I.list ha
    obtain ⟨ws,r2,p2,_⟩:=I.list hb
    have l1:=r1.length
    have l2:=r2.length
    have:=SeqAt.EqAt.of_refs hne (SeqAt.RcAt.lists p1.isList p2.isList (by simp only [List.size_toArray]; omega) (by omega) (each_at (A:=A.in1) r1 r2 fun i x y u v e1 e2 ru rv=>ih i x y e1 e2 (by show A.units+1+n<cLine; omega) ru rv))
    rw [List.size_toArray,← l1] at this
    exact this
  | @len n a b xs ys hne ha hb hl =>
    intro A u v hu rx ry
    cases rx
    cases ry
    obtain ⟨us,r1,p1,_⟩:=I.list ha
    obtain ⟨ws,r2,p2,_⟩:=I.list hb
    have l1:=r1.length
    have l2:=r2.length
    exact SeqAt.EqAt.of_refs hne (SeqAt.RcAt.lists_lengths p1.isList p2.isList (by simp only [List.size_toArray,bne_iff_ne]; omega) (by omega))
  | @tup n a b xs ys e hne ha hb he ih =>
    intro A u v hu rx ry
    cases rx
    cases ry
    obtain ⟨us,r1,p1,_⟩:=I.tuple ha
    obtain ⟨ws,r2,p2,_⟩:=I.tuple hb
    have l1:=r1.length
    have l2:=r2.length
    have:=SeqAt.EqAt.of_refs hne (SeqAt.RcAt.tuples (e:=e) (IsTup.tup p1) (IsTup.tup p2) (by omega) (each_at (A:=A.in1) r1 r2 fun i x y u v e1 e2 ru rv=>ih i x y e1 e2 (by show A.units+1+n<cLine; omega) ru rv))
    rw [List.size_toArray,List.size_toArray,← l1,← l2] at this
    exact this
def rEqH (K:PySem.W.Frag) (neg:Bool):R2:=fun x y H Q=>∃ (n:Nat) (b:Bool) (p q:Addr),x=.ref p∧y=.ref q∧p≠q∧n≤32∧EqH K H n x y b∧Q (.bl (if neg then !b else b)) H
end
end L2
namespace L2
open PySem PySem.Spec PyProof.Rows
def cutN {α:Type} (l:List α) (lo hi:Option Int):List α:=(l.drop (HT.sIx l.length 0 lo)).take (HT.sIx l.length l.length hi - HT.sIx l.length 0 lo)
theorem clip_str (v:Option Int) (n d:Nat):(match v with | none=>((d:Nat):Int) | some i=>max 0 (min (if i<0 then i+(n:Int) else i) (n:Int)))=((HT.sIx n d v:Nat):Int):=by
  cases v with
  | none=>rfl
  | some i =>
    show max 0 (min (if i<0 then i+(n:Int) else i) (n:Int))=(((if i<0 then (i+(n:Int)).toNat else min i.toNat n):Nat):Int)
    by_cases h:i<0
    · simp only [if_pos h]; omega
    · simp only [if_neg h]; omega
theorem strIdx (lo hi:Option Int) (n:Nat):Builtin.Str.strSliceIndices lo hi 1 n=sliceRange ((HT.sIx n 0 lo:Nat):Int) ((HT.sIx n n hi:Nat):Int) 1:=by
  unfold Builtin.Str.strSliceIndices
  simp only [show (1:Int) > 0 by decide,if_true]
  rw [← clip_str lo n 0,← clip_str hi n n]
  rfl
theorem slice_txt (x:Str) (lo hi:Option Int):(Txt.slice x lo hi).cps.toList=cutN x.cps.toList lo hi:=by
  have hn:x.cps.toList.length=x.length:=by simp [Str.length]
  unfold Txt.slice cutN
  rw [strIdx,sliceRange_one,hn]
  generalize ha:HT.sIx x.length 0 lo=a
  generalize hb:HT.sIx x.length x.length hi=b
  have hb':b≤x.length:=by rw [← hb]; exact HT.sIx_le _ _ (Nat.le_refl _) _
  split
  · rename_i h
    simp only [List.length_map,List.length_range,Bool.and_eq_true,beq_iff_eq] at h
    by_cases hz:x.length=0
    · have e:x.cps.toList=[]:=List.length_eq_zero_iff.mp (by omega)
      rw [e]
      simp
    · have e1:a=0:=by omega
      have e2:b=x.length:=by omega
      subst e1 e2
      rw [List.drop_zero,Nat.sub_zero,List.take_of_length_le (by omega)]
  · rw [pick_run]
theorem tx_len (x:Str):x.cps.toList.length=x.length:=by simp [Str.length]
theorem slice_len (x:Str) (k:Nat):(Txt.slice x none (some (k:Int))).length≤k:=by
  rw [← tx_len,slice_txt]
  unfold cutN
  rw [HT.sIx_nat]
  simp only [HT.sIx_none,List.drop_zero,List.length_take]
  omega
section
variable {X:Cx}
def rSlS:V→Option Int→Option Int→Hp→VK→Prop:=fun x lo hi H Q=>∃ z,x=.str z∧z.length≤sizeLine∧Q (.str (Txt.slice z lo hi)) H
theorem part_of {v:Value} {o:Option Int} (p:IsPart v o):∃ l:Option (Int×Tok),v=partValue l∧l.map (·.1)=o:=by
  cases p with
  | none=>exact ⟨none,rfl,rfl⟩
  | int i t=>exact ⟨some (i,t),rfl,rfl⟩
theorem sl_str:SlR X rSlS:=by
  intro pins s σ H x v vl vu lo hi sl Q I rx hs pl pu h
  obtain ⟨z,rfl,hz,q⟩:=h
  obtain ⟨t,rfl⟩:=rx
  obtain ⟨l,e1,e2⟩:=part_of pl
  obtain ⟨u,e3,e4⟩:=part_of pu
  refine ⟨"str",_,PySem.F.slot_str_getitem.lookup,typeIs_str _ _ _,?_⟩
  obtain ⟨o,h1,h2,h3⟩:=hs
  subst e1 e3 e2 e4
  refine wpAny_getItem_str_slice (l:=l) (u:=u) (st:=none) ⟨o,h1,h2,h3⟩ rfl ?_
  refine post_val_or_str ⟨Nat.le_trans (Txt.slice_le z _ _) hz,fun t' k=>?_⟩
  exact ⟨.str _,H,I.tok _,⟨_,rfl⟩,q⟩
end
end L2
namespace L2
open PySem PySem.Spec PyProof.Rows
section
variable {prog:Program} {w:World} {A:Around} {E:Value→Shared→Prop} {s:Shared}
theorem nxT_item {it t:Addr} {i:Nat} {its:Array Value} {x:Value} {Q:Value→Shared→Prop} (a:s.heap.IsTupleIter it t i) (b:s.heap.IsTuple t its) (c:its[i]?=some x) (d:∀ h',h'.IsTupleIter it t (i+1)→Heap.SameBut it s.heap h'→Q x { s with heap:=h' }):wpAny (model prog w) A (Builtin.SmallTypes.nextOf (.ref it)) Q E s:=by
  obtain ⟨u,e1,e2,e3⟩:=id a
  obtain ⟨v,f1,_,m,f3⟩:=b
  unfold Builtin.SmallTypes.nextOf
  refine wpAny_bind (wpAny_callSpecial?_slot (name:=Str.ofString "__next__") a.typeIs F.slot_tuple_iterator_next (wpAny_call_entry F.slot_tuple_iterator_next a.typeIs F.entry_tuple_iterator_next ?_ (F.args_tuple_iterator_next_1 _)))
  show wpAny _ _ (field (.ref it) 0 >>= _) _ _ s; refine wpAny_bind (wpAny_field e1 e3 (x:=.ref t) rfl ?_)
  show wpAny _ _ (if (Value.ref t == Value.none)=true then _ else _) _ _ s; rw [if_neg (show ¬ ((Value.ref t == Value.none)=true) from Bool.false_ne_true)]
  show wpAny _ _ (field (.ref it) 1 >>= _) _ _ s; refine wpAny_bind (wpAny_field e1 e3 (x:=.int i 0) rfl ?_)
  show wpAny _ _ (seqItems? (.ref t) >>= _) _ _ s; refine wpAny_bind (wpAny_seqItems f1 f3 ?_)
  simp only [Int.toNat_natCast,c]
  refine wpAny_bind (wpAny_setField e1 e3 (by simp) (wpAny_pure ⟨x,rfl,wpAny_pure (d _ ⟨_,Heap.get?_update_self _ e1 (Obj.isFreed_of_fields (Obj.data_mapFields e3 _)),(Obj.cls_mapFields ..).trans e2,?_⟩ (Heap.SameBut.update ..))⟩))
  rw [Obj.data_mapFields e3]; simp [rawInt]
theorem nxT_end {it t:Addr} {i:Nat} {its:Array Value} {Q:Value→Shared→Prop} (hh:A.handled=none) (a:s.heap.IsTupleIter it t i) (b:s.heap.IsTuple t its) (c:its[i]?=none)
    (d:∀ h' e,Heap.ExtBut it s.heap h'→(∃ o,h'.get? e=some o∧o.cls=.type "StopIteration")→E (.ref e) { s with heap:=h' }):wpAny (model prog w) A (Builtin.SmallTypes.nextOf (.ref it)) Q E s:=by
  obtain ⟨u,e1,e2,e3⟩:=id a
  obtain ⟨v,f1,_,m,f3⟩:=b
  unfold Builtin.SmallTypes.nextOf
  refine wpAny_bind (wpAny_callSpecial?_slot (name:=Str.ofString "__next__") a.typeIs F.slot_tuple_iterator_next (wpAny_call_entry F.slot_tuple_iterator_next a.typeIs F.entry_tuple_iterator_next ?_ (F.args_tuple_iterator_next_1 _)))
  show wpAny _ _ (field (.ref it) 0 >>= _) _ _ s; refine wpAny_bind (wpAny_field e1 e3 (x:=.ref t) rfl ?_)
  show wpAny _ _ (if (Value.ref t == Value.none)=true then _ else _) _ _ s; rw [if_neg (show ¬ ((Value.ref t == Value.none)=true) from Bool.false_ne_true)]
  show wpAny _ _ (field (.ref it) 1 >>= _) _ _ s; refine wpAny_bind (wpAny_field e1 e3 (x:=.int i 0) rfl ?_)
  show wpAny _ _ (seqItems? (.ref t) >>= _) _ _ s; refine wpAny_bind (wpAny_seqItems f1 f3 ?_)
  simp only [Int.toNat_natCast,c]
  refine wpAny_bind (wpAny_rule (wpAny_bind (wpAny_setField e1 e3 (by simp) ?_)))
  show wpAny _ _ (newExc (.type "StopIteration") [] >>= _) _ _ _; refine wpAny_bind ?_
  simp only [newExc,newTuple]; refine wpAny_bind (wpAny_newObj_type ?_ (by size_fits))
  refine wpAny_bind (m:=firstArgMember _ _) (wpAny_of_eq (a:=Value.none) (by first | rfl | (simp only [firstArgMember]; rfl)) (wpAny_newObj_type ?_ (by size_fits)))
  simp only [raiseNew]; refine wpAny_bind (wpAny_handled ?_)
  rw [show A.in1.handled=none from hh]
  exact wpAny_bind (wpAny_pure (wpAny_throw (d _ _ (((Heap.SameBut.update ..).extBut.push _).push _) ⟨_,Heap.get?_push_size _ rfl,rfl⟩)))
theorem drawsT (hh:A.handled=none) (it t:Addr) (hne:t≠it) (its:Array Value):Draws prog w A it [it,t] its.size (fun i v=>its[i]?=some v) (fun i h=>h.IsTupleIter it t i∧h.IsTuple t its) where
  live:=fun _ _ st=>by
    obtain ⟨⟨o,e,_⟩,_⟩:=st
    exact ⟨o,e⟩
  frame:=fun _ _ _ st k=>by
    obtain ⟨⟨o,e,r⟩,⟨o2,e2,r2⟩⟩:=st
    exact ⟨⟨o,k it (by simp) o e,r⟩,⟨o2,k t (by simp) o2 e2,r2⟩⟩
  item:=fun i s Q E hi st d=>nxT_item st.1 st.2 (x:=its[i]) (by simp [hi]) fun h' a b=>d _ h' s.toks (by simp [hi]) ⟨a,st.2.extBut b.extBut hne⟩ b
  done:=fun s Q E st d=>nxT_end hh st.1 st.2 (by simp) d
theorem meets_enumT (l:Addr) (its:Array Value) (n:Nat) (dc:Option Addr) (sl:Array (Option Value)) :
    Meets (Builtin.«enumerate.__new__» ⟨[.type "enumerate",.ref l],[]⟩) (fun _ R s=>s.heap.get? l=some { cls:=.type "tuple",dict:=dc,data:=.seq its n,slots:=sl }∧
      R (.ok (.ret (.ref (s.heap.push { cls:=.type "tuple_iterator",data:=.fields #[.ref l,.int 0 0] }).objs.size)))
        { s with heap:=(s.heap.push { cls:=.type "tuple_iterator",data:=.fields #[.ref l,.int 0 0] }).push { cls:=.type "enumerate",data:=.fields #[.none,.bool false,.ref s.heap.objs.size,rawInt 0,.none,.none] } }) :=
  .of_wp fun prog w A R s h=>by
    obtain ⟨hp,g,d,tk,os⟩:=s; obtain ⟨a1,h⟩:=h
    have sb:=sub_enumerate
    have a2:Heap.IsTuple (Shared.heap ⟨hp,g,d,tk,os⟩) l its:=⟨_,a1,rfl,n,rfl⟩
    wp_walk using AutoSeq1.wpAny_loadPart' a1
    refine wpAny_stack_any fun st=>wpAny_pure ?_
    split
    · rename_i c _ _ _ _ _
      cases (c == Value.type "enumerate") <;> (wp_walk using AutoSeq1.wpAny_loadPart' a1,wpAny_pyIter_tuple a2; exact ⟨_,rfl,h⟩)
    · wp_walk using AutoSeq1.wpAny_loadPart' a1,wpAny_pyIter_tuple a2; exact ⟨_,rfl,h⟩
theorem call_enumT {l:Addr} {its:Array Value} {Q:Value→Shared→Prop} (a:s.heap.IsTuple l its)
    (k:∀ h',IsEnum h' (s.heap.objs.size+1) s.heap.objs.size 0 .none→h'.IsTupleIter s.heap.objs.size l 0→h'.objs.size=s.heap.objs.size+2→(∀ b o,s.heap.get? b=some o→h'.get? b=some o)→Q (.ref (s.heap.objs.size+1)) { s with heap:=h' }) :
    wpAny (model prog w) A (call (.type "enumerate") [.ref l]) Q E s:=by
  obtain ⟨⟨c,dc,dt,sl⟩,a1,a2,n,a3⟩:=a
  replace a2:c=.type "tuple":=a2; replace a3:dt=.seq its n:=a3
  subst a2 a3
  refine callType_new F.called_enumerate (by decide) (F.typeCall_enumerate_1 _) (F.newCall_enumerate_1 _) (fun obj=>F.args_object_init_2 obj _) F.entry_enumerate_new (meets_enumT l its n dc sl) ⟨a1,?_⟩
  have z:(s.heap.push { cls:=.type "tuple_iterator",data:=.fields #[.ref l,.int 0 0] }).objs.size=s.heap.objs.size+1:=Heap.size_push ..
  show _∧_; rw [z]
  have e:=Heap.get?_push_size (s.heap.push { cls:=.type "tuple_iterator",data:=.fields #[.ref l,.int 0 0] }) (o:={ cls:=.type "enumerate",data:=.fields #[.none,.bool false,.ref s.heap.objs.size,rawInt 0,.none,.none] }) rfl
  rw [z] at e
  exact ⟨⟨_,e,rfl⟩,k _ e ⟨_,Heap.get?_push_of_some _ (Heap.get?_push_size _ rfl),rfl,rfl⟩ (by rw [Heap.size_push,z]) fun b o x=>Heap.get?_push_of_some _ (Heap.get?_push_of_some _ x)⟩
end
def IteT (K:PySem.W.Frag) (a:Addr):It :=
  ⟨fun i H=>∃ xs x,SqT K H a xs∧xs[i]?=some x,fun i H v H'=>∃ T x,H T=none∧H'=upd H T (.tup [.int (i:Int),x])∧v=.ref T∧∀ xs,SqT K H a xs→xs[i]?=some x,fun i H=>∃ xs,SqT K H a xs∧xs.length=i⟩
theorem turn_enumT {P:Program} {w:World} {K:PySem.W.Frag} {elts:List Expr} {x1:Nat} {tp:Pos} (a e it:Addr) (hei:e≠it) (hea:e≠a) (hai:a≠it) :
    Turn P w K (.Tuple elts x1 tp) (IteT K a) [e,it] e (fun i h=>(∃ old,IsEnum h e it i old)∧h.IsTupleIter it a i) where
  mem:=by simp
  obj:=fun i h st b hb=>by
    obtain ⟨⟨old,he⟩,⟨o,e1,c,d⟩⟩:=st
    rcases List.mem_cons.mp hb with z | z
    · subst z
      exact ⟨_,he,fun v q=>nomatch q⟩
    · have z':b=it:=by simpa using z
      subst z'
      exact ⟨o,e1,fun v q=>by rw [d] at q; cases q⟩
  keep:=fun i h h' st k=>⟨st.1.elim fun old he=>⟨old,k e (by simp) _ he⟩,st.2.elim fun o r=>⟨o,k it (by simp) o r.1,r.2⟩⟩
  item:=by
    intro X hP hw hK hc i pins s σ H E I hf st hg
    subst hP hw hK
    obtain ⟨xs,x,hq,hx⟩:=hg
    obtain ⟨its,rv,p,hz⟩:=I.tuple hq
    obtain ⟨u,hu,ru⟩:=rv.get hx
    obtain ⟨⟨old,he⟩,hit⟩:=st
    have hlen:=rv.length
    have hlt:i<its.toArray.size:=by rw [List.size_toArray,← hlen]; exact (List.getElem?_eq_some_iff.mp hx).1
    refine wpAny_pyNext_enum_itemD (drawsT (A:=X.A.in1) (show X.A.in1.handled=none from I.ok.hd hc) it a hai its.toArray) he ⟨hit,IsTup.tup p⟩ hlt hei (by simp [hei,hea]) fun v h' tk hv ho hst hT hsz hk=>?_
    obtain rfl:v=u:=by
      have:its[i]?=some v:=by simpa using hv
      rw [hu] at this
      exact (Option.some.inj this).symm
    have helt:e<s.heap.objs.size:=Heap.lt_size he
    have hilt:it<s.heap.objs.size:=by obtain ⟨_,q,_⟩:=hit; exact Heap.lt_size q
    refine ⟨_,rfl,?_⟩
    refine wpAny_letOwnedTupleGo_enum ho fun h2 he2 hs2=>?_
    have k2:∀ b o,b∉[e,it]→s.heap.get? b=some o→h2.get? b=some o:=fun b o hb q=>by
      have n1:b≠e:=fun z=>hb (by simp [z])
      have n2:b≠it:=fun z=>hb (by simp [z])
      exact (hs2.2 b n1).trans (hk b o n1 n2 q)
    have t2:h2.get? s.heap.objs.size=some { cls:=.type "tuple",data:=.seq #[.int i tk,v] }:=(hs2.2 _ (Nat.ne_of_gt helt)).trans hT
    have hn:H s.heap.objs.size=none:=I.hok.fresh (Nat.le_refl _)
    have new:ObjOk X.prog X.w (upd H s.heap.objs.size (.tup [.int (i:Int),x])) h2 s.heap.objs.size (.tup [.int (i:Int),x]) :=
      ⟨by simp only [List.length_cons,List.length_nil]; rw [sizeLine_eq]; decide,[.int i tk,v],.cons ⟨_,rfl⟩ (.cons ru .nil),⟨_,t2,rfl,_,rfl⟩⟩
    have I2:Inv X pins σ (upd H s.heap.objs.size (.tup [.int (i:Int),x])) { s with heap:=h2,toks:=tk+1 }:=I.turnedNew k2 hf (Nat.le_refl _) new
    refine ⟨.ref s.heap.objs.size,_,I2,rfl,⟨s.heap.objs.size,x,hn,rfl,rfl,fun ys hy=>by rw [I.tuple_inj hy hq]; exact hx⟩,⟨⟨v,?_⟩,hst.1.elim fun o r=>⟨o,(hs2.2 it hei.symm).trans r.1,r.2⟩⟩,fun b hb=>?_⟩
    · simpa using he2
    · have hb1:b≠s.heap.objs.size:=by
        rcases List.mem_cons.mp hb with z | z
        · rw [z]; exact Nat.ne_of_lt helt
        · have z':b=it:=by simpa using z
          rw [z']; exact Nat.ne_of_lt hilt
      rw [upd_ne hb1]
      exact (hf b hb).1
  done:=by
    intro X hP hw hK hc i pins s σ H E I hf st hg
    subst hP hw hK
    obtain ⟨xs,hq,hx⟩:=hg
    obtain ⟨its,rv,p,hz⟩:=I.tuple hq
    obtain ⟨⟨old,he⟩,hit⟩:=st
    have e:i=its.toArray.size:=by rw [List.size_toArray,← rv.length]; exact hx.symm
    subst e
    refine wpAny_pyNext_enum_endD (drawsT (A:=X.A.in1) (show X.A.in1.handled=none from I.ok.hd hc) it a hai its.toArray) he ⟨hit,IsTup.tup p⟩ fun h' eb=>⟨rfl,?_⟩
    exact I.turnedL (t':=s.toks) (fun b o hb q=>eb b o (fun z=>hb (by simp [z])) q) hf
  self:=fun _ _ _ _ _ st h=>by
    obtain ⟨⟨old,he⟩,_⟩:=st
    exact wpAny_pyIter_enum he h
section
variable {X:Cx}
def iEnumT (K:PySem.W.Frag) (ta:TA):TI:=fun σ H R=>ta σ H fun vs H1=>∃ a,vs=[.ref a]∧(∃ xs,SqT K H1 a xs)∧R (IteT K a) H1
theorem pi_enumT {a:Expr} {ta:TA} {p pos tp:Pos} {elts:List Expr} {x1:Nat} (hg:Gl X "enumerate") (hm:X.mg "enumerate"=none) (ha:PA X [a] ta) (hs:starEach [a] X.env=[(false,eval a X.env)]:=by rfl) :
    PI X (.Tuple elts x1 tp) (.Call (.Name "enumerate" p) [a] [] pos) (iEnumT X.K ta):=by
  intro pins s σ H R I h
  refine Call_ (ld_blt I hg hm boot_enumerate (PyProof.Rows.callWith_type1 (thn (ha pos pins s σ H _ I h) fun us s1 ⟨vs,H1,I1,r1,q1⟩=>?_) hs rfl))
  obtain ⟨l,e,⟨xs,hx⟩,q⟩:=q1
  subst e
  obtain ⟨u,rfl,ru⟩:=vals1 r1
  cases ru
  obtain ⟨its,rv,pl,hz⟩:=I1.tuple hx
  have hl:l<s1.heap.objs.size:=by obtain ⟨o,z,_⟩:=IsTup.tup pl; exact Heap.lt_size z
  refine call_enumT (IsTup.tup pl) fun h' he hit hsz hk=>?_
  refine wpAny_pyIter_enum he ?_
  have hfp:∀ b∈[s1.heap.objs.size+1,s1.heap.objs.size],FpOk X pins H1 b:=fun b hb=>by
    have hge:s1.heap.objs.size≤b:=by
      rcases List.mem_cons.mp hb with z | z
      · omega
      · have z':b=s1.heap.objs.size:=by simpa using z
        omega
    exact I1.fpOk hge (I1.hok.fresh hge)
  exact ⟨s1.heap.objs.size+1,[s1.heap.objs.size+1,s1.heap.objs.size],_,_,H1,rfl,I1.kept (t':=s1.toks) hk,turn_enumT l _ _ (Nat.succ_ne_self _) (Nat.ne_of_gt (Nat.lt_succ_of_lt hl)) (Nat.ne_of_lt hl),⟨⟨_,he⟩,hit⟩,hfp,q⟩
end
theorem for_enumT {K:PySem.W.Frag} {a:Addr} {xs:List V} {g:TG} {tb:TS} {D:Ends} {σ:St} {H:Hp} (Pv:Nat→St→Hp→Prop) (h0:Pv 0 σ H) (hl:∀ i σ H,i≤xs.length→Pv i σ H→SqT K H a xs)
    (hs:∀ i x σ H T,xs[i]?=some x→Pv i σ H→H T=none→g (.ref T) σ (upd H T (.tup [.int (i:Int),x])) fun σ2 H2=>tb { D with nx:=Pv (i+1),ct:=Pv (i+1),bk:=D.nx } σ2 H2) (hd:∀ σ H,Pv xs.length σ H→D.nx σ H) :
    ∃ W:Nat→Nat→St→Hp→Prop,(∃ m,W 0 m σ H)∧∀ i m σ H,W i m σ H→
      ((IteT K a).stop i H∧D.nx σ H)∨((IteT K a).go i H∧∃ N:St→Hp→Prop,(∀ σ' H',N σ' H'→∃ m',m'<m∧W (i+1) m' σ' H')∧∀ x H',(IteT K a).yld i H x H'→g x σ H' fun σ2 H2=>tb { D with nx:=N,ct:=N,bk:=D.nx } σ2 H2):=by
  refine ⟨fun i m σ H=>m=xs.length - i∧i≤xs.length∧Pv i σ H,⟨xs.length,by simp,Nat.zero_le _,h0⟩,?_⟩
  rintro i m σ H ⟨rfl,hi,p⟩
  have q:=hl i σ H hi p
  by_cases hlt:i<xs.length
  · refine .inr ⟨⟨xs,xs[i],q,by simp [hlt]⟩,Pv (i+1),fun σ' H' p'=>⟨xs.length - (i+1),by omega,rfl,hlt,p'⟩,fun v H' y=>?_⟩
    obtain ⟨T,x,hT,e1,e2,y⟩:=y
    subst e1 e2
    exact hs i x σ H T (y xs q) p hT
  · have e:i=xs.length:=by omega
    subst e
    exact .inl ⟨⟨xs,q,rfl⟩,hd σ H p⟩
end L2
namespace L2
open PySem PySem.Spec PyProof.Rows
def sgn (c:Nat):V:=.str ⟨#[c]⟩
def ItS (z:Str):It:=⟨fun i _=>i<z.cps.size,fun i H x H'=>H'=H∧∃ c,z.cps[i]?=some c∧x=sgn c,fun i _=>i=z.cps.size⟩
theorem nxS_item {prog:Program} {w:World} {A:Around} {E:Value→Shared→Prop} {s:Shared} {it:Addr} {z:Str} {t:Tok} {i c:Nat} {Q:Option Value→Shared→Prop} (a:s.heap.IsStrIter it (strIterType z) z t i) (b:z.cps[i]?=some c)
    (k:∀ h',h'.IsStrIter it (strIterType z) z t (i+1)→Heap.SameBut it s.heap h'→Q (some (.str ⟨#[c]⟩ s.toks)) { s with heap:=h',toks:=s.toks+1 }):wpAny (model prog w) A (pyNext (.ref it)) Q E s:=by
  unfold strIterType at a k
  split at a
  · rename_i e
    rw [if_pos e] at k
    exact wpAny_pyNext_ascii_item a b k
  · rename_i e
    rw [if_neg e] at k
    exact wpAny_pyNext_wide_item a b k
theorem nxS_end {prog:Program} {w:World} {A:Around} {E:Value→Shared→Prop} {s:Shared} {it:Addr} {z:Str} {t:Tok} {i:Nat} {Q:Option Value→Shared→Prop} (hh:A.handled=none) (a:s.heap.IsStrIter it (strIterType z) z t i) (b:z.cps[i]?=none)
    (k:∀ h',Heap.ExtBut it s.heap h'→Q none { s with heap:=h' }):wpAny (model prog w) A (pyNext (.ref it)) Q E s:=by
  unfold strIterType at a
  split at a
  · exact wpAny_pyNext_ascii_end hh a b k
  · exact wpAny_pyNext_wide_end hh a b k
theorem ty_no (z:Str):["enumerate","zip","dict_itemiterator","dict_reverseitemiterator","odict_iterator","itertools.zip_longest","itertools.pairwise"].contains (strIterType z)=false:=by
  unfold strIterType
  split <;> decide
theorem turn_str {P:Program} {w:World} {K:PySem.W.Frag} {tg:Expr} (z:Str) (t:Tok) (it:Addr):Turn P w K tg (ItS z) [it] it (fun i h=>h.IsStrIter it (strIterType z) z t i) where
  mem:=by simp
  obj:=fun i h st b hb=>by
    have e:b=it:=by simpa using hb
    subst e
    obtain ⟨o,e,c,d⟩:=st
    exact ⟨o,e,fun v q=>by rw [d] at q; cases q⟩
  keep:=fun i h h' st k=>st.elim fun o r=>⟨o,k it (by simp) o r.1,r.2⟩
  item:=by
    intro X hP hw hK hc i pins s σ H E I hf st hg
    subst hP hw hK
    have hg':i<z.cps.size:=hg
    have hx:z.cps[i]?=some z.cps[i]:=Array.getElem?_eq_getElem hg'
    obtain ⟨f0,f1,f2,f3,f4,f5⟩:=hf it (by simp)
    refine nxS_item st hx fun h' st' sb=>?_
    have I1:Inv X pins σ H { s with heap:=h',toks:=s.toks+1 }:=I.turned (t':=s.toks+1) (fun b o hb e=>(sb.2 b hb).trans e) f0 f1 f3 f4 f5
    obtain ⟨o,e,c,d⟩:=id st'
    exact ⟨_,rfl,go_of (s:={ s with heap:=h',toks:=s.toks+1 }) e c d (ty_no z) ⟨sgn z.cps[i],H,I1,⟨_,rfl⟩,⟨rfl,_,hx,rfl⟩,st',fun b hb=>(hf b hb).1⟩⟩
  done:=by
    intro X hP hw hK hc i pins s σ H E I hf st hg
    subst hP hw hK
    obtain ⟨f0,f1,f2,f3,f4,f5⟩:=hf it (by simp)
    have hx:z.cps[i]?=none:=by simp [show i=z.cps.size from hg]
    exact nxS_end (I.ok.hd hc) st hx fun h' eb=>⟨rfl,I.turned (t':=s.toks) (fun b o hb e=>eb b o hb e) f0 f1 f3 f4 f5⟩
  self:=fun _ _ _ _ _ st h=>by
    unfold strIterType at st
    split at st
    · exact wpAny_pyIter_striter_ascii st h
    · exact wpAny_pyIter_striter_wide st h
section
variable {X:Cx} {tg:Expr}
def iStr (tl:TE):TI:=fun σ H R=>tl σ H fun x H1=>∃ z,x=.str z∧R (ItS z) H1
theorem pi_str {l:Expr} {tl:TE} (hl:PE X l tl):PI X tg l (iStr tl):=by
  intro pins s σ H R I h
  refine thn (hl pins s σ H _ I h) fun v s1 ⟨x,H1,I1,r1,q1⟩=>?_
  obtain ⟨z,rfl,q⟩:=q1
  obtain ⟨t,rfl⟩:=r1
  refine wpAny_pyIter_strU ?_
  refine ⟨s1.heap.objs.size,[s1.heap.objs.size],_,_,H1,rfl,I1.kept (t':=s1.toks) fun b o e=>Heap.get?_push_of_some _ e,turn_str z t _,⟨_,Heap.get?_push_size _ rfl,rfl,rfl⟩,fun b hb=>?_,q⟩
  have e:b=s1.heap.objs.size:=by simpa using hb
  subst e
  exact I1.fpOk (Nat.le_refl _) (I1.hok.fresh (Nat.le_refl _))
end
theorem comp_str {z:Str} {g:TG} {tt:TT} {te:TE} {nv:Nat} {ix:List Nat} {σ:St} {D:Addr} {H:Hp} {Q:VK} (Pv:Nat→List V→Hp→Prop) (h0:Pv 0 [] (upd H D (.lst [])))
    (hs:∀ i c ys H,z.cps[i]?=some c→Pv i ys H→H D=some (.lst ys)→g (sgn c) (capσ nv ix σ) H fun σ2 H3=>σ2.drop nv=(capσ nv ix σ).drop nv∧tt σ2 H3 fun b H4 =>
      if b=true then te σ2 H4 fun v H5=>∃ zs,H5 D=some (.lst zs)∧zs.length<sizeLine∧(∃ ys',Pv (i+1) ys' (upd H5 D (.lst (zs++[v])))∧(upd H5 D (.lst (zs++[v]))) D=some (.lst ys')) else ∃ ys',Pv (i+1) ys' H4∧H4 D=some (.lst ys'))
    (hd:∀ ys H,Pv z.cps.size ys H→H D=some (.lst ys)→Q (.ref D) H) :
    CompAt (ItS z) g tt te nv ix σ Q H D:=by
  refine ⟨fun i m H2=>m=z.cps.size - i∧i≤z.cps.size∧∃ ys,Pv i ys H2∧H2 D=some (.lst ys),⟨z.cps.size,by simp,Nat.zero_le _,[],h0,upd_same⟩,?_⟩
  rintro i m H2 ⟨rfl,hi,ys,p,hD⟩
  by_cases hlt:i<z.cps.size
  · refine .inr ⟨hlt,fun H'=>∃ ys,Pv (i+1) ys H'∧H' D=some (.lst ys),fun H' p'=>⟨z.cps.size - (i+1),by omega,rfl,hlt,p'⟩,fun x H' y=>?_⟩
    obtain ⟨e,c,hc,e2⟩:=y
    subst e e2
    exact hs i c ys _ hc p hD
  · have e:i=z.cps.size:=by omega
    subst e
    exact .inl ⟨rfl,hd ys H2 p hD⟩
theorem comp_tup {K:PySem.W.Frag} {a:Addr} {xs:List V} {g:TG} {tt:TT} {te:TE} {nv:Nat} {ix:List Nat} {σ:St} {D:Addr} {H:Hp} {Q:VK} (Pv:Nat→List V→Hp→Prop) (h0:Pv 0 [] (upd H D (.lst []))) (hl:∀ i ys H,i≤xs.length→Pv i ys H→SqT K H a xs)
    (hs:∀ i x ys H,xs[i]?=some x→Pv i ys H→H D=some (.lst ys)→g x (capσ nv ix σ) H fun σ2 H3=>σ2.drop nv=(capσ nv ix σ).drop nv∧tt σ2 H3 fun b H4 =>
      if b=true then te σ2 H4 fun v H5=>∃ zs,H5 D=some (.lst zs)∧zs.length<sizeLine∧(∃ ys',Pv (i+1) ys' (upd H5 D (.lst (zs++[v])))∧(upd H5 D (.lst (zs++[v]))) D=some (.lst ys')) else ∃ ys',Pv (i+1) ys' H4∧H4 D=some (.lst ys'))
    (hd:∀ ys H,Pv xs.length ys H→H D=some (.lst ys)→Q (.ref D) H) :
    CompAt (Itt K a) g tt te nv ix σ Q H D:=by
  refine ⟨fun i m H2=>m=xs.length - i∧i≤xs.length∧∃ ys,Pv i ys H2∧H2 D=some (.lst ys),⟨xs.length,by simp,Nat.zero_le _,[],h0,upd_same⟩,?_⟩
  rintro i m H2 ⟨rfl,hi,ys,p,hD⟩
  have q:=hl i ys H2 hi p
  by_cases hlt:i<xs.length
  · refine .inr ⟨⟨xs,xs[i],q,by simp [hlt]⟩,fun H'=>∃ ys,Pv (i+1) ys H'∧H' D=some (.lst ys),fun H' p'=>⟨xs.length - (i+1),by omega,rfl,hlt,p'⟩,fun x H' y=>?_⟩
    obtain ⟨e,y⟩:=y
    subst e
    exact hs i x ys _ (y xs q) p hD
  · have e:i=xs.length:=by omega
    subst e
    exact .inl ⟨⟨xs,q,Nat.le_refl _⟩,hd ys H2 p hD⟩
theorem op_notIn_seqC {X:Cx} {K:PySem.W.Frag} (hK:X.K=K):OpR X (compareOp .NotIn) (rIn K true):=hK▸op_notIn_seq
theorem str_size1 (c:Nat):(⟨#[c]⟩:Str).length=1:=rfl
theorem str_app_len (a b:Str):(a++b).length=a.length+b.length:=by
  show (a.cps++b.cps).size=a.cps.size+b.cps.size
  simp
theorem nodup_sub {α:Type} [DecidableEq α]:∀ {l m:List α},l.Nodup→(∀ x∈l,x∈m)→l.length≤m.length
  | [],_,_,_=>Nat.zero_le _
  | x::r,m,hn,hs=>by
    have hx:=hs x List.mem_cons_self
    rw [List.nodup_cons] at hn
    have h2:=nodup_sub (l:=r) (m:=m.erase x) hn.2 fun y hy=>(List.mem_erase_of_ne (fun (e:y=x)=>hn.1 (e▸hy))).mpr (hs y (List.mem_cons_of_mem _ hy))
    rw [List.length_erase_of_mem hx] at h2
    have:=List.length_pos_of_mem hx
    rw [List.length_cons]
    omega
theorem inV_str (z:Str) (l:List Str):inV (.str z) (l.map V.str)=decide (z∈l):=by
  unfold inV
  induction l with
  | nil=>rfl
  | cons x r ih =>
    rw [List.map_cons,List.any_cons,ih]
    show ((x == z) || _)=_
    by_cases h:x=z
    · subst h
      simp
    · have h':¬ z=x:=fun e=>h e.symm
      simp [h,h']
theorem strs_flat (l:List Str):(l.map V.str).all flatV=true:=by
  rw [List.all_eq_true]
  intro x hx
  obtain ⟨o,_,rfl⟩:=List.mem_map.mp hx
  rfl
end L2
namespace L2
open PySem PySem.Spec PyProof.Rows
section
variable {X:Cx} {CX:CXT} {k:Nat} {f:Addr} {fd:FuncData} {ps:List Str} {sp:Sp} {dvs:List V} {ds:List Value} {E:XK} {m:Str} {pos apos:Pos} {e o:Expr} {es:List Expr} {ta:TE} {t:TA}
def tMethD (K:PySem.W.Frag) (f:Addr) (m:Str) (sp:Sp) (dvs:List V) (E:XK) (ta:TE) (t:TA):TE:=fun σ H Q=>ta σ H fun x H1=>∃ C a dx fs,x=.ref a∧H1 a=some (.ins C dx fs)∧Cls K C∧Meth K C m f∧fs.lookup m=none∧t σ H1 fun vs H2=>sp (x::(vs++dvs)) H2 Q E
theorem pe_methD {pl:Sem Bool} (he:PE X o ta) (F:FnOk X.prog X.w X.K X.mg X.base CX k f fd ps sp) (hr:Room k X.A) (hb:Binds X.K fd ps ds) (hd:Vals dvs ds) (hx:Passes CX X E) (ha:PA X (e::es) t)
    (hst:starEach (e::es) X.env=(false,eval e X.env)::starEach es X.env:=by rfl) (hpl:(backTo pos (starEach es X.env)).any (·.1)=false:=by rfl)
    (ht:eval (.Call (.Attribute o m apos) (e::es) [] pos) X.env=(do let ov ← eval o X.env; standAt apos.atName; let (f,first) ← holding [ov] (getMethod ov m pl); callWith pos f first (backTo pos (starEach (e::es) X.env)) (backToKw pos (keywordEach [] X.env))):=by rfl) :
    PE X (.Call (.Attribute o m apos) (e::es) [] pos) (tMethD X.K f m sp dvs E ta t):=by
  intro pins s σ H Q I h
  refine PySem.W.methodCall_KW (pl:=pl) (thn (he pins s σ H _ I h) fun u s1 ⟨x,H1,I1,rx,C,a,dx,fs,ex,ea,c,hm,l,q⟩=>?_) ht
  subst ex; obtain rfl:u=Value.ref a:=rx
  refine getmeth_ok I1 ea c hm l ?_
  refine PySem.W.callWith_K (first:=[.ref a]) (h₀:=X.base) I.ok.mod.kin hm.kp (thn (ha pos pins s1 σ H1 _ I1 q) fun us s2 ⟨vs,H2,I2,r,q2⟩=>⟨I2.kIn,?_⟩) hst hpl
  exact run_fn (us:=.ref a::us) (vs:=.ref a::vs) F hr hb hd hx I2 (.cons rfl r) q2
end
end L2
namespace L2
open PySem PySem.Spec PyProof.Rows
def ItAt (tp:Bool) (h:Heap) (i l:Addr) (k:Nat) (xs:Array Value):Prop:=match tp with
  | false=>h.IsListIter i l k∧h.IsList l xs
  | true=>h.IsTupleIter i l k∧h.IsTuple l xs
theorem ItAt.at {tp:Bool} {h h':Heap} {i l:Addr} {k:Nat} {xs:Array Value} (a:ItAt tp h i l k xs) (k1:∀ o,h.get? i=some o→h'.get? i=some o) (k2:∀ o,h.get? l=some o→h'.get? l=some o):ItAt tp h' i l k xs:=by
  cases tp with
  | false=>exact ⟨a.1.at k1,a.2.at k2⟩
  | true=>obtain ⟨⟨o,e,r⟩,⟨o2,e2,r2⟩⟩:=a; exact ⟨⟨o,k1 o e,r⟩,⟨o2,k2 o2 e2,r2⟩⟩
theorem ItAt.ext {tp:Bool} {h h':Heap} {i l b:Addr} {k:Nat} {xs:Array Value} (a:ItAt tp h i l k xs) (x:Heap.ExtBut b h h') (n1:i≠b) (n2:l≠b):ItAt tp h' i l k xs:=a.at (fun o e=>x i o n1 e) (fun o e=>x l o n2 e)
section
variable {prog:Program} {w:World} {A:Around} {E:Value→Shared→Prop} {s:Shared}
theorem ItAt.nx {tp:Bool} {i l:Addr} {k:Nat} {xs:Array Value} {x:Value} {Q:Value→Shared→Prop} (a:ItAt tp s.heap i l k xs) (hne:l≠i) (c:xs[k]?=some x) (d:∀ h',ItAt tp h' i l (k+1) xs→Heap.SameBut i s.heap h'→Q x { s with heap:=h' }):wpAny (model prog w) A (Builtin.SmallTypes.nextOf (.ref i)) Q E s:=by
  cases tp with
  | false=>exact wpAny_nextOf_list_item a.1 a.2 c fun h' b sb=>d h' ⟨b,a.2.extBut sb.extBut hne⟩ sb
  | true=>exact nxT_item a.1 a.2 c fun h' b sb=>d h' ⟨b,a.2.extBut sb.extBut hne⟩ sb
theorem ItAt.nxE {tp:Bool} {i l:Addr} {k:Nat} {xs:Array Value} {Q:Value→Shared→Prop} (hh:A.handled=none) (a:ItAt tp s.heap i l k xs) (c:xs[k]?=none) (d:∀ h' e,Heap.ExtBut i s.heap h'→(∃ o,h'.get? e=some o∧o.cls=.type "StopIteration")→E (.ref e) { s with heap:=h' }):wpAny (model prog w) A (Builtin.SmallTypes.nextOf (.ref i)) Q E s:=by
  cases tp with
  | false=>exact wpAny_nextOf_list_end hh a.1 a.2 c d
  | true=>exact nxT_end hh a.1 a.2 c d
theorem zipX_item {t1 t2:Bool} {z TI TO i1 i2 l1 l2:Addr} {k1 k2:Nat} {xs ys:Array Value} {x y a b:Value} {Q:Value→Shared→Prop} (D:ZipApart z TI TO i1 i2 l1 l2) (gz:IsZip s.heap z TI TO .none) (gI:IsPair s.heap TI (.ref i1) (.ref i2)) (gO:IsPair s.heap TO a b)
    (g1:ItAt t1 s.heap i1 l1 k1 xs) (g2:ItAt t2 s.heap i2 l2 k2 ys) (hx:xs[k1]?=some x) (hy:ys[k2]?=some y) (d:∀ h',IsZip h' z TI TO (rawInt s.heap.objs.size)→IsPair h' TO x y→ItAt t1 h' i1 l1 (k1+1) xs→ItAt t2 h' i2 l2 (k2+1) ys→IsPair h' s.heap.objs.size x y→h'.objs.size=s.heap.objs.size+1→
      (∀ c o,c≠z→c≠TO→c≠i1→c≠i2→s.heap.get? c=some o→h'.get? c=some o)→Q (.ref s.heap.objs.size) { s with heap:=h' }):wpAny (model prog w) A (Builtin.«zip.__next__» ⟨[.ref z],[]⟩) (fun fin s'=>∃ v,fin=.done (.ret v)∧Q v s') E s:=by
  show wpAny _ _ (field (.ref z) 2 >>= _) _ _ _; refine wpAny_bind (wpAny_field gz rfl (x:=.bool false) rfl ?_)
  show wpAny _ _ (field (.ref z) 3 >>= _) _ _ _; refine wpAny_bind (wpAny_field gz rfl (x:=.ref TI) rfl ?_)
  refine wpAny_bind (wpAny_seqItems gI rfl ?_)
  show wpAny _ _ (Builtin.SmallTypes.ownedTupleIsFree (.ref z) >>= _) _ _ _; refine wpAny_bind ?_; unfold Builtin.SmallTypes.ownedTupleIsFree
  refine wpAny_bind (wpAny_field gz rfl (x:=.none) rfl (wpAny_pure ?_)); simp only [if_true]
  refine wpAny_bind (wpAny_rule ?_); refine wpAny_bind (wpAny_field gz rfl (x:=.ref TO) rfl ?_)
  refine wpAny_bind (wpAny_setField_rec gz (by simp) fun u1 gz1 s1=>?_); replace gz1:IsZip u1 z TI TO .ellipsis:=gz1
  refine wpAny_bind ?_; simp only [List.zipIdx_cons,List.zipIdx_nil,List.forIn_cons,List.forIn_nil]
  refine wpAny_bind (wpAny_bind (wpAny_onRaise ?_)); show wpAny _ _ (Builtin.SmallTypes.nextOf (.ref i1) >>= _) _ _ _
  refine wpAny_bind ((g1.ext s1.extBut D.i1z D.l1z).nx D.l1i1 hx fun u2 g12 s2=>wpAny_pure ?_)
  have gO2:IsPair u2 TO a b:=s2.extBut _ _ D.TOi1 (s1.extBut _ _ D.TOz gO)
  refine wpAny_bind (wpAny_seqItems gO2 rfl ?_); refine wpAny_bind (wpAny_updateSeq_pair gO2 fun u3 gO3 s3=>?_); replace gO3:IsPair u3 TO x b:=gO3
  refine wpAny_bind (wpAny_letGo (wpAny_pure ?_))
  refine wpAny_bind (wpAny_bind (wpAny_onRaise ?_)); show wpAny _ _ (Builtin.SmallTypes.nextOf (.ref i2) >>= _) _ _ _
  refine wpAny_bind ((((g2.ext s1.extBut D.i2z D.l2z).ext s2.extBut D.i12.symm D.l2i1).ext s3.extBut D.TOi2.symm D.l2TO).nx D.l2i2 hy fun u4 g24 s4=>wpAny_pure ?_)
  have gO4:IsPair u4 TO x b:=s4.extBut _ _ D.TOi2 gO3
  refine wpAny_bind (wpAny_seqItems gO4 rfl ?_); refine wpAny_bind (wpAny_updateSeq_pair gO4 fun u5 gO5 s5=>?_); replace gO5:IsPair u5 TO x y:=gO5
  refine wpAny_bind (wpAny_letGo (wpAny_pure (wpAny_pure ?_))); refine wpAny_bind (wpAny_seqItems gO5 rfl ?_); refine wpAny_bind (wpAny_newTuple ?_)
  have hsz:u5.objs.size=s.heap.objs.size:=by rw [s5.1,s4.1,s3.1,s2.1,s1.1]
  have gz5:IsZip u5 z TI TO .ellipsis:=s5.extBut _ _ D.TOz.symm (s4.extBut _ _ D.i2z.symm (s3.extBut _ _ D.TOz.symm (s2.extBut _ _ D.i1z.symm gz1)))
  have k5:∀ c o,c≠z→c≠TO→c≠i1→c≠i2→s.heap.get? c=some o→u5.get? c=some o:=fun c o c1 c2 c3 c4 e=>s5.extBut _ _ c2 (s4.extBut _ _ c4 (s3.extBut _ _ c2 (s2.extBut _ _ c3 (s1.extBut _ _ c1 e))))
  have g15:ItAt t1 u5 i1 l1 (k1+1) xs:=((g12.ext s3.extBut D.TOi1.symm D.l1TO).ext s4.extBut D.i12 D.l1i2).ext s5.extBut D.TOi1.symm D.l1TO
  have g25:ItAt t2 u5 i2 l2 (k2+1) ys:=g24.ext s5.extBut D.TOi2.symm D.l2TO
  have zlt:z<u5.objs.size:=Heap.lt_size gz5
  show wpAny _ _ (Builtin.SmallTypes.ownedTupleHandOut (.ref z) (.ref u5.objs.size) >>= _) _ _ _; refine wpAny_bind ?_; unfold Builtin.SmallTypes.ownedTupleHandOut
  have gz6:IsZip (u5.push { cls:=.type "tuple",data:=.seq #[x,y] }) z TI TO .ellipsis:=Heap.get?_push_of_some _ gz5
  refine wpAny_bind (wpAny_setField_rec gz6 (by simp) fun u7 gz7 s7=>?_); replace gz7:IsZip u7 z TI TO (rawInt u5.objs.size):=gz7
  refine wpAny_setField_rec gz7 (by simp) fun u8 gz8 s8=>?_; replace gz8:IsZip u8 z TI TO (rawInt u5.objs.size):=gz8
  have up:∀ c o,c≠z→u5.get? c=some o→u8.get? c=some o:=fun c o c1 e=>s8.extBut _ _ c1 (s7.extBut _ _ c1 (Heap.get?_push_of_some _ e))
  have gT:IsPair u8 u5.objs.size x y:=s8.extBut _ _ (Nat.ne_of_gt zlt) (s7.extBut _ _ (Nat.ne_of_gt zlt) (Heap.get?_push_size _ rfl))
  have z8:u8.objs.size=u5.objs.size+1:=by rw [s8.1,s7.1,Heap.size_push]
  rw [hsz] at gz8 gT z8
  refine wpAny_pure ⟨_,rfl,?_⟩; show Q (.ref u5.objs.size) _; rw [hsz]
  exact d u8 gz8 (up _ _ D.TOz gO5) (g15.at (fun o e=>up _ o D.i1z e) fun o e=>up _ o D.l1z e) (g25.at (fun o e=>up _ o D.i2z e) fun o e=>up _ o D.l2z e) gT z8 fun c o c1 c2 c3 c4 e=>up c o c1 (k5 c o c1 c2 c3 c4 e)
theorem zipX_end {t1 t2:Bool} {z TI TO i1 i2 l1 l2:Addr} {k1 k2:Nat} {xs ys:Array Value} {a b:Value} {Q:Fin→Shared→Prop} (hh:A.handled=none) (D:ZipApart z TI TO i1 i2 l1 l2) (gz:IsZip s.heap z TI TO .none) (gI:IsPair s.heap TI (.ref i1) (.ref i2)) (gO:IsPair s.heap TO a b)
    (g1:ItAt t1 s.heap i1 l1 k1 xs) (g2:ItAt t2 s.heap i2 l2 k2 ys) (hend:xs[k1]?=none∨ys[k2]?=none)
    (d:∀ h' e,(∀ c o,c≠z→c≠TO→c≠i1→c≠i2→s.heap.get? c=some o→h'.get? c=some o)→(∃ o,h'.get? e=some o∧o.cls=.type "StopIteration")→E (.ref e) { s with heap:=h' }):wpAny (model prog w) A (Builtin.«zip.__next__» ⟨[.ref z],[]⟩) Q E s:=by
  show wpAny _ _ (field (.ref z) 2 >>= _) _ _ _; refine wpAny_bind (wpAny_field gz rfl (x:=.bool false) rfl ?_)
  show wpAny _ _ (field (.ref z) 3 >>= _) _ _ _; refine wpAny_bind (wpAny_field gz rfl (x:=.ref TI) rfl ?_)
  refine wpAny_bind (wpAny_seqItems gI rfl ?_)
  show wpAny _ _ (Builtin.SmallTypes.ownedTupleIsFree (.ref z) >>= _) _ _ _; refine wpAny_bind ?_; unfold Builtin.SmallTypes.ownedTupleIsFree
  refine wpAny_bind (wpAny_field gz rfl (x:=.none) rfl (wpAny_pure ?_)); simp only [if_true]
  refine wpAny_bind (wpAny_rule ?_); refine wpAny_bind (wpAny_field gz rfl (x:=.ref TO) rfl ?_)
  refine wpAny_bind (wpAny_setField_rec gz (by simp) fun u1 gz1 s1=>?_); replace gz1:IsZip u1 z TI TO .ellipsis:=gz1
  refine wpAny_bind ?_; simp only [List.zipIdx_cons,List.zipIdx_nil,List.forIn_cons,List.forIn_nil]
  refine wpAny_bind (wpAny_bind (wpAny_onRaise ?_)); show wpAny _ _ (Builtin.SmallTypes.nextOf (.ref i1) >>= _) _ _ _
  cases hx:xs[k1]? with
  | none =>
    refine wpAny_bind ((g1.ext s1.extBut D.i1z D.l1z).nxE hh hx fun u2 e s2 he=>?_)
    obtain ⟨oe,hoe,hce⟩:=he
    have gz2:IsZip u2 z TI TO .ellipsis:=s2 _ _ D.i1z.symm gz1
    have hez:e≠z:=fun x=>by subst x; rw [gz2] at hoe; cases hoe; simp at hce
    refine wpAny_setField_rec gz2 (by simp) fun u3 _ s3=>d u3 e (fun c o c1 _ c3 _ x=>s3.extBut _ _ c1 (s2 _ _ c3 (s1.extBut _ _ c1 x))) ⟨oe,s3.extBut _ _ hez hoe,hce⟩
  | some x =>
    have hy:ys[k2]?=none:=by rcases hend with h | h; rw [hx] at h; cases h; exact h
    refine wpAny_bind ((g1.ext s1.extBut D.i1z D.l1z).nx D.l1i1 hx fun u2 g12 s2=>wpAny_pure ?_)
    have gO2:IsPair u2 TO a b:=s2.extBut _ _ D.TOi1 (s1.extBut _ _ D.TOz gO)
    refine wpAny_bind (wpAny_seqItems gO2 rfl ?_); refine wpAny_bind (wpAny_updateSeq_pair gO2 fun u3 gO3 s3=>?_)
    refine wpAny_bind (wpAny_letGo (wpAny_pure ?_)); refine wpAny_bind (wpAny_bind (wpAny_onRaise ?_)); show wpAny _ _ (Builtin.SmallTypes.nextOf (.ref i2) >>= _) _ _ _
    refine wpAny_bind ((((g2.ext s1.extBut D.i2z D.l2z).ext s2.extBut D.i12.symm D.l2i1).ext s3.extBut D.TOi2.symm D.l2TO).nxE hh hy fun u4 e s4 he=>?_)
    obtain ⟨oe,hoe,hce⟩:=he
    have gz4:IsZip u4 z TI TO .ellipsis:=s4 _ _ D.i2z.symm (s3.extBut _ _ D.TOz.symm (s2.extBut _ _ D.i1z.symm gz1))
    have hez:e≠z:=fun x=>by subst x; rw [gz4] at hoe; cases hoe; simp at hce
    refine wpAny_setField_rec gz4 (by simp) fun u5 _ s5=>d u5 e (fun c o c1 c2 c3 c4 x=>s5.extBut _ _ c1 (s4 _ _ c4 (s3.extBut _ _ c2 (s2.extBut _ _ c3 (s1.extBut _ _ c1 x))))) ⟨oe,s5.extBut _ _ hez hoe,hce⟩
theorem nextZ_item {t1 t2:Bool} {z TI TO i1 i2 l1 l2:Addr} {k1 k2:Nat} {xs ys:Array Value} {x y a b:Value} {Q:Option Value→Shared→Prop} (D:ZipApart z TI TO i1 i2 l1 l2) (gz:IsZip s.heap z TI TO .none) (gI:IsPair s.heap TI (.ref i1) (.ref i2)) (gO:IsPair s.heap TO a b)
    (g1:ItAt t1 s.heap i1 l1 k1 xs) (g2:ItAt t2 s.heap i2 l2 k2 ys) (hx:xs[k1]?=some x) (hy:ys[k2]?=some y) (d:∀ h',IsZip h' z TI TO (rawInt s.heap.objs.size)→IsPair h' TO x y→ItAt t1 h' i1 l1 (k1+1) xs→ItAt t2 h' i2 l2 (k2+1) ys→IsPair h' s.heap.objs.size x y→h'.objs.size=s.heap.objs.size+1→
      (∀ c o,c≠z→c≠TO→c≠i1→c≠i2→s.heap.get? c=some o→h'.get? c=some o)→Q (some (.ref s.heap.objs.size)) { s with heap:=h' }):wpAny (model prog w) A (pyNext (.ref z)) Q E s:=by
  have hT:s.TypeIs (.ref z) "zip":=⟨_,gz,rfl⟩; unfold pyNext
  exact wpAny_bind (wpAny_attempt (wpAny_callSpecial?_slot (name:=Str.ofString "__next__") hT F.slot_zip_next (wpAny_call_entry F.slot_zip_next hT F.entry_zip_next (zipX_item D gz gI gO g1 g2 hx hy fun h' a1 a2 a3 a4 a5 a6 a7=>wpAny_pure (d h' a1 a2 a3 a4 a5 a6 a7)) (F.args_zip_next_1 _))))
theorem nextZ_end {t1 t2:Bool} {z TI TO i1 i2 l1 l2:Addr} {k1 k2:Nat} {xs ys:Array Value} {a b:Value} {Q:Option Value→Shared→Prop} (hh:A.handled=none) (D:ZipApart z TI TO i1 i2 l1 l2) (gz:IsZip s.heap z TI TO .none) (gI:IsPair s.heap TI (.ref i1) (.ref i2)) (gO:IsPair s.heap TO a b)
    (g1:ItAt t1 s.heap i1 l1 k1 xs) (g2:ItAt t2 s.heap i2 l2 k2 ys) (hend:xs[k1]?=none∨ys[k2]?=none) (d:∀ h',(∀ c o,c≠z→c≠TO→c≠i1→c≠i2→s.heap.get? c=some o→h'.get? c=some o)→Q none { s with heap:=h' }):wpAny (model prog w) A (pyNext (.ref z)) Q E s:=by
  have hT:s.TypeIs (.ref z) "zip":=⟨_,gz,rfl⟩; unfold pyNext
  refine wpAny_bind (wpAny_attempt (wpAny_callSpecial?_slot (name:=Str.ofString "__next__") hT F.slot_zip_next (wpAny_call_entry F.slot_zip_next hT F.entry_zip_next (zipX_end hh D gz gI gO g1 g2 hend fun h' e hk he=>?_) (F.args_zip_next_1 _))))
  obtain ⟨o,ho,hc⟩:=he; refine wpAny_bind (wpAny_isInstance (T:="StopIteration") (b:=true) ⟨o,ho,hc⟩ isSubtype_stop ?_); exact wpAny_pure (d _ hk)
abbrev itCls (tp:Bool):String:=if tp then "tuple_iterator" else "list_iterator"
def SeqOf (tp:Bool) (h:Heap) (l:Addr) (xs:Array Value):Prop:=match tp with
  | false=>h.IsList l xs
  | true=>h.IsTuple l xs
abbrev zP (h:Heap) (tp:Bool) (l:Addr):Heap:=h.push { cls:=.type (itCls tp),data:=.fields #[.ref l,.int 0 0] }
abbrev zQ (h:Heap) (t1 t2:Bool) (l1 l2:Addr):Heap:=(zP (zP h t1 l1) t2 l2).push { cls:=.type "tuple",data:=.seq #[.ref h.objs.size,.ref (zP h t1 l1).objs.size] }
abbrev zR (h:Heap) (t1 t2:Bool) (l1 l2:Addr):Heap:=(zQ h t1 t2 l1 l2).push { cls:=.type "tuple",data:=.seq #[.none,.none] }
abbrev zS (h:Heap) (t1 t2:Bool) (l1 l2:Addr):Heap:=(zR h t1 t2 l1 l2).push { cls:=.type "zip",data:=.fields #[.none,.bool false,.bool false,.ref (zP (zP h t1 l1) t2 l2).objs.size,.ref (zQ h t1 t2 l1 l2).objs.size] }
theorem meets_zipX (t1 t2:Bool) (l1 l2:Addr) (xs ys:Array Value):Meets (Builtin.«zip.__new__» ⟨[.type "zip",.ref l1,.ref l2],[]⟩) (fun _ R s=>SeqOf t1 s.heap l1 xs∧SeqOf t2 s.heap l2 ys∧R (.ok (.ret (.ref (zR s.heap t1 t2 l1 l2).objs.size))) { s with heap:=zS s.heap t1 t2 l1 l2 }) :=
  .of_wp fun prog w A R s h=>by
    obtain ⟨hp,g,d,tk,os⟩:=s; obtain ⟨g1,g2,h⟩:=h
    have sb:=sub_zip
    cases t1 <;> cases t2
    · have a1:Heap.IsList (Shared.heap ⟨hp,g,d,tk,os⟩) l1 xs:=g1
      have a2:Heap.IsList (Shared.heap ⟨hp.push { cls:=.type "list_iterator",data:=.fields #[.ref l1,.int 0 0] },g,d,tk,os⟩) l2 ys:=Heap.IsList.push g2 _
      wp_walk using wpAny_pyIter_list a1,wpAny_pyIter_list a2; exact ⟨_,rfl,h⟩
    · have a1:Heap.IsList (Shared.heap ⟨hp,g,d,tk,os⟩) l1 xs:=g1
      have a2:Heap.IsTuple (Shared.heap ⟨hp.push { cls:=.type "list_iterator",data:=.fields #[.ref l1,.int 0 0] },g,d,tk,os⟩) l2 ys:=by obtain ⟨o,e,r⟩:=g2; exact ⟨o,Heap.get?_push_of_some _ e,r⟩
      wp_walk using wpAny_pyIter_list a1,wpAny_pyIter_tuple a2; exact ⟨_,rfl,h⟩
    · have a1:Heap.IsTuple (Shared.heap ⟨hp,g,d,tk,os⟩) l1 xs:=g1
      have a2:Heap.IsList (Shared.heap ⟨hp.push { cls:=.type "tuple_iterator",data:=.fields #[.ref l1,.int 0 0] },g,d,tk,os⟩) l2 ys:=Heap.IsList.push g2 _
      wp_walk using wpAny_pyIter_tuple a1,wpAny_pyIter_list a2; exact ⟨_,rfl,h⟩
    · have a1:Heap.IsTuple (Shared.heap ⟨hp,g,d,tk,os⟩) l1 xs:=g1
      have a2:Heap.IsTuple (Shared.heap ⟨hp.push { cls:=.type "tuple_iterator",data:=.fields #[.ref l1,.int 0 0] },g,d,tk,os⟩) l2 ys:=by obtain ⟨o,e,r⟩:=g2; exact ⟨o,Heap.get?_push_of_some _ e,r⟩
      wp_walk using wpAny_pyIter_tuple a1,wpAny_pyIter_tuple a2; exact ⟨_,rfl,h⟩
theorem itAt_new {tp:Bool} {h h':Heap} {i l:Addr} {xs:Array Value} (g:SeqOf tp h l xs) (e:h'.get? i=some { cls:=.type (itCls tp),data:=.fields #[.ref l,.int 0 0] }) (k:∀ c o,h.get? c=some o→h'.get? c=some o):ItAt tp h' i l 0 xs:=by
  cases tp with
  | false=>exact ⟨⟨_,e,rfl,rfl⟩,g.at fun o x=>k _ o x⟩
  | true=>obtain ⟨o,x,r⟩:=g; exact ⟨⟨_,e,rfl,rfl⟩,⟨o,k _ o x,r⟩⟩
theorem call_zipX {t1 t2:Bool} {l1 l2:Addr} {xs ys:Array Value} {Q:Value→Shared→Prop} (g1:SeqOf t1 s.heap l1 xs) (g2:SeqOf t2 s.heap l2 ys)
    (k:∀ h',IsZip h' (s.heap.objs.size+4) (s.heap.objs.size+2) (s.heap.objs.size+3) .none→IsPair h' (s.heap.objs.size+2) (.ref s.heap.objs.size) (.ref (s.heap.objs.size+1))→IsPair h' (s.heap.objs.size+3) .none .none→ItAt t1 h' s.heap.objs.size l1 0 xs→ItAt t2 h' (s.heap.objs.size+1) l2 0 ys→
      (∀ c o,s.heap.get? c=some o→h'.get? c=some o)→Q (.ref (s.heap.objs.size+4)) { s with heap:=h' }):wpAny (model prog w) A (call (.type "zip") [.ref l1,.ref l2]) Q E s:=by
  refine callType_new F.called_zip (by decide) (F.typeCall_zip_2 _ _) (F.newCall_zip_2 _ _) (fun obj=>F.args_object_init_3 obj _ _) F.entry_zip_new (meets_zipX t1 t2 l1 l2 xs ys) ⟨g1,g2,?_⟩
  have z1:(zP s.heap t1 l1).objs.size=s.heap.objs.size+1:=Heap.size_push ..
  have z2:(zP (zP s.heap t1 l1) t2 l2).objs.size=s.heap.objs.size+2:=by rw [Heap.size_push,z1]
  have z3:(zQ s.heap t1 t2 l1 l2).objs.size=s.heap.objs.size+3:=by rw [Heap.size_push,z2]
  have z4:(zR s.heap t1 t2 l1 l2).objs.size=s.heap.objs.size+4:=by rw [Heap.size_push,z3]
  have e5:(zS s.heap t1 t2 l1 l2).get? (zR s.heap t1 t2 l1 l2).objs.size=some _:=Heap.get?_push_size _ rfl
  have e4:(zS s.heap t1 t2 l1 l2).get? (zQ s.heap t1 t2 l1 l2).objs.size=some _:=Heap.get?_push_of_some _ (Heap.get?_push_size _ rfl)
  have e3:(zS s.heap t1 t2 l1 l2).get? (zP (zP s.heap t1 l1) t2 l2).objs.size=some _:=Heap.get?_push_of_some _ (Heap.get?_push_of_some _ (Heap.get?_push_size _ rfl))
  have e2:(zS s.heap t1 t2 l1 l2).get? (zP s.heap t1 l1).objs.size=some _:=Heap.get?_push_of_some _ (Heap.get?_push_of_some _ (Heap.get?_push_of_some _ (Heap.get?_push_size _ rfl)))
  have e1:(zS s.heap t1 t2 l1 l2).get? s.heap.objs.size=some _:=Heap.get?_push_of_some _ (Heap.get?_push_of_some _ (Heap.get?_push_of_some _ (Heap.get?_push_of_some _ (Heap.get?_push_size _ rfl))))
  show _∧_
  rw [z2,z3,z4] at e5; rw [z1,z2] at e3; rw [z3] at e4; rw [z1] at e2; rw [z4]
  have up:∀ c o,s.heap.get? c=some o→(zS s.heap t1 t2 l1 l2).get? c=some o:=fun c o x=>Heap.get?_push_of_some _ (Heap.get?_push_of_some _ (Heap.get?_push_of_some _ (Heap.get?_push_of_some _ (Heap.get?_push_of_some _ x))))
  exact ⟨⟨_,e5,rfl⟩,k _ e5 e3 e4 (itAt_new g1 e1 up) (itAt_new g2 e2 up) up⟩
end
end L2
namespace L2
open PySem PySem.Spec PyProof.Rows
def SqX (tp:Bool) (K:PySem.W.Frag) (H:Hp) (a:Addr) (xs:List V):Prop:=match tp with
  | false=>SqL K H a xs
  | true=>SqT K H a xs
theorem Inv.seqX {X:Cx} {pins:List (Addr×Obj)} {σ:St} {H:Hp} {s:Shared} {tp:Bool} {a:Addr} {xs:List V} (I:Inv X pins σ H s) (h:SqX tp X.K H a xs):∃ its:List Value,Vals xs its∧SeqOf tp s.heap a its.toArray:=by
  cases tp with
  | false=>obtain ⟨its,r,p,_⟩:=I.list h; exact ⟨its,r,p.isList⟩
  | true=>obtain ⟨its,r,p,_⟩:=I.tuple h; exact ⟨its,r,IsTup.tup p⟩
def IteZ (K:PySem.W.Frag) (t1 t2:Bool) (a b:Addr):It :=
  ⟨fun i H=>∃ xs ys x y,SqX t1 K H a xs∧SqX t2 K H b ys∧xs[i]?=some x∧ys[i]?=some y,
   fun i H v H'=>∃ T x y,H T=none∧H'=upd H T (.tup [x,y])∧v=.ref T∧∀ xs ys,SqX t1 K H a xs→SqX t2 K H b ys→xs[i]?=some x∧ys[i]?=some y,
   fun i H=>∃ xs ys,SqX t1 K H a xs∧SqX t2 K H b ys∧(xs[i]?=none∨ys[i]?=none)⟩
def IterAt (tp:Bool) (h:Heap) (i l:Addr) (k:Nat):Prop:=match tp with
  | false=>h.IsListIter i l k
  | true=>h.IsTupleIter i l k
theorem IterAt.it {tp:Bool} {h:Heap} {i l:Addr} {k:Nat} {xs:Array Value} (a:IterAt tp h i l k) (b:SeqOf tp h l xs):ItAt tp h i l k xs:=by
  cases tp with
  | false=>exact ⟨a,b⟩
  | true=>exact ⟨a,b⟩
theorem ItAt.iter {tp:Bool} {h:Heap} {i l:Addr} {k:Nat} {xs:Array Value} (a:ItAt tp h i l k xs):IterAt tp h i l k:=by
  cases tp with
  | false=>exact a.1
  | true=>exact a.1
theorem IterAt.at {tp:Bool} {h h':Heap} {i l:Addr} {k:Nat} (a:IterAt tp h i l k) (k1:∀ o,h.get? i=some o→h'.get? i=some o):IterAt tp h' i l k:=by
  cases tp with
  | false=>obtain ⟨o,e,r⟩:=a; exact ⟨o,k1 o e,r⟩
  | true=>obtain ⟨o,e,r⟩:=a; exact ⟨o,k1 o e,r⟩
theorem IterAt.obj {tp:Bool} {h:Heap} {i l:Addr} {k:Nat} (a:IterAt tp h i l k):∃ o,h.get? i=some o∧∀ v,o.data≠.cell v:=by
  cases tp with
  | false=>obtain ⟨o,e,_,d⟩:=a; exact ⟨o,e,fun v q=>by rw [d] at q; cases q⟩
  | true=>obtain ⟨o,e,_,d⟩:=a; exact ⟨o,e,fun v q=>by rw [d] at q; cases q⟩
theorem sqX_inj {X:Cx} {pins:List (Addr×Obj)} {σ:St} {H:Hp} {s:Shared} {tp:Bool} {a:Addr} {xs ys:List V} (I:Inv X pins σ H s) (h1:SqX tp X.K H a xs) (h2:SqX tp X.K H a ys):xs=ys:=by
  cases tp with
  | false=>exact I.list_inj h1 h2
  | true=>exact I.tuple_inj h1 h2
theorem turn_zip {P:Program} {w:World} {K:PySem.W.Frag} {elts:List Expr} {x1:Nat} {tp:Pos} {t1 t2:Bool} {a b z TI TO i1 i2:Addr} (D:ZipApart z TI TO i1 i2 a b) :
    Turn P w K (.Tuple elts x1 tp) (IteZ K t1 t2 a b) [z,TI,TO,i1,i2] z (fun i h=>IsZip h z TI TO .none∧IsPair h TI (.ref i1) (.ref i2)∧(∃ u v,IsPair h TO u v)∧IterAt t1 h i1 a i∧IterAt t2 h i2 b i) where
  mem:=by simp
  obj:=fun i h st c hc=>by
    obtain ⟨h1,h2,⟨u,v,h3⟩,h4,h5⟩:=st
    simp only [List.mem_cons,List.not_mem_nil,or_false] at hc
    rcases hc with rfl | rfl | rfl | rfl | rfl
    · exact ⟨_,h1,fun v q=>nomatch q⟩
    · exact ⟨_,h2,fun v q=>nomatch q⟩
    · exact ⟨_,h3,fun v q=>nomatch q⟩
    · exact h4.obj
    · exact h5.obj
  keep:=fun i h h' st k=>by
    obtain ⟨h1,h2,⟨u,v,h3⟩,h4,h5⟩:=st
    exact ⟨k z (by simp) _ h1,k TI (by simp) _ h2,⟨u,v,k TO (by simp) _ h3⟩,h4.at fun o e=>k i1 (by simp) o e,h5.at fun o e=>k i2 (by simp) o e⟩
  item:=by
    intro X hP hw hK hc i pins s σ H E I hf st hg
    subst hP hw hK
    obtain ⟨xs,ys,x,y,hxs,hys,hx,hy⟩:=hg
    obtain ⟨us,r1,q1⟩:=I.seqX hxs
    obtain ⟨ws,r2,q2⟩:=I.seqX hys
    obtain ⟨u,hu,ru⟩:=r1.get hx
    obtain ⟨v,hv,rv⟩:=r2.get hy
    obtain ⟨h1,h2,⟨o1,o2,h3⟩,h4,h5⟩:=st
    refine nextZ_item D h1 h2 h3 (h4.it q1) (h5.it q2) (x:=u) (y:=v) (by simpa using hu) (by simpa using hv) fun h' b1 b2 b3 b4 b5 b6 b7=>?_
    refine ⟨_,rfl,?_⟩
    refine wpAny_letOwnedTupleGo_zip b1 fun h6 c1 c2=>?_
    have lt:∀ {c o},s.heap.get? c=some o→c≠s.heap.objs.size:=fun e=>Nat.ne_of_lt (Heap.lt_size e)
    have zlt:s.heap.objs.size≠z:=Ne.symm (lt h1)
    have k2:∀ c o,c∉[z,TI,TO,i1,i2]→s.heap.get? c=some o→h6.get? c=some o:=fun c o hc' q=>by
      have n1:c≠z:=fun e=>hc' (by simp [e])
      exact (c2.2 c n1).trans (b7 c o n1 (fun e=>hc' (by simp [e])) (fun e=>hc' (by simp [e])) (fun e=>hc' (by simp [e])) q)
    have t2:h6.get? s.heap.objs.size=some { cls:=.type "tuple",data:=.seq #[u,v] }:=(c2.2 _ zlt).trans b5
    have hn:H s.heap.objs.size=none:=I.hok.fresh (Nat.le_refl _)
    have new:ObjOk X.prog X.w (upd H s.heap.objs.size (.tup [x,y])) h6 s.heap.objs.size (.tup [x,y]):=⟨by simp only [List.length_cons,List.length_nil]; rw [sizeLine_eq]; decide,[u,v],.cons ru (.cons rv .nil),⟨_,t2,rfl,_,rfl⟩⟩
    have I2:Inv X pins σ (upd H s.heap.objs.size (.tup [x,y])) { s with heap:=h6,toks:=s.toks }:=I.turnedNew k2 hf (Nat.le_refl _) new
    refine ⟨.ref s.heap.objs.size,_,I2,rfl,⟨s.heap.objs.size,x,y,hn,rfl,rfl,fun xs' ys' hx' hy'=>⟨by rw [sqX_inj I hx' hxs]; exact hx,by rw [sqX_inj I hy' hys]; exact hy⟩⟩,⟨c1,(c2.2 _ D.TIz).trans (b7 _ _ D.TIz D.TITO D.TIi1 D.TIi2 h2),⟨_,_,(c2.2 _ D.TOz).trans b2⟩,b3.iter.at fun o e=>(c2.2 _ D.i1z).trans e,b4.iter.at fun o e=>(c2.2 _ D.i2z).trans e⟩,fun c hc'=>?_⟩
    have hne:c≠s.heap.objs.size:=by
      simp only [List.mem_cons,List.not_mem_nil,or_false] at hc'
      rcases hc' with rfl | rfl | rfl | rfl | rfl
      · exact lt h1
      · exact lt h2
      · exact lt h3
      · obtain ⟨o,e,_⟩:=h4.obj; exact lt e
      · obtain ⟨o,e,_⟩:=h5.obj; exact lt e
    rw [upd_ne hne]
    exact (hf c hc').1
  done:=by
    intro X hP hw hK hc i pins s σ H E I hf st hg
    subst hP hw hK
    obtain ⟨xs,ys,hxs,hys,hend⟩:=hg
    obtain ⟨us,r1,q1⟩:=I.seqX hxs
    obtain ⟨ws,r2,q2⟩:=I.seqX hys
    obtain ⟨h1,h2,⟨o1,o2,h3⟩,h4,h5⟩:=st
    have e1:=r1.length
    have e2:=r2.length
    refine nextZ_end (show X.A.handled=none from I.ok.hd hc) D h1 h2 h3 (h4.it q1) (h5.it q2) ?_ fun h' k=>⟨rfl,?_⟩
    · rcases hend with h | h
      · refine .inl ?_
        have:=List.getElem?_eq_none_iff.mp h
        simp
        omega
      · refine .inr ?_
        have:=List.getElem?_eq_none_iff.mp h
        simp
        omega
    · exact I.turnedL (t':=s.toks) (fun c o hc' q=>k c o (fun e=>hc' (by simp [e])) (fun e=>hc' (by simp [e])) (fun e=>hc' (by simp [e])) (fun e=>hc' (by simp [e])) q) hf
  self:=fun _ _ _ _ _ st h=>wpAny_pyIter_zip st.1 h
section
variable {X:Cx}
def iZip (K:PySem.W.Frag) (t1 t2:Bool) (ta:TA):TI:=fun σ H R=>ta σ H fun vs H1=>∃ a b,vs=[.ref a,.ref b]∧(∃ xs,SqX t1 K H1 a xs)∧(∃ ys,SqX t2 K H1 b ys)∧R (IteZ K t1 t2 a b) H1
theorem pi_zip (t1 t2:Bool) {a b:Expr} {ta:TA} {p pos tp:Pos} {elts:List Expr} {x1:Nat} (hg:Gl X "zip") (hm:X.mg "zip"=none) (ha:PA X [a,b] ta) (hs:starEach [a,b] X.env=(false,eval a X.env)::starEach [b] X.env:=by rfl) (hpl:(backTo pos (starEach [b] X.env)).any (·.1)=false:=by rfl) :
    PI X (.Tuple elts x1 tp) (.Call (.Name "zip" p) [a,b] [] pos) (iZip X.K t1 t2 ta):=by
  intro pins s σ H R I h
  refine Call_ (ld_blt I hg hm PyProof.Rows.boot_zip (PyProof.Rows.callWith_type1 (thn (ha pos pins s σ H _ I h) fun us s1 ⟨vs,H1,I1,r1,q1⟩=>?_) hs hpl))
  obtain ⟨l1,l2,e,⟨xs,hx⟩,⟨ys,hy⟩,q⟩:=q1
  subst e
  obtain ⟨u,v,rfl,ru,rv⟩:=vals2 r1
  cases ru
  cases rv
  obtain ⟨us,_,g1⟩:=I1.seqX hx
  obtain ⟨ws,_,g2⟩:=I1.seqX hy
  have lt:∀ {tp:Bool} {l:Addr} {zs:Array Value},SeqOf tp s1.heap l zs→l<s1.heap.objs.size:=fun {tp} {l} {zs} g=>by
    cases tp with
    | false=>obtain ⟨o,z,_⟩:=g; exact Heap.lt_size z
    | true=>obtain ⟨o,z,_⟩:=g; exact Heap.lt_size z
  refine call_zipX g1 g2 fun h' b1 b2 b3 b4 b5 hk=>?_
  refine wpAny_pyIter_zip b1 ?_
  have hfp:∀ c∈[s1.heap.objs.size+4,s1.heap.objs.size+2,s1.heap.objs.size+3,s1.heap.objs.size,s1.heap.objs.size+1],FpOk X pins H1 c:=fun c hc=>by
    have hge:s1.heap.objs.size≤c:=by
      simp only [List.mem_cons,List.not_mem_nil,or_false] at hc
      omega
    exact I1.fpOk hge (I1.hok.fresh hge)
  exact ⟨s1.heap.objs.size+4,_,_,_,H1,rfl,I1.kept (t':=s1.toks) hk,turn_zip (zipApart_new (lt g1) (lt g2)),⟨b1,b2,⟨_,_,b3⟩,b4.iter,b5.iter⟩,hfp,q⟩
end
theorem for_zip {K:PySem.W.Frag} {t1 t2:Bool} {a b:Addr} {xs ys:List V} {g:TG} {tb:TS} {D:Ends} {σ:St} {H:Hp} (Pv:Nat→St→Hp→Prop) (h0:Pv 0 σ H) (hl:∀ i σ H,i≤min xs.length ys.length→Pv i σ H→SqX t1 K H a xs∧SqX t2 K H b ys)
    (hs:∀ i x y σ H T,xs[i]?=some x→ys[i]?=some y→Pv i σ H→H T=none→g (.ref T) σ (upd H T (.tup [x,y])) fun σ2 H2=>tb { D with nx:=Pv (i+1),ct:=Pv (i+1),bk:=D.nx } σ2 H2) (hd:∀ σ H,Pv (min xs.length ys.length) σ H→D.nx σ H) :
    ∃ W:Nat→Nat→St→Hp→Prop,(∃ m,W 0 m σ H)∧∀ i m σ H,W i m σ H→((IteZ K t1 t2 a b).stop i H∧D.nx σ H)∨((IteZ K t1 t2 a b).go i H∧∃ N:St→Hp→Prop,(∀ σ' H',N σ' H'→∃ m',m'<m∧W (i+1) m' σ' H')∧∀ x H',(IteZ K t1 t2 a b).yld i H x H'→g x σ H' fun σ2 H2=>tb { D with nx:=N,ct:=N,bk:=D.nx } σ2 H2):=by
  refine ⟨fun i m σ H=>m=min xs.length ys.length - i∧i≤min xs.length ys.length∧Pv i σ H,⟨min xs.length ys.length,by simp,Nat.zero_le _,h0⟩,?_⟩
  rintro i m σ H ⟨rfl,hi,p⟩
  obtain ⟨q1,q2⟩:=hl i σ H hi p
  by_cases hlt:i<min xs.length ys.length
  · have e1:=List.getElem?_eq_getElem (show i<xs.length by omega)
    have e2:=List.getElem?_eq_getElem (show i<ys.length by omega)
    refine .inr ⟨⟨xs,ys,_,_,q1,q2,e1,e2⟩,Pv (i+1),fun σ' H' p'=>⟨min xs.length ys.length - (i+1),by omega,rfl,hlt,p'⟩,fun v H' y=>?_⟩
    obtain ⟨T,x,y,hT,z1,z2,z3⟩:=y
    subst z1 z2
    obtain ⟨z4,z5⟩:=z3 xs ys q1 q2
    exact hs i x y σ H T z4 z5 p hT
  · have e:i=min xs.length ys.length:=by omega
    refine .inl ⟨⟨xs,ys,q1,q2,?_⟩,hd σ H (by rw [← e]; exact p)⟩
    by_cases hx:i<xs.length
    · exact .inr (List.getElem?_eq_none (by omega))
    · exact .inl (List.getElem?_eq_none (by omega))
theorem comp_zip {K:PySem.W.Frag} {t1 t2:Bool} {a b:Addr} {xs ys:List V} {g:TG} {tt:TT} {te:TE} {nv:Nat} {ix:List Nat} {σ:St} {D:Addr} {H:Hp} {Q:VK} (Pv:Nat→List V→Hp→Prop) (h0:Pv 0 [] (upd H D (.lst []))) (hl:∀ i zs H,i≤min xs.length ys.length→Pv i zs H→SqX t1 K H a xs∧SqX t2 K H b ys)
    (hs:∀ i x y zs H T,xs[i]?=some x→ys[i]?=some y→Pv i zs H→H D=some (.lst zs)→H T=none→g (.ref T) (capσ nv ix σ) (upd H T (.tup [x,y])) fun σ2 H3=>σ2.drop nv=(capσ nv ix σ).drop nv∧tt σ2 H3 fun b H4 =>
      if b=true then te σ2 H4 fun v H5=>∃ zs,H5 D=some (.lst zs)∧zs.length<sizeLine∧(∃ ys',Pv (i+1) ys' (upd H5 D (.lst (zs++[v])))∧(upd H5 D (.lst (zs++[v]))) D=some (.lst ys')) else ∃ ys',Pv (i+1) ys' H4∧H4 D=some (.lst ys'))
    (hd:∀ zs H,Pv (min xs.length ys.length) zs H→H D=some (.lst zs)→Q (.ref D) H):CompAt (IteZ K t1 t2 a b) g tt te nv ix σ Q H D:=by
  refine ⟨fun i m H2=>m=min xs.length ys.length - i∧i≤min xs.length ys.length∧∃ zs,Pv i zs H2∧H2 D=some (.lst zs),⟨min xs.length ys.length,by simp,Nat.zero_le _,[],h0,upd_same⟩,?_⟩
  rintro i m H2 ⟨rfl,hi,zs,p,hD⟩
  obtain ⟨q1,q2⟩:=hl i zs H2 hi p
  by_cases hlt:i<min xs.length ys.length
  · have e1:=List.getElem?_eq_getElem (show i<xs.length by omega)
    have e2:=List.getElem?_eq_getElem (show i<ys.length by omega)
    refine .inr ⟨⟨xs,ys,_,_,q1,q2,e1,e2⟩,fun H'=>∃ zs,Pv (i+1) zs H'∧H' D=some (.lst zs),fun H' p'=>⟨min xs.length ys.length - (i+1),by omega,rfl,hlt,p'⟩,fun v H' y=>?_⟩
    obtain ⟨T,x,y,hT,z1,z2,z3⟩:=y
    subst z1 z2
    obtain ⟨z4,z5⟩:=z3 xs ys q1 q2
    exact hs i x y zs H2 T z4 z5 p hD hT
  · have e:i=min xs.length ys.length:=by omega
    refine .inl ⟨⟨xs,ys,q1,q2,?_⟩,hd zs H2 (by rw [← e]; exact p) hD⟩
    by_cases hx:i<xs.length
    · exact .inr (List.getElem?_eq_none (by omega))
    · exact .inl (List.getElem?_eq_none (by omega))
end L2
namespace L2
open PySem PySem.Spec PyProof.Rows
def tJoin (t u:TS):TS:=fun D σ H=>∃ Pv:St→Hp→Prop,t { D with nx:=Pv } σ H∧∀ σ' H',Pv σ' H'→u D σ' H'
theorem pss_join {X:Cx} {st:Stmt} {rest:List Stmt} {t u:TS} (h1:PS X st t) (h2:PSs X rest u):PSs X (st::rest) (tJoin t u):=by
  intro pins s σ H D I ⟨Pv,h,k⟩
  refine wpAny_execs_cons (thn (h1 pins s σ H { D with nx:=Pv } I h) fun f s1 q=>?_)
  cases f with
  | next=>obtain ⟨σ',H',I',q⟩:=q; exact h2 pins s1 σ' H' D I' (k σ' H' q)
  | ret v=>exact q
  | brk=>exact q
  | cont=>exact q
section
variable {X:Cx}
end
end L2
namespace HT
open PySem PySem.Spec PyProof PyProof.Rows
section
variable {prog:Program} {w:World} {A:Around} {E:Value→Shared→Prop} {s:Shared}
theorem getItem_tuple_whole {t sl:Addr} {items:Array Value} {vl vu:Value} {lo hi:Option Int} {Q:Value→Shared→Prop} (ht:IsTup s.heap t items) (hs:s.heap.IsSliceOf sl vl vu .none) (pl:IsPart vl lo) (pu:IsPart vu hi)
    (hw:sIx items.size 0 lo=0∧sIx items.size items.size hi=items.size) (h:Q (.ref t) s):wpAny (model prog w) A (getItem (.ref t) (.ref sl)) Q E s:=by
  obtain ⟨os,hos,hcs,hds⟩:=id hs
  have hTs:s.TypeIs (.ref sl) "slice":=⟨os,hos,hcs⟩
  unfold getItem
  try with_reducible refine wpAny_holding ?_
  first | refine wpAny_bind (wpAny_pure ?_) | skip
  refine wpAny_bind (wpAny_sequenceKey ht.typeIs (by decide) ?_)
  refine wpAny_bind (wpAny_callSpecial?_slot (name:=Str.ofString "__getitem__") ht.typeIs PyProof.Rows.slot_tuple_getitem
    (wpAny_call_entry PyProof.Rows.slot_tuple_getitem ht.typeIs entry_tuple_getitem ?_ (args_tuple_getitem _ _)))
  show wpAny _ _ (Builtin.Tuple.tupleItemsOf (.ref t) >>= _) _ _ s
  refine wpAny_bind (tupleItemsOf_ ht ?_)
  refine wpAny_bind (wpAny_typeOf hTs ?_)
  rw [if_pos (by decide)]
  refine wpAny_bind (sliceApplied_gen hs pl pu ?_)
  have hyes:(((sIx items.size 0 lo:Nat):Int) == 0 && (1:Int) == 1 && (sIx items.size items.size hi - sIx items.size 0 lo) == items.size)=true:=by
    rw [hw.1,hw.2]
    simp
  show wpAny _ _ (if (((sIx items.size 0 lo:Nat):Int) == 0 && (1:Int) == 1 && (sIx items.size items.size hi - sIx items.size 0 lo) == items.size)=true then _ else _) _ _ s
  rw [if_pos hyes]
  unfold Builtin.Tuple.tupleIsExact
  refine wpAny_bind (wpAny_bind (wpAny_typeOf ht.typeIs (wpAny_pure ?_)))
  rw [if_pos (by decide)]
  exact wpAny_bind (wpAny_rule (wpAny_pure ⟨_,rfl,wpAny_pure h⟩))
end
end HT
namespace L2
open PySem PySem.Spec PyProof.Rows
section
variable {X:Cx}
def rSlTS:V→Option Int→Option Int→Hp→VK→Prop:=fun x lo hi H Q=>∃ a xs,x=.ref a∧H a=some (.tup xs)∧∀ p H',Same H H'→H' p=some (.tup (cutV xs lo hi))→Q (.ref p) H'
theorem cutV_whole {xs:List V} {lo hi:Option Int} (h:HT.sIx xs.length 0 lo=0∧HT.sIx xs.length xs.length hi=xs.length):cutV xs lo hi=xs:=by
  unfold cutV
  rw [h.1,h.2,List.drop_zero,Nat.sub_zero,List.take_length]
theorem sl_tupS:SlR X rSlTS:=by
  intro pins s σ H x v vl vu lo hi sl Q I rx hs pl pu h
  obtain ⟨a,xs,rfl,ha,q⟩:=h
  by_cases hw:HT.sIx xs.length 0 lo=0∧HT.sIx xs.length xs.length hi=xs.length
  · cases rx
    obtain ⟨its,r,ht,hz⟩:=I.tuple (SqT.of (K:=X.K) ha)
    have hlen:its.toArray.size=xs.length:=by rw [List.size_toArray]; exact r.length.symm
    refine ⟨"tuple",_,PyProof.Rows.slot_tuple_getitem.lookup,ht.typeIs,?_⟩
    exact HT.getItem_tuple_whole ht hs pl pu (by rw [hlen]; exact hw) ⟨.ref a,H,I,rfl,q a H (Same.refl H) (by rw [cutV_whole hw]; exact ha)⟩
  · exact sl_tup pins s σ H _ v vl vu lo hi sl Q I rx hs pl pu ⟨a,xs,rfl,SqT.of ha,hw,fun p hp=>q p _ (same_new hp _) upd_same⟩
def rCatS:R2:=fun x y H Q=>∃ a b xs ys,x=.ref a∧y=.ref b∧H a=some (.tup xs)∧H b=some (.tup ys)∧xs≠[]∧xs.length+ys.length≤sizeLine∧∀ p H',Same H H'→H' p=some (.tup (xs++ys))→Q (.ref p) H'
theorem op_catS:OpR X (binaryOp .Add) rCatS:=by
  intro pins s σ H x y v u Q I rx ry h
  obtain ⟨a,b,xs,ys,rfl,rfl,ha,hb,hx,hz,q⟩:=h
  exact op_catT pins s σ H _ _ v u Q I rx ry ⟨a,b,xs,ys,rfl,rfl,SqT.of ha,SqT.of hb,hx,hz,fun e=>q a H (Same.refl H) (by rw [e,List.append_nil]; exact ha),fun _ p hp=>q p _ (same_new hp _) upd_same⟩
def tJoinT (t:TT):TT:=fun σ H Q=>∃ R:Bool→Hp→Prop,t σ H R∧∀ b H',R b H'→Q b H'
theorem pt_join {c:Expr} {t:TT} (h:PT X c t):PT X c (tJoinT t):=fun pins s σ H Q I hq=>by
  obtain ⟨R,hR,k⟩:=hq
  exact thn (h pins s σ H R I hR) fun b s1 ⟨H1,I1,q⟩=>⟨H1,I1,k b H1 q⟩
theorem len1 {α:Type} {l:List α} (h:l.length=1):∃ a,l=[a]:=by
  match l,h with
  | [a],_=>exact ⟨a,rfl⟩
theorem len2 {α:Type} {l:List α} (h:l.length=2):∃ a b,l=[a,b]:=by
  match l,h with
  | [a,b],_=>exact ⟨a,b,rfl⟩
theorem len3 {α:Type} {l:List α} (h:l.length=3):∃ a b c,l=[a,b,c]:=by
  match l,h with
  | [a,b,c],_=>exact ⟨a,b,c,rfl⟩
theorem len4 {α:Type} {l:List α} (h:l.length=4):∃ a b c d,l=[a,b,c,d]:=by
  match l,h with
  | [a,b,c,d],_=>exact ⟨a,b,c,d,rfl⟩
end
end L2
namespace L2
open PySem PySem.Spec PyProof.Rows PySem.W Builtin Builtin.ObjectAttr
def underVE:List Value→Bool
  | .ref _::r=>underVE r
  | l=>l == [.type "ValueError",.type "Exception",.type "BaseException",.type "object"]
def overX (K:Frag) (C:Addr):Bool:=(clsIn K C).any fun cd=>underVE cd.mro
theorem under_ex:∀ (l:List Value),underVE l=true→∃ cs:List Addr,l=cs.map Value.ref++[.type "ValueError",.type "Exception",.type "BaseException",.type "object"]
  | [],e=>absurd e (by decide)
  | v::r,e=>by
    cases v with
    | ref c =>
      obtain ⟨cs,h⟩:=under_ex r e
      exact ⟨c::cs,by rw [h]; rfl⟩
    | _=>exact ⟨[],eq_of_beq e⟩
theorem refuse_VE (self:Value):refuseLoop self "__setattr__" [.type "ValueError",.type "Exception",.type "BaseException",.type "object"]=pure ():=by kernel_rfl
theorem refuse_under (self:Value):∀ cs:List Addr,refuseLoop self "__setattr__" (cs.map Value.ref++[.type "ValueError",.type "Exception",.type "BaseException",.type "object"])=pure ()
  | []=>refuse_VE self
  | c::cs=>by
    rw [List.map_cons,List.cons_append,refuseLoop_ref]
    exact refuse_under self cs
section
variable {prog:Program} {w:World} {A:Around} {s:Shared} {K:Frag} {x C:Addr} {R:Result→Shared→Prop}
theorem osa_under {ox:Obj} {od:Option Obj} {name:Str} {tk:Tok} {v:Value} (X:K.In s.heap) (J:InstAt s.heap x ox C od) (hp:overX K C=true) (ht:takerIn K C name=some none)
    (h:∀ b,wpAny (model prog w) A.in1 (Builtin.ObjectAttr.storeInOwnDict (.ref x) (.ref C) (.str name tk) name v b) (fun fin s'=>match fin with | .done f=>R (.ok f) s' | .again c'=>c'.quiet=true∧codeAny (model prog w) A c' R s') (fun e s'=>R (.error e) s') s) :
    codeAny (model prog w) A (.call (.builtin "object.__setattr__") ⟨[.ref x,.str name tk,v],[]⟩) R s:=by
  have SO:=PySem.F.store_object
  obtain ⟨cd,hc,ho⟩:=any_some hp
  obtain ⟨cs,hmro⟩:=under_ex _ ho
  have full:cd.mro.isEmpty=false:=by rw [hmro]; cases cs <;> rfl
  have has:cd.mro.contains (.type "object")=true:=by rw [hmro]; simp
  have isO:Looks (model prog w) s.heap (isInstance (.ref x) (.type "object")) true:=J.type.andThen (looks_mroIn X (by unfold mroIn; rw [hc,Option.bind_some,if_neg (by rw [full]; decide),has]))
  refine codeAny_call_builtin SO.slot.plain SO.entry (@check_slot (model prog w) _ _ s "object.__setattr__" "object" "__setattr__" (.ref x) [.str name tk,v] [] _ SO.kind SO.split isO (SO.args (.ref x) (.str name tk) v) ?_)
  obtain ⟨found,ha,hr⟩:=Option.bind_eq_some_iff.mp ht
  have along:Looks (model prog w) s.heap (mroOf (.ref C)) cd.mro:=(looks_clsIn X hc).andThen .now
  have taker:Looks (model prog w) s.heap (storeTaker? found) none:=by
    cases found with
    | none=>exact .now
    | some y =>
      obtain ⟨b,hb,hz⟩:=Option.map_eq_some_iff.mp hr
      cases b with
      | true=>cases hz
      | false=>exact (looks_takesIn X hb).andThen .now
  rw [osa_eq,refuse_eq]
  refine wpAny_bind (wpAny_bind (J.type.here (wpAny_bind (along.here ?_))))
  rw [hmro,refuse_under]
  refine wpAny_pure (wpAny_bind (J.type.here (wpAny_bind ((looks_findIn X ha).here (wpAny_bind (taker.here ?_))))))
  exact h _
end
end L2
namespace L2
open PySem PySem.Spec PyProof.Rows
section
variable {prog:Program} {w:World} {A:Around} {E:Value→Shared→Prop} {s:Shared} {K:PySem.W.Frag} {x C:Addr} {name:Str} {v:Value}
theorem xset_new {vs:Array Value} {sl:Array (Option Value)} {Q:Unit→Shared→Prop} (X:K.In s.heap) (hx:s.heap.get? x=some ⟨.ref C,none,.fields vs,sl⟩)
    (hs:PySem.W.findIn K (.ref C) "__setattr__"=some (some (.builtin "object.__setattr__"))) (hp:overX K C=true) (ht:PySem.W.takerIn K C name=some none) (hh:PySem.W.hasDictIn K C=true)
    (h:∀ h',h'.get? x=some ⟨.ref C,some s.heap.objs.size,.fields vs,sl⟩→h'.Ns1 s.heap.objs.size (fun y=>if y=name then some v else none)→(∀ b o,b≠x→s.heap.get? b=some o→h'.get? b=some o)→Q () { s with heap:=h',toks:=s.toks+2 }) :
    wpAny (model prog w) A (setAttr (.ref x) name v) Q E s:=by
  have J:PySem.W.InstAt s.heap x ⟨.ref C,none,.fields vs,sl⟩ C none:=⟨hx,rfl,rfl,trivial⟩
  refine PySem.W.set_plain X J hs (osa_under (s:={ s with toks:=s.toks+1 }) X J hp ht fun b=>?_)
  obtain ⟨cd,hc,hd'⟩:=PySem.W.any_some hh
  refine wpAny_bind (wpAny_pure (wpAny_bind (wpAny_bind (wpAny_loadPart hx (wpAny_bind (PySem.W.Looks.here (s:={ s with toks:=s.toks+1 }) (PySem.W.looks_clsIn X hc) ?_))))))
  rw [hd']
  rw [if_neg (by decide)]
  show wpAny (model prog w) A.in1 (do
    let d ← alloc { cls:=Value.type "dict",data:=Data.dict #[] }
    update x fun o=>{ o with dict:=some d }
    dictMade (.ref C) x d) _ _ _
  refine wpAny_bind (wpAny_alloc ?_)
  have hx1:=Heap.get?_push_of_some (h:=s.heap) (o:={ cls:=Value.type "dict",data:=Data.dict #[] }) hx
  have e1:(s.heap.push { cls:=Value.type "dict",data:=Data.dict #[] }).get? s.heap.objs.size=some { cls:=Value.type "dict",data:=Data.dict #[] }:=Heap.get?_push_size s.heap rfl
  have nx:x≠s.heap.objs.size:=Nat.ne_of_lt (Heap.lt_size hx)
  refine wpAny_bind (wpAny_update hx1 ?_)
  refine wpAny_pure (a:=some s.heap.objs.size) (wpAny_bind (wpAny_pure (wpAny_bind ?_)))
  have e2:((s.heap.push { cls:=Value.type "dict",data:=Data.dict #[] }).update x fun o=>{ o with dict:=some s.heap.objs.size }).get? s.heap.objs.size=some { cls:=Value.type "dict",data:=Data.dict #[] }:=by
    rw [Heap.get?_update_other _ _ nx]
    exact e1
  have n0:=Heap.Ns1.of_empty (h:=(s.heap.push { cls:=Value.type "dict",data:=Data.dict #[] }).update x fun o=>{ o with dict:=some s.heap.objs.size }) (a:=s.heap.objs.size) ⟨_,#[],_,e2,rfl,(fun e he=>absurd he (by simp)),fun _=>rfl⟩
  refine wpAny_nsSet1 n0 fun h' hn2 hs2=>?_
  obtain ⟨oD,esD,epD,hoD,hdD,hcD⟩:=hn2.count (ns:=[name]) (PySem.Within.cons (ns:=[]) name v (fun y hy=>absurd rfl hy))
  refine wpAny_bind (wpAny_lookBehind hoD (by rw [hdD]; exact pastItsLine_dict (Nat.le_trans hcD (by show 1≤sizeLine+1; omega))) ?_)
  have ex:h'.get? x=some ⟨.ref C,some s.heap.objs.size,.fields vs,sl⟩:=by
    rw [hs2.2 _ nx]
    exact Heap.get?_update_self _ hx1 rfl
  refine wpAny_pure (h h' ex hn2 fun b o hb e=>?_)
  have hbs:b≠s.heap.objs.size:=Nat.ne_of_lt (Heap.lt_size e)
  rw [hs2.2 _ hbs,Heap.get?_update_other _ _ (Ne.symm hb)]
  exact Heap.get?_push_of_some _ e
end
end L2
namespace L2
open PySem PySem.Spec PyProof.Rows
def excInF (K:PySem.W.Frag) (C f:Addr):Bool :=
  match K.lookup C with
  | some ⟨.type "type",_,.cls cd,sl⟩ =>
    match cd.mro,sl.toList with
    | .ref C'::bm,[_,_,_,_,some (.builtin n),_]=>((C' == C && n == "ValueError.__new__") && (!cd.hasDel && PySem.W.tailIn K VE bm)) && (PySem.W.nsOkIn K cd.ns && PySem.W.nsIn K cd.ns "__init__" == some (some (.ref f)))
    | _,_=>false
  | _=>false
theorem ns_holds {K:PySem.W.Frag} {h:Heap} {N:Addr} {m:Str→Option Value} {y:Str} {u:Value} (X:K.In h) (G:h.Ns N m) (e:PySem.W.nsIn K N y=some (some u)):m y=some u:=by
  obtain ⟨ob,rows,ep,at_,data,_,look⟩:=G
  unfold PySem.W.nsIn at e
  split at e
  · rename_i c d rows' n' sl found
    have both:=X _ _ found
    rw [at_] at both
    cases both
    cases data
    split at e
    · rename_i row has
      cases e
      rw [← look]
      unfold nsFind findBy
      rw [← Array.find?_toList,has]
      rfl
    · split at e <;> cases e
  · cases e
theorem excF_obj {K:PySem.W.Frag} {h:Heap} {C f:Addr} (q:excInF K C f=true) (X:K.In h):∃ bm N nm q bs hdct sn sub ab col dd k0 k1 k2 k3 k5 mN,h.get? C=some (excClassObj nm q C N bs bm hdct sn sub ab col dd k0 k1 k2 k3 k5 "ValueError.__new__")∧h.Ns N mN∧mN "__init__"=some (.ref f)∧OwnTail h VE bm:=by
  unfold excInF at q
  split at q
  · rename_i dd cd sl ho
    split at q
    · rename_i C' bm k0 k1 k2 k3 n k5 hm hs
      simp only [Bool.and_eq_true,beq_iff_eq,Bool.not_eq_true'] at q
      obtain ⟨⟨⟨rfl,rfl⟩,⟨hdel,ht⟩⟩,⟨hok,hni⟩⟩:=q
      obtain ⟨nm,bs,mro,ns,qn,hd,sn,sub,ab,col,del⟩:=cd
      dsimp only at hm hdel hok hni
      subst hm hdel
      have hsl:sl=#[k0,k1,k2,k3,some (.builtin "ValueError.__new__"),k5]:=by
        obtain ⟨l⟩:=sl
        simp only at hs
        rw [hs]
      subst hsl
      have hN:=Heap.Ns.of_isNs (PySem.W.isNs_of_in X hok)
      exact ⟨bm,ns,nm,qn,bs,hd,sn,sub,ab,col,dd,k0,k1,k2,k3,k5,_,X _ _ ho,hN,ns_holds X hN hni,PySem.W.tail_of_in X ht⟩
    · cases q
  · cases q
section
variable {prog:Program} {w:World} {A:Around} {h:Heap} {g:Array GenState} {d:Drawn} {t:Nat} {os:OsState} {R:Result→Shared→Prop}
variable {nm q:Str} {C N:Addr} {bs bm:List Value} {hdct:Bool} {sn:List Str} {sub:List Value} {ab:Bool} {col:Option Bool} {dd:Option Addr} {k0 k1 k2 k3 k5:Option Value}
theorem xmake_core {rest:List Value} {mN:Str→Option Value} {f:Addr} (T:OwnTail h VE bm) (hC:h.get? C=some (excClassObj nm q C N bs bm hdct sn sub ab col dd k0 k1 k2 k3 k5 "ValueError.__new__")) (hn:h.Ns N mN) (hi:mN "__init__"=some (.ref f))
    (hb:∀ (h':Heap) (self:Value),(∀ b o,h.get? b=some o→h'.get? b=some o)→PySem.W.Looks (model prog w) h' (bindSpecial (.ref f) self) (.ref f,[self])) (hrest:rest.length≤sizeLine)
    (hq:codeAny (model prog w) (A.under (.builtin "type.__call__" ⟨.ref C::rest,[]⟩)) (.call (.ref f) ⟨.ref (h.objs.size+1)::rest,[]⟩) (PySem.W.InitBack (h.objs.size+1) R) ⟨(h.push { cls:=.type "tuple",data:=.seq rest.toArray }).push { cls:=.ref C,data:=.fields #[.ref h.objs.size,.none,.none,.none,.bool false,.none] },g,d,t,os⟩) :
    codeAny (model prog w) A (.call (.ref C) ⟨rest,[]⟩) R ⟨h,g,d,t,os⟩:=by
  have F:=PySem.F.excBase_ValueError
  have f1:=tc_lookup
  have f2:=tc_bind (.ref C)
  have hT:(⟨h,g,d,t,os⟩:Shared).TypeIs (.ref C) "type":=⟨_,hC,rfl⟩
  refine codeAny_of_tree ?_
  show wpAny _ _ (callAny (.ref C) _) _ _ _
  repeat (any_goals (first | assumption | with_reducible refine wpAny_loadPart_at hC ?_ | wp_step))
  refine ⟨rfl,?_⟩
  refine codeAny_call_builtin_at (Code.quiet_builtin _ (by decide +kernel)) entry_typeCall (wpAny_check_type_call_sub hC ?_)
  repeat (first | with_reducible refine wpAny_loadPart_at hC ?_ | with_reducible refine wpAny_madeBy_exc hC ?_ | wp_step)
  refine codeAny_call_builtin_code (Code.quiet_builtin _ F.quiet) (wpAny_check_new_subT F T hC ?_)
  refine codeAny_exc_new_subT F T hC ?_ hrest
  show wpAny _ _ _ _ _ _
  have kp:∀ b o,h.get? b=some o→((h.push { cls:=.type "tuple",data:=.seq rest.toArray }).push { cls:=.ref C,data:=.fields #[.ref h.objs.size,.none,.none,.none,.bool false,.none] }).get? b=some o:=fun b o e=>Heap.get?_push_of_some _ (Heap.get?_push_of_some _ e)
  have c1:=kp _ _ hC
  have n1:=hn.keeps kp
  have t1:=T.keeps kp
  have b1:=hb _ (.ref (h.objs.size+1)) kp
  have he:((h.push { cls:=.type "tuple",data:=.seq rest.toArray }).push { cls:=.ref C,data:=.fields #[.ref h.objs.size,.none,.none,.none,.bool false,.none] }).get? (h.objs.size+1)=some { cls:=.ref C,data:=.fields #[.ref h.objs.size,.none,.none,.none,.bool false,.none] }:=by heap_get
  have hcC:(Value.ref C::bm).contains (.ref C)=true:=by simp
  unfold isInstance
  show wpAny (model prog w) _ _ _ _ ⟨(h.push { cls:=.type "tuple",data:=.seq rest.toArray }).push { cls:=.ref C,data:=.fields #[.ref h.objs.size,.none,.none,.none,.bool false,.none] },g,d,t,os⟩
  repeat (first | with_reducible refine wpAny_loadPart_at he ?_ | (refine wpAny_isSubtype_exc c1 ?_; rw [hcC]) | wp_step)
  show wpAny _ _ (typeLookup (.ref C) _) _ _ _
  refine wpAny_typeLookup_tail c1 n1 t1 F.mroIs F.init.lookup ?_
  rw [hi]
  refine wpAny_holding (wpAny_bind (b1.at ?_))
  refine wpAny_bind (wpAny_call ?_)
  refine codeAny_mono hq fun r s' z=>?_
  rcases r with e | (v | _ | _ | _) <;> first | exact z | exact z.elim | skip
  obtain ⟨rfl,z⟩:=z
  exact wpAny_pure (wpAny_pure z)
end
end L2
namespace L2
open PySem PySem.Spec PyProof.Rows
def ExN (a C:Addr) (d:Option Addr):HO:=.ext fun h=>∃ vs sl,h.get? a=some ⟨.ref C,d,.fields vs,sl⟩∧vs[1]?=some .none
theorem exN_ok {P:Program} {w:World} {H:Hp} {h:Heap} {a C:Addr} {d:Option Addr} {vs:Array Value} {sl:Array (Option Value)} (e:h.get? a=some ⟨.ref C,d,.fields vs,sl⟩) (v1:vs[1]?=some .none):ObjOk P w H h a (ExN a C d) :=
  ⟨⟨vs,sl,e,v1⟩,⟨_,e⟩,fun _ _ ⟨vs,sl,q,z⟩ k=>⟨vs,sl,k _ q,z⟩⟩
structure XSet (K:PySem.W.Frag) (C:Addr) (f:Str):Prop where
  sa:PySem.W.findIn K (.ref C) "__setattr__"=some (some (.builtin "object.__setattr__"))
  po:overX K C=true
  tk:PySem.W.takerIn K C f=some none
  hd:PySem.W.hasDictIn K C=true
structure MkX (K:PySem.W.Frag) (C f:Addr):Prop where
  ex:excInF K C f=true
  fn:PySem.W.isFn K (.ref f)=true
  kp:PySem.W.keepIn K (.ref C)=true
section
variable {X:Cx} {pins:List (Addr×Obj)} {σ:St} {H:Hp} {s:Shared} {A:Around} {E:Value→Shared→Prop}
theorem xset_ok {a C:Addr} {f:Str} {y:V} {u:Value} {Q:Unit→Shared→Prop} (I:Inv X pins σ H s) (ea:H a=some (ExN a C none)) (c:XSet X.K C f) (ry:RelV y u)
    (h:∀ dx s',H dx=none→dx≠a→Inv X pins σ (upd (upd H dx (.xd [(f,y)])) a (ExN a C (some dx))) s'→Q () s'):wpAny (model X.prog X.w) A (setAttr (.ref a) f u) Q E s:=by
  obtain ⟨⟨vs,sl,e,v1⟩,_,_⟩:=(show ObjOk X.prog X.w H s.heap a (ExN a C none) from I.hok a _ ea)
  have ne:s.heap.objs.size≠a:=fun z=>Nat.lt_irrefl _ (z▸Heap.lt_size e)
  have nd:H s.heap.objs.size=none:=I.hok.fresh (Nat.le_refl _)
  refine xset_new I.kIn e c.sa c.po c.tk c.hd fun h' ex hn kp=>h s.heap.objs.size _ nd ne ?_
  obtain ⟨od,es,ep,e2,rest⟩:=id hn
  have e3:(s.heap.push od).get? s.heap.objs.size=some od:=Heap.get?_push_size s.heap (by obtain ⟨d,_⟩:=rest; exact Obj.isFreed_of_dict d)
  have hm:(s.heap.push od).Ns1 s.heap.objs.size (fun y=>if y=f then some u else none):=⟨od,es,ep,e3,rest⟩
  have I1:Inv X pins σ (upd H s.heap.objs.size (.xd [(f,y)])) { s with heap:=s.heap.push od,toks:=s.toks+2 }:=by
    refine I.laid (fun b o q=>Heap.get?_push_of_some _ q) (Nat.le_refl _) ⟨_,hm,fun g=>?_⟩
    show RelO (List.lookup g [(f,y)]) (if g=f then some u else none)
    by_cases q:g=f
    · rw [if_pos q,q,List.lookup_cons_self]; exact ry
    · rw [if_neg q]
      have:(g == f)=false:=by simpa using q
      rw [List.lookup_cons,this]
      exact True.intro
  refine Inv.write (s:={ s with heap:=s.heap.push od,toks:=s.toks+2 }) (x:=a) (e:=a) (t':=s.toks+2) I1 (by rw [upd_ne (Ne.symm ne),ea]; exact True.intro) (.inl rfl) (fun b o hb q=>?_) ⟨_,ex⟩ (exN_ok ex v1)
  by_cases hbs:b=s.heap.objs.size
  · subst hbs
    have q':(s.heap.push od).get? s.heap.objs.size=some o:=q
    rw [e3] at q'
    cases q'
    exact e2
  · have q':(s.heap.push od).get? b=some o:=q
    rw [Heap.get?_push_ne _ _ _ hbs] at q'
    exact kp b o hb q'
def sXFld (K:PySem.W.Frag) (ta tv:TE) (f:Str):TS:=fun D σ H=>tv σ H fun y H1=>ta σ H1 fun x H2=>∃ a C,x=.ref a∧H2 a=some (ExN a C none)∧XSet K C f∧∀ dx,H2 dx=none→dx≠a→D.nx σ (upd (upd H2 dx (.xd [(f,y)])) a (ExN a C (some dx)))
theorem ps_xfld {o value:Expr} {f:Str} {pos pos':Pos} {ta tv:TE} (ha:PE X o ta) (hv:PE X value tv) (hs:swapsWith value (some (.Attribute o f pos')) pos.line X.env=pure false):PS X (.Assign [.Attribute o f pos'] value pos) (sXFld X.K ta tv f):=by
  intro pins s σ H D I h
  refine plainObj_wpAny_Assign_Attribute (thn (hv pins s σ H _ I h) fun u s1 ⟨y,H1,I1,ry,q⟩=>thn (ha pins s1 σ H1 _ I1 q) fun ov s2 ⟨x,H2,I2,rx,a,C,ex,ea,c,q2⟩=>?_) hs
  subst ex
  obtain rfl:ov=Value.ref a:=rx
  exact xset_ok I2 ea c ry fun dx s3 n1 n2 I3=>⟨σ,_,I3,q2 dx n1 n2⟩
def tXMake (C:Addr) (sp:Sp) (E:XK) (t:TA):TE:=fun σ H Q=>t σ H fun vs H1=>vs.length≤sizeLine∧∀ x,H1 x=none→sp (.ref x::vs) (upd H1 x (ExN x C none)) (fun v H2=>v=.non∧Q (.ref x) H2) E
section
variable {CX:CXT} {k:Nat} {f C:Addr} {fd:FuncData} {ps:List Str} {sp:Sp} {E:XK} {x:Str} {p pos:Pos} {e:Expr} {es:List Expr} {t:TA}
theorem run_xmake {Q:VK} {us:List Value} {vs:List V} (M:MkX X.K C f) (F:FnOk X.prog X.w X.K X.mg X.base CX k f fd ps sp) (hr:Room (k+1) X.A) (hb:Binds X.K fd ps []) (hx:Passes CX X E) (I:Inv X pins σ H s) (r:Vals vs us)
    (hl:vs.length≤sizeLine) (h:∀ x,H x=none→sp (.ref x::vs) (upd H x (ExN x C none)) (fun v H2=>v=.non∧Q (.ref x) H2) E):wpAny (model X.prog X.w) X.A (call (.ref C) us) (EP X pins σ Q) X.xe s:=by
  obtain ⟨bm,N,nm,q,bs,hdct,sn,sub,ab,col,dd,k0,k1,k2,k3,k5,mN,hC,hN,hi,T⟩:=excF_obj M.ex I.kIn
  have kp:∀ b o,s.heap.get? b=some o→((s.heap.push { cls:=.type "tuple",data:=.seq us.toArray }).push { cls:=.ref C,data:=.fields #[.ref s.heap.objs.size,.none,.none,.none,.bool false,.none] }).get? b=some o:=fun b o e=>Heap.get?_push_of_some _ (Heap.get?_push_of_some _ e)
  have ex:((s.heap.push { cls:=.type "tuple",data:=.seq us.toArray }).push { cls:=.ref C,data:=.fields #[.ref s.heap.objs.size,.none,.none,.none,.bool false,.none] }).get? (s.heap.objs.size+1)=some ⟨.ref C,none,.fields #[.ref s.heap.objs.size,.none,.none,.none,.bool false,.none],#[]⟩:=by heap_get
  have I2:Inv X pins σ (upd H (s.heap.objs.size+1) (ExN (s.heap.objs.size+1) C none)) { s with heap:=(s.heap.push { cls:=.type "tuple",data:=.seq us.toArray }).push { cls:=.ref C,data:=.fields #[.ref s.heap.objs.size,.none,.none,.none,.bool false,.none] } } :=
    I.laid (t':=s.toks) kp (Nat.le_succ _) (exN_ok ex rfl)
  have hq:=h (s.heap.objs.size+1) (I.hok.fresh (Nat.le_succ _))
  have r2:Vals (V.ref (s.heap.objs.size+1)::vs) (Value.ref (s.heap.objs.size+1)::us):=.cons rfl r
  have hl2:(Value.ref (s.heap.objs.size+1)::us++[]).length=ps.length:=by
    rw [List.append_nil,← r2.length]
    exact F.len _ _ _ _ hq
  have hb2:=hb _ (Value.ref (s.heap.objs.size+1)::us) I2.kIn hl2
  rw [List.append_nil] at hb2
  obtain ⟨hp,gs,dr,tk,os⟩:=s
  refine wpAny_call (xmake_core (f:=f) T hC hN hi (fun h' self k=>PySem.W.bind_fn (fun b o e=>k b o (I.kIn b o e)) self (beq_iff_eq.mp M.fn)) (by rw [← r.length]; exact hl) ?_)
  refine codeAny_mono (F.run _ X.stack _ _ ⟨Value.ref (hp.objs.size+1)::us,[]⟩ (Value.ref (hp.objs.size+1)::us) _ _ E (hr.make C us []) (I2.env0.make C us []) hb2 r2 hq) fun r s' hq'=>?_
  cases r with
  | error e=>exact hx pins σ _ _ e s' I2 hq'
  | ok fl =>
    cases fl with
    | ret u =>
      obtain ⟨v,H',I3,rv,ev,q3⟩:=I2.after hq'
      subst ev
      exact ⟨rv,⟨V.ref (hp.objs.size+1),H',I3,rfl,q3⟩⟩
    | next=>exact False.elim hq'
    | brk=>exact False.elim hq'
    | cont=>exact False.elim hq'
theorem pe_xmake (M:MkX X.K C f) (F:FnOk X.prog X.w X.K X.mg X.base CX k f fd ps sp) (hr:Room (k+1) X.A) (hg:Gl X x) (hm:X.mg x=some (.ref C)) (hb:Binds X.K fd ps []) (hx:Passes CX X E)
    (ha:PA X (e::es) t) (hdb:(x == ("__debug__":Str))=false:=by decide) (he:starEach (e::es) X.env=(false,eval e X.env)::starEach es X.env:=by rfl) (hpl:(backTo pos (starEach es X.env)).any (·.1)=false:=by rfl) :
    PE X (.Call (.Name x p) (e::es) [] pos) (tXMake C sp E t):=by
  intro pins s σ H Q I h
  refine wpAny_Call_Name_kw (ld_glob I hg hm ?_ hdb)
  refine PySem.W.callWith_K (h₀:=X.base) I.ok.mod.kin M.kp (thn (ha pos pins s σ H _ I h) fun us s1 ⟨vs,H1,I1,r,hl,q⟩=>⟨I1.kIn,?_⟩) he hpl
  exact run_xmake M F hr hb hx I1 r hl q
end
end
end L2
namespace L2
open PySem PySem.Spec PyProof.Rows
def drop (H:Hp) (x:Addr):Hp:=fun b=>if b=x then none else H b
theorem drop_ne {H:Hp} {x b:Addr} (h:b≠x):drop H x b=H b:=by unfold drop; rw [if_neg h]
theorem drop_same {H:Hp} {x:Addr}:drop H x x=none:=by unfold drop; rw [if_pos rfl]
section
variable {M:Model} {A:Around} {E:Value→Shared→Prop} {env:Env} {nm q:Str} {C N:Addr} {bs bm:List Value} {hdct:Bool} {sn:List Str} {sub:List Value} {ab:Bool} {col:Option Bool} {dd:Option Addr} {k0 k1 k2 k3 k5:Option Value} {newId:String}
theorem raise_made {s:Shared} {x:Sem Value} {Q:Flow→Shared→Prop} (hbase:bm.contains (.type "BaseException")=true) (hh:A.handled=none)
    (h:wpAny M A x (fun v s₁=>∃ e d vs sl,v=.ref e∧s₁.heap.get? C=some (excClassObj nm q C N bs bm hdct sn sub ab col dd k0 k1 k2 k3 k5 newId)∧s₁.heap.get? e=some ⟨.ref C,d,.fields vs,sl⟩∧vs[1]?=some .none∧E (.ref e) s₁) E s) :
    wpAny M A (raiseStmt env (some x) none) Q E s:=by
  have has:(Value.ref C::bm).contains (.type "BaseException")=true:=by rw [List.contains_cons,hbase,Bool.or_true]
  unfold raiseStmt
  refine wpAny_bind (wpAny_mono h (fun v s₁ h₁=>?_) fun _ _ x=>x)
  obtain ⟨e,d,vs,sl,rfl,hC,he,v1,hE⟩:=h₁
  obtain ⟨hp,g,dr,tk,os⟩:=s₁
  repeat (first | with_reducible refine wpAny_loadPart_at he ?_ | with_reducible refine wpAny_loadPart_at hC ?_ | (with_reducible refine wpAny_isSubtype_exc hC ?_; rw [has]) | wp_step)
  rw [v1]
  refine wpAny_pure ?_
  rw [if_neg (by decide)]
  exact wpAny_pure (wpAny_raiseNew_none hh hE)
end
def StartsD (X:Cx) (E:XK):Prop:=∀ (pins:List (Addr×Obj)) (σ:St) (H:Hp) (s:Shared) (x C:Addr) (d:Option Addr),Inv X pins σ H s→H x=some (ExN x C d)→X.H₀ x=none→E (.ref C) d (drop H x)→X.xe (.ref x) s
def tRaiseV (X:Cx) (E:XK) (C:Addr) (te:TE):TS:=fun _ σ H=>te σ H fun v H1=>∃ a d,v=.ref a∧H1 a=some (ExN a C d)∧X.H₀ a=none∧E (.ref C) d (drop H1 a)
theorem excF_cls {K:PySem.W.Frag} {C f:Addr} (q:excInF K C f=true):∃ bm N nm q bs hdct sn sub ab col dd k0 k1 k2 k3 k5,∀ h:Heap,K.In h→h.get? C=some (excClassObj nm q C N bs bm hdct sn sub ab col dd k0 k1 k2 k3 k5 "ValueError.__new__")∧OwnTail h VE bm:=by
  unfold excInF at q
  split at q
  · rename_i dd cd sl ho
    split at q
    · rename_i C' bm k0 k1 k2 k3 n k5 hm hs
      simp only [Bool.and_eq_true,beq_iff_eq,Bool.not_eq_true'] at q
      obtain ⟨⟨⟨rfl,rfl⟩,⟨hdel,ht⟩⟩,_⟩:=q
      obtain ⟨nm,bs,mro,ns,qn,hd,sn,sub,ab,col,del⟩:=cd
      dsimp only at hm hdel
      subst hm hdel
      have hsl:sl=#[k0,k1,k2,k3,some (.builtin "ValueError.__new__"),k5]:=by
        obtain ⟨l⟩:=sl
        simp only at hs
        rw [hs]
      subst hsl
      exact ⟨bm,ns,nm,qn,bs,hd,sn,sub,ab,col,dd,k0,k1,k2,k3,k5,fun h X=>⟨X _ _ ho,PySem.W.tail_of_in X ht⟩⟩
    · cases q
  · cases q
theorem ps_raiseV {X:Cx} {E:XK} {C f:Addr} {e:Expr} {te:TE} {pos:Pos} (hs:StartsD X E) (hc:X.calm=true) (K:MkX X.K C f) (he:PE X e te):PS X (.Raise (some e) none pos) (tRaiseV X E C te):=by
  intro pins s σ H D I h
  obtain ⟨bm,N,nm,q,bs,hdct,sn,sub,ab,col,dd,k0,k1,k2,k3,k5,cls⟩:=excF_cls K.ex
  have run:wpAny (model X.prog X.w) X.A (eval e X.env) (fun v s₁=>∃ x d vs sl,v=.ref x∧s₁.heap.get? C=some (excClassObj nm q C N bs bm hdct sn sub ab col dd k0 k1 k2 k3 k5 "ValueError.__new__")∧s₁.heap.get? x=some ⟨.ref C,d,.fields vs,sl⟩∧vs[1]?=some .none∧X.xe (.ref x) s₁) X.xe s:=by
    refine thn (he pins s σ H _ I h) fun v s1 ⟨x,H1,I1,rx,a,d,ex,ea,n0,q1⟩=>?_
    subst ex
    obtain rfl:v=Value.ref a:=rx
    obtain ⟨⟨vs,sl,at_,v1⟩,_,_⟩:=(show ObjOk X.prog X.w H1 s1.heap a (ExN a C d) from I1.hok a _ ea)
    exact ⟨a,d,vs,sl,rfl,(cls _ I1.kIn).1,at_,v1,hs pins σ H1 s1 a C d I1 ea n0 q1⟩
  rw [arm_exec_Raise]
  have hb:=(cls _ I.kIn).2.hasType PySem.F.excBase_ValueError.hasBase
  first
    | exact wpAny_bind (wpAny_standAt (raise_made hb (I.ok.hd hc) (wpAny_bind (wpAny_mono run (fun v s₃ h₃=>wpAny_bind (wpAny_standAt (wpAny_pure h₃))) fun _ _ x=>x))))
    | (simp only [evalOpt,Option.map]; exact wpAny_bind (wpAny_standAt (raise_made hb (I.ok.hd hc) (wpAny_bind (wpAny_mono run (fun v s₃ h₃=>wpAny_bind (wpAny_standAt (wpAny_pure h₃))) fun _ _ x=>x)))))
section
variable {P:Program} {w:World} {K:PySem.W.Frag} {mg:Str→Option Value} {base:Heap} {N:List Str} {qual:Str} {scope:Scope} {f:Addr} {cd:Value} {A:Around} {outer:List Env} {s₀:Shared} {H₀:Hp} {E:XK}
theorem startsD_cx:StartsD (cxOf (CXE P w) P w K mg base N qual scope f cd A outer s₀ H₀ E) E:=by
  intro pins σ H s x C d I ex n0 q
  show wpAny _ _ (leaving _ _) _ _ s
  have hfr:=I.ok.frames
  have hsf:frs (cxOf (CXE P w) P w K mg base N qual scope f cd A outer s₀ H₀ E).stack=s₀.heap.objs.size::frs outer:=stack_frs rfl rfl
  obtain ⟨⟨vs,sl,at_,v1⟩,_,_⟩:=(show ObjOk P w H s.heap x (ExN x C d) from I.hok x _ ex)
  have noex:∀ b:Addr,b∉(cxOf (CXE P w) P w K mg base N qual scope f cd A outer s₀ H₀ E).ex:=fun b z=>by simp [cxOf] at z
  have nx:s₀.heap.get? x=none:=by
    cases z:s₀.heap.get? x with
    | none=>rfl
    | some o =>
      have:=I.base.free x o z n0 (noex x)
      rw [ex] at this
      cases this
  generalize hst:frs (cxOf (CXE P w) P w K mg base N qual scope f cd A outer s₀ H₀ E).stack=st at hsf
  let B:=PySem.W.hideAll s.heap (x::st)
  have hB:B.StaysIn s.heap:=fun b o e=>PySem.W.of_hideAll _ e
  have bget:∀ b o,s.heap.get? b=some o→b≠x→b∉st→B.get? b=some o:=fun b o e n1 n2=>PySem.W.hideAll_get _ e fun z=>(List.mem_cons.mp z).elim n1 n2
  have bx:B.get? x=none:=PySem.W.hideAll_none _ List.mem_cons_self
  have fn:s.heap.FunFrames B (cxOf (CXE P w) P w K mg base N qual scope f cd A outer s₀ H₀ E).stack:=frames_base (fun b hb=>PySem.W.hideAll_none _ (List.mem_cons_of_mem _ (hst▸hb))) I.stack
  have ofD:∀ b o,drop H x b=some o→b≠x∧H b=some o:=fun b o e=>by
    have hb:b≠x:=fun z=>by rw [z,drop_same] at e; cases e
    exact ⟨hb,by rw [drop_ne hb] at e; exact e⟩
  have toD:∀ b u,H b=some u→u≠ExN x C d→drop H x b=some u:=fun b u e n=>by
    have hb:b≠x:=ne_of e ex n
    rw [drop_ne hb]
    exact e
  have covT:∀ b o,drop H x b=some o→∃ o',B.get? b=some o':=fun b o e=>by
    obtain ⟨hb,e'⟩:=ofD b o e
    obtain ⟨u,hu⟩:∃ u,s.heap.get? b=some u:=(I.hok b o e').there
    refine ⟨u,bget b u hu hb fun z=>?_⟩
    rw [I.stkFree b (hst▸z)] at e'
    cases e'
  have hk:HOk P w (drop H x) s.heap:=fun b o e=>by
    obtain ⟨hb,e'⟩:=ofD b o e
    exact (I.hok b o e').stay (fun _ _ _ z=>z) (fun c z=>toD c _ z (by intro y; cases y)) fun c xs z=>toD c _ z (by intro y; cases y)
  refine leave_frame (s:=s) (B:=B) (L:=s₀.heap.objs.size) hfr rfl hB fn ⟨bx,sl,at_⟩ (.inl v1) fun h2 ws _ xa' ta' m=>?_
  have u2:Un st [] H (drop H x) s.heap h2:=by
    refine ⟨fun b o e n hb _=>?_,fun b o e n hb _=>?_,fun b o e n _=>?_,fun b o e _=>?_,fun b xs e=>toD b _ e (by intro y; cases y),fun b o u e=>toD b _ e (by intro y; cases y),fun b ps e=>⟨#[],by rw [toD b _ e (by intro y; cases y)]; simp⟩⟩
    · exact m.stay b o (bget b o e (fun z=>by rw [z,ex] at n; cases n) hb)
    · exact m.slot b (hst▸hb) o e
    · by_cases hb:b=x
      · rw [hb]; exact drop_same
      · rw [drop_ne hb]; exact n
    · by_cases hb:b=x
      · obtain ⟨_,sl',e'⟩:=xa'
        exact ⟨_,by rw [hb]; exact e'⟩
      · by_cases hs:b∈st
        · obtain ⟨sl',e'⟩:=m.slot b (hst▸hs) o e
          exact ⟨_,e'⟩
        · exact ⟨o,m.stay b o (bget b o e hb hs)⟩
  refine ⟨x,C,d,drop H x,B,rfl,I.os,I.bare,⟨?_,hok_moved hk hB covT m.stay,m.stay,m.funs.2.2,fun b o e hb=>?_,covT,ws,xa',ta'⟩,q⟩
  · exact leave_un (L:=s₀.heap.objs.size) (B:=B) (Nat.le_refl _) I.base (hsf▸u2)
  · obtain ⟨o1,e1⟩:=I.base.there b o e (noex b)
    refine ⟨o1,bget b o1 e1 (fun z=>by rw [z,nx] at e; cases e) fun z=>?_⟩
    rw [hsf] at z
    exact (List.mem_cons.mp z).elim (Nat.ne_of_lt (Heap.lt_size e)) hb
end
end L2
namespace L2
open PySem PySem.Spec PyProof.Rows
def tXGet (K:PySem.W.Frag) (ta:TE) (f:Str):TE:=fun σ H Q=>ta σ H fun x H1=>∃ a C dx fs l,x=.ref a∧H1 a=some (ExO a C (some dx))∧H1 dx=some (.xd fs)∧XCls K C∧PySem.W.findIn K (.ref C) f=some none∧fs.lookup f=some (.ref l)∧Q (.ref l) H1
end L2
namespace L2
open PySem PySem.Spec PyProof.Rows
def rJoin:V→List V→Hp→VK→Prop:=fun x vs H Q=>∃ sep l ss,x=.str sep∧vs=[.ref l]∧H l=some (.lst (ss.map V.str))∧JoinOk sep ss=true∧Q (.str (Txt.join sep ss)) H
section
variable {X:Cx}
end
def tXGetV (K:PySem.W.Frag) (ta:TE) (f:Str):TE:=fun σ H Q=>ta σ H fun x H1=>∃ a C dx fs v,x=.ref a∧H1 a=some (ExO a C (some dx))∧H1 dx=some (.xd fs)∧XCls K C∧PySem.W.findIn K (.ref C) f=some none∧fs.lookup f=some v∧Q v H1
end L2
namespace L2
open PySem PySem.Spec PyProof.Rows
section
variable {X:Cx}
def rCatA:R2:=fun x y H Q=>∃ a b xs ys,x=.ref a∧y=.ref b∧H a=some (.tup xs)∧H b=some (.tup ys)∧xs.length+ys.length≤sizeLine∧∀ p H',Same H H'→H' p=some (.tup (xs++ys))→Q (.ref p) H'
end
end L2
namespace L2
open PySem PySem.Spec PyProof.Rows
section
variable {X:Cx}
def rRepT:R2:=fun x y H Q=>∃ (a:Addr) (xs:List V) (k:Nat),x=.ref a∧y=.int k∧H a=some (.tup xs)∧xs≠[]∧2≤k∧xs.length * k≤1000∧∀ p,H p=none→Q (.ref p) (upd H p (.tup (List.replicate k xs).flatten))
end
end L2
namespace L2
open PySem PySem.Spec PyProof.Rows
def rIndexS:V→List V→Hp→VK→Prop:=fun x vs H Q=>∃ (l:Addr) (z:Str) (zs:List Str) (j:Nat),x=.ref l∧vs=[.str z]∧H l=some (.lst (zs.map V.str))∧zs.length≤1000∧zs[j]?=some z∧(∀ i,i<j→zs[i]?≠some z)∧Q (.int j) H
def isStrV (z:Str):Value→Bool
  | .str x _=>x.cps.toList == z.cps.toList
  | _=>false
section
variable {X:Cx}
end
end L2
namespace L2
open PySem PySem.Spec PyProof.Rows
section
variable {X:Cx} {K:PySem.W.Frag} {o e:Expr} {es:List Expr} {to:TE} {t:TA} {name:Str} {apos cpos:Pos} {T id:String} {r:V→List V→Hp→VK→Prop}
end
end L2
namespace L2
open PySem PySem.Spec PyProof.Rows
@[reducible] def IsZipG (h:Heap) (z TI TO:Addr) (m:Value) (f:Bool):Prop:=h.get? z=some { cls:=.type "zip",data:=.fields #[m,.bool f,.bool false,.ref TI,.ref TO] }
inductive Mark:Value→Prop where
  | none:Mark .none
  | at (a:Int):Mark (rawInt a)
section
variable {prog:Program} {w:World} {A:Around} {E:Value→Shared→Prop} {s:Shared}
end
end L2
namespace L2
open PySem PySem.Spec PyProof.Rows
section
variable {prog:Program} {w:World} {A:Around} {E:Value→Shared→Prop} {s:Shared}
end
def IteEZ (K:PySem.W.Frag) (t1 t2:Bool) (a b:Addr):It :=
  ⟨fun i H=>∃ xs ys x y,SqX t1 K H a xs∧SqX t2 K H b ys∧xs[i]?=some x∧ys[i]?=some y,
   fun i H v H'=>∃ T2 T x y,H T2=none∧(upd H T2 (.tup [x,y])) T=none∧H'=upd (upd H T2 (.tup [x,y])) T (.tup [.int (i:Int),.ref T2])∧v=.ref T∧∀ xs ys,SqX t1 K H a xs→SqX t2 K H b ys→xs[i]?=some x∧ys[i]?=some y,
   fun i H=>∃ xs ys,SqX t1 K H a xs∧SqX t2 K H b ys∧(xs[i]?=none∨ys[i]?=none)⟩
section
variable {X:Cx}
def iEnumZ (K:PySem.W.Frag) (t1 t2:Bool) (ta:TA):TI:=fun σ H R=>ta σ H fun vs H1=>∃ a b,vs=[.ref a,.ref b]∧(∃ xs,SqX t1 K H1 a xs)∧(∃ ys,SqX t2 K H1 b ys)∧R (IteEZ K t1 t2 a b) H1
end
end L2
namespace L2
open PySem PySem.Spec PyProof.Rows
def kasRun {α:Type} (c:Nat→Nat→Bool):W.KasT α→α
  | .ret a=>a
  | .ask i j k=>kasRun c (k (c i j))
def KGood {α:Type} (n:Nat) (R:α→Prop):W.KasT α→Prop
  | .ret a=>R a
  | .ask i j k=>i<n∧j<n∧∀ b,KGood n R (k b)
def Low (n:Nat) (p:Array Nat):Prop:=p.size=n∧∀ i,p.getD i 0<n
section
variable {prog:Program} {w:World} {A:Around} {E:Value→Shared→Prop} {s:Shared}
structure SortTo (prog:Program) (w:World) (A:Around) (a:Addr) (vs out:List Value) (h:Heap):Prop where
  few:vs.length<2→out=vs
  many:2≤vs.length→∀ s1:Shared,(∀ b o,b≠a→h.get? b=some o→s1.heap.get? b=some o)→∃ (κ:SortKind) (c:Nat→Nat→Bool),(∀ (Q:SortKind→Shared→Prop) (E:Value→Shared→Prop),Q κ s1→wpAny (model prog w) A (keyKind' vs.toArray) Q E s1)∧
    (∀ i j (C:Bool→Shared→Prop),i<vs.length→j<vs.length→C (c i j) s1→W.kas_ask prog w A κ vs i j C s1)∧out=(kasRun c (W.kas_sort vs.length)).toList.map fun i=>vs.getD i .none
end
end L2
namespace L2
open PySem PySem.Spec PyProof.Rows
abbrev D3:=Int×Str×Int
def d3V (d:D3):List V:=[.int d.1,.str d.2.1,.int d.2.2]
def D3At (H:Hp) (v:V) (d:D3):Prop:=∃ a,v=.ref a∧H a=some (.tup (d3V d))
def d3Lt (d e:D3):Bool:=if eqV (.int d.1) (.int e.1)=true then (if eqV (.str d.2.1) (.str e.2.1)=true then (if eqV (.int d.2.2) (.int e.2.2)=true then false else decide (d.2.2<e.2.2)) else decide (d.2.1.cps.toList<e.2.1.cps.toList)) else decide (d.1<e.1)
def d0:D3:=(0,Str.empty,0)
def d3Ord (ds:List D3):List Nat:=(kasRun (fun i j=>d3Lt (ds.getD i d0) (ds.getD j d0)) (W.kas_sort ds.length)).toList
def sortD (ds:List D3):List D3:=if ds.length<2 then ds else (d3Ord ds).map fun i=>ds.getD i d0
def Raw3 (h:Heap) (v:Value) (d:D3):Prop:=∃ a o n i t x u j r,v=.ref a∧h.get? a=some o∧o.cls=.type "tuple"∧o.data=.seq #[.int i t,.str x u,.int j r] n∧d=(i,x,j)
section
variable {prog:Program} {w:World} {A:Around} {s:Shared}
end
section
variable {X:Cx}
end
end L2
namespace L2
open PySem PySem.Spec PyProof.Rows
def Itr3 (lo c:Int) (n:Nat):It:=⟨fun i _=>i<n,fun i H x H'=>H'=H∧x=.int (lo+i * c),fun i _=>n≤i⟩
section
variable {X:Cx} {tg:Expr}
def iRng3 (ta:TA):TI:=fun σ H R=>ta σ H fun vs H1=>∃ (i j c:Int) (n:Nat),vs=[.int i,.int j,.int c]∧c≠0∧c.natAbs<1073741824∧Builtin.Range.small i j c=true∧Builtin.Range.rangeSize i j c=(n:Int)∧R (Itr3 i c n) H1
end
section
variable {X:Cx}
end
end L2
namespace L2
open PySem PySem.Spec PyProof.Rows
structure RoomH (k:Nat) (A:Around):Prop where
  dp:A.depth+3 * k+5<recursionLimit
  un:A.units+16 * k+200<cLine
structure FnOkH (P:Program) (w:World) (K:PySem.W.Frag) (mg:Str→Option Value) (base:Heap) (k:Nat) (f:Addr) (fd:FuncData) (ps:List Str) (sp:Sp):Prop where
  len:∀ vs H Q E,sp vs H Q E→vs.length=ps.length
  run:∀ (A:Around) (outer:List Env) (s:Shared) (H:Hp) (args:Args) (us:List Value) (vs:List V) (Q:VK) (E:XK),RoomH k A→Env0 P w K mg base A outer s H→BindsTo s fd args (ps.zip us)→Vals vs us→sp vs H Q E→
    codeAny (model P w) A (.call (.ref f) args) (CR CX0 outer P w H s Q E) s
abbrev cxOfH (P:Program) (w:World) (K:PySem.W.Frag) (mg:Str→Option Value) (base:Heap) (N:List Str) (qual:Str) (scope:Scope) (f:Addr) (cd:Value) (A:Around) (outer:List Env) (s:Shared) (H:Hp) (E:XK):Cx :=
  { cxOf CX0 P w K mg base N qual scope f cd A outer s H E with calm:=false,xe:=fun _ _=>False }
section
variable {P:Program} {w:World} {K:PySem.W.Frag} {mg:Str→Option Value} {base:Heap}
end
structure CalH (P:Program) (w:World) (K:PySem.W.Frag) (mg:Str→Option Value) (base:Heap) (k:Nat) (x:Str) (ps:List Str) (sp:Sp):Prop where
  ex:∃ (f:Addr) (fd:FuncData),FnOkH P w K mg base k f fd ps sp∧Binds K fd ps []∧PySem.W.keepIn K (.ref f)=true∧mg x=some (.ref f)
section
variable {X:Cx} {k:Nat} {ps:List Str} {sp:Sp} {x:Str} {p pos:Pos} {e:Expr} {es:List Expr} {t:TA}
end
end L2
namespace L2
open PySem PySem.Spec PyProof.Rows
section
variable {κ:Type} [DecidableEq κ]
def valV (kvs:List (κ×V)) (k:κ):Option V:=(kvs.find? fun kv=>decide (kv.1=k)).map (·.2)
def putK (kvs:List (κ×V)) (k:κ) (v:V):List (κ×V) :=
  if (kvs.any fun kv=>decide (kv.1=k))=true then kvs.map (fun kv=>if kv.1=k then (kv.1,v) else kv) else kvs++[(k,v)]
def dropK (kvs:List (κ×V)) (k:κ):List (κ×V):=kvs.filter fun kv=>decide (kv.1≠k)
theorem valV_pos {p:κ×V} {r:List (κ×V)} {k:κ} (e:p.1=k):valV (p::r) k=some p.2:=by simp [valV,List.find?_cons,e]
theorem valV_neg {p:κ×V} {r:List (κ×V)} {k:κ} (e:¬ p.1=k):valV (p::r) k=valV r k:=by simp [valV,List.find?_cons,e]
theorem valV_any (k:κ):∀ kvs:List (κ×V),(kvs.any fun kv=>decide (kv.1=k))=(valV kvs k).isSome
  | []=>rfl
  | p::r=>by
    rw [List.any_cons]
    by_cases e:p.1=k
    · simp only [valV_pos e,decide_eq_true e,Bool.true_or,Option.isSome_some]
    · rw [valV_neg e,decide_eq_false e,Bool.false_or]; exact valV_any k r
theorem length_putK (kvs:List (κ×V)) (k:κ) (v:V):(putK kvs k v).length≤kvs.length+1:=by
  unfold putK
  split
  · rw [List.length_map]; omega
  · rw [List.length_append,List.length_cons,List.length_nil]; omega
theorem RelO.isSome_eq {o:Option V} {u:Option Value} (r:RelO o u):o.isSome=u.isSome:=by
  cases o with
  | none=>cases u with
    | none=>rfl
    | some _=>exact (show False from r).elim
  | some _=>cases u with
    | none=>exact (show False from r).elim
    | some _=>rfl
theorem KV.val {kvs:List (κ×V)} {vs:List (κ×Value)} (r:KV kvs vs) (k:κ):RelO (valV kvs k) (valueAt vs k):=by
  unfold KV at r
  induction r with
  | nil=>exact True.intro
  | @cons p q ps qs h t ih =>
    obtain ⟨h1,h2⟩:=h
    by_cases e:p.1=k
    · have e':q.1=k:=h1.symm.trans e
      have b:valueAt (q::qs) k=some q.2:=by simp [valueAt,List.find?_cons,e']
      rw [valV_pos e,b]; exact h2
    · have e':¬ q.1=k:=fun z=>e (h1.trans z)
      have b:valueAt (q::qs) k=valueAt qs k:=by simp [valueAt,List.find?_cons,e']
      rw [valV_neg e,b]; exact ih
theorem KV.any {kvs:List (κ×V)} {vs:List (κ×Value)} (r:KV kvs vs) (k:κ):(kvs.any fun kv=>decide (kv.1=k))=vs.any fun kv=>decide (kv.1=k):=by
  unfold KV at r
  induction r with
  | nil=>rfl
  | cons h t ih=>rw [List.any_cons,List.any_cons,ih,h.1]
theorem KV.repl {kvs:List (κ×V)} {vs:List (κ×Value)} (r:KV kvs vs) (k:κ) {y:V} {u:Value} (ry:RelV y u) :
    KV (kvs.map fun kv=>if kv.1=k then (kv.1,y) else kv) (vs.map fun kv=>if kv.1=k then (kv.1,u) else kv):=by
  unfold KV at r ⊢
  induction r with
  | nil=>exact .nil
  | @cons p q ps qs h t ih =>
    rw [List.map_cons,List.map_cons]
    refine .cons ?_ ih
    obtain ⟨h1,h2⟩:=h
    by_cases e:p.1=k
    · rw [if_pos e,if_pos (h1.symm.trans e)]; exact ⟨h1,ry⟩
    · rw [if_neg e,if_neg (fun z=>e (h1.trans z))]; exact ⟨h1,h2⟩
theorem KV.put {kvs:List (κ×V)} {vs:List (κ×Value)} (r:KV kvs vs) (k:κ) {y:V} {u:Value} (ry:RelV y u):KV (putK kvs k y) (stored vs k u):=by
  unfold putK stored
  rw [r.any k]
  by_cases e:(vs.any fun kv=>decide (kv.1=k))=true
  · rw [if_pos e,if_pos e]; exact r.repl k ry
  · rw [if_neg e,if_neg e]; exact Paired.snoc r ⟨rfl,ry⟩
theorem KV.length {kvs:List (κ×V)} {vs:List (κ×Value)} (r:KV kvs vs):kvs.length=vs.length:=Paired.length r
end
theorem kV_is {P:Program} {w:World} {k:Key} {u:Value} (r:RelV (kV k) u):(mixKind P w).is k u=true:=by
  cases k with
  | inl i=>obtain ⟨t,e⟩:=(show ∃ t,u=Value.int i t from r); subst e; exact mixKind_int P w i t
  | inr x=>obtain ⟨t,e⟩:=(show ∃ t,u=Value.str x t from r); subst e; exact mixKind_str P w x t
theorem items_are {P:Program} {w:World}:∀ {ks:List Key} {us:List Value},Vals (ks.map kV) us→ItemsAre (mixKind P w) ks us
  | [],_,r=>by rw [List.map_nil] at r; cases r; exact .nil
  | k::ks,_,r=>by
    rw [List.map_cons] at r
    cases r with
    | cons h t=>exact .cons (kV_is h) (items_are t)
abbrev KT (H:Hp):List (List Key×V)→List (List Key×Addr×Value)→Prop:=Paired fun p q=>p.1=q.1∧H q.2.1=some (.tup (p.1.map kV))∧RelV p.2 q.2.2
theorem KT.val {H:Hp} {kvs:List (List Key×V)} {xs:List (List Key×Addr×Value)} (r:KT H kvs xs) (k:List Key):RelO (valV kvs k) ((atKey xs k).map (·.2)):=by
  induction r with
  | nil=>exact True.intro
  | @cons p q ps qs h t ih =>
    obtain ⟨h1,_,h2⟩:=h
    by_cases e:p.1=k
    · have e':q.1=k:=h1.symm.trans e
      have b:atKey (q::qs) k=some q.2:=by simp [atKey,List.find?_cons,e']
      rw [valV_pos e,b]; exact h2
    · have e':¬ q.1=k:=fun z=>e (h1.trans z)
      have b:atKey (q::qs) k=atKey qs k:=by simp [atKey,List.find?_cons,e']
      rw [valV_neg e,b]; exact ih
theorem KT.repl {H:Hp} {kvs:List (List Key×V)} {xs:List (List Key×Addr×Value)} (r:KT H kvs xs) (k:List Key) {y:V} {u:Value} (ry:RelV y u) :
    KT H (kvs.map fun kv=>if kv.1=k then (kv.1,y) else kv) (xs.map (putAt k u)):=by
  induction r with
  | nil=>exact .nil
  | @cons p q ps qs h t ih =>
    rw [List.map_cons,List.map_cons]
    refine .cons ?_ ih
    obtain ⟨h1,h2,h3⟩:=h
    unfold putAt
    by_cases e:p.1=k
    · rw [if_pos e,if_pos (h1.symm.trans e)]; exact ⟨h1,h2,ry⟩
    · rw [if_neg e,if_neg (fun z=>e (h1.trans z))]; exact ⟨h1,h2,h3⟩
theorem KT.put {H:Hp} {kvs:List (List Key×V)} {xs:List (List Key×Addr×Value)} (r:KT H kvs xs) (k:List Key) {b:Addr} {y:V} {u:Value} (hb:H b=some (.tup (k.map kV))) (ry:RelV y u) :
    KT H (putK kvs k y) (storedH xs k b u):=by
  have e:(kvs.any fun kv=>decide (kv.1=k))=(atKey xs k).isSome:=by
    rw [valV_any,(r.val k).isSome_eq,Option.isSome_map]
  unfold putK storedH
  rw [e]
  by_cases q:(atKey xs k).isSome=true
  · rw [if_pos q,if_pos q]; exact r.repl k ry
  · rw [if_neg q,if_neg q]; exact Paired.snoc r ⟨rfl,hb,ry⟩
theorem KT.keeps {H H':Hp} {kvs:List (List Key×V)} {xs:List (List Key×Addr×Value)} (r:KT H kvs xs) (ht:∀ b ys,H b=some (.tup ys)→H' b=some (.tup ys)):KT H' kvs xs :=
  Paired.mapP r fun _ _ z=>⟨z.1,ht _ _ z.2.1,z.2.2⟩
section
variable {P:Program} {w:World} {H:Hp} {h:Heap} {a:Addr}
theorem rd_of {u:HO} (ok:HOk P w H h) (e:Rd H a u):ObjOk P w H h a u:=e.ok ok
theorem dk_rd {kvs:List (Key×V)} (ok:HOk P w H h) (e:Rd H a (.dK kvs)):kvs.length≤sizeLine∧(a == sysModules)=false∧∃ vs,KV kvs vs∧h.DictOf (mixKind P w) a vs :=
  show ObjOk P w H h a (.dK kvs) from rd_of ok e
theorem dk_of {kvs:List (Key×V)} (ok:HOk P w H h) (e:H a=some (.dK kvs)):kvs.length≤sizeLine∧(a == sysModules)=false∧∃ vs,KV kvs vs∧h.DictOf (mixKind P w) a vs:=dk_rd ok (.inl e)
theorem key_of {ks:List Key} (ok:HOk P w H h) (e:H a=some (.tup (ks.map kV))):(tupleKind (mixKind P w)).is h ks a:=by
  obtain ⟨_,its,r,o,h1,h2,n,h3⟩:=(show ObjOk P w H h a (.tup (ks.map kV)) from ok a _ e)
  exact ⟨o,its.toArray,n,h1,h2,h3,by simpa using items_are r⟩
theorem dt_rd {kvs:List (List Key×V)} (ok:HOk P w H h) (e:Rd H a (.dT kvs)):kvs.length≤sizeLine∧(a == sysModules)=false∧
    ∃ xs,KT H kvs xs∧h.DictOfH (tupleKind (mixKind P w)) a xs:=by
  obtain ⟨z,y,xs,r,o,es,ep,h1,h2,h3,h4,h5⟩:=(show ObjOk P w H h a (.dT kvs) from rd_of ok e)
  refine ⟨z,y,xs,r,o,es,ep,h1,h2,h3,h4,fun x hx=>?_,h5⟩
  have all:∀ {l:List (List Key×V)} {m:List (List Key×Addr×Value)},KT H l m→∀ x∈m,(tupleKind (mixKind P w)).is h x.1 x.2.1:=by
    intro l m q
    induction q with
    | nil=>intro x hx; exact nomatch hx
    | @cons p q ps qs hq t ih =>
      intro x hx
      rcases List.mem_cons.mp hx with e | hx
      · subst e
        exact key_of ok (by rw [← hq.1]; exact hq.2.1)
      · exact ih x hx
  exact all r x hx
theorem dt_of {kvs:List (List Key×V)} (ok:HOk P w H h) (e:H a=some (.dT kvs)):kvs.length≤sizeLine∧(a == sysModules)=false∧
    ∃ xs,KT H kvs xs∧h.DictOfH (tupleKind (mixKind P w)) a xs:=dt_rd ok (.inl e)
end
def DGet (H:Hp) (a:Addr) (y:V) (r:Option V):Prop :=
  (∃ kvs k,Rd H a (.dK kvs)∧y=kV k∧r=valV kvs k)∨∃ kvs k b,Rd H a (.dT kvs)∧y=.ref b∧H b=some (.tup (k.map kV))∧r=valV kvs k
def DPut (H:Hp) (a:Addr) (y v:V) (H':Hp):Prop :=
  (∃ kvs k,H a=some (.dK kvs)∧y=kV k∧kvs.length<sizeLine∧H'=upd H a (.dK (putK kvs k v)))∨
  ∃ kvs k b,H a=some (.dT kvs)∧y=.ref b∧H b=some (.tup (k.map kV))∧kvs.length<sizeLine∧H'=upd H a (.dT (putK kvs k v))
theorem DGet.k {H:Hp} {a:Addr} {kvs:List (Key×V)} {k:Key} (e:H a=some (.dK kvs)):DGet H a (kV k) (valV kvs k):=.inl ⟨kvs,k,.inl e,rfl,rfl⟩
theorem DPut.k {H:Hp} {a:Addr} {kvs:List (Key×V)} {k:Key} {v:V} (e:H a=some (.dK kvs)) (hl:kvs.length<sizeLine):DPut H a (kV k) v (upd H a (.dK (putK kvs k v))):=.inl ⟨kvs,k,e,rfl,hl,rfl⟩
section
variable {X:Cx} {pins:List (Addr×Obj)} {σ:St} {H:Hp} {s:Shared} {a:Addr} {y v:V} {u r:Value} {o:Option V} {A:Around} {E:Value→Shared→Prop}
theorem Inv.big (I:Inv X pins σ H s):sysModules<s.heap.objs.size:=by
  have h:mainGlobals<s.heap.objs.size:=(I.mod.glob.keeps I.bk).lt
  exact Nat.lt_trans (by decide) h
theorem d_getItem {Q:Value→Shared→Prop} (hu:A.units+1<cLine) (I:Inv X pins σ H s) (g:DGet H a y (some v)) (ry:RelV y u) (h:∀ w' s',Inv X pins σ H s'→RelV v w'→Q w' s') :
    wpAny (model X.prog X.w) A (getItem (.ref a) u) Q E s:=by
  rcases g with ⟨kvs,k,e,ey,l⟩ | ⟨kvs,k,b,e,ey,eb,l⟩
  · subst ey
    obtain ⟨z,hd,vs,rel,dd⟩:=dk_rd I.hok e
    obtain ⟨w',hw,rw'⟩:=RelO.some_of (v:=v) (o:=valueAt vs k) (by rw [l]; exact rel.val k)
    exact wpAny_getItem_of (kV_is ry) dd.mapOf hw (h w' _ (I.tok _) rw')
  · subst ey
    cases (show u=Value.ref b from ry)
    obtain ⟨z,hd,xs,rel,dd⟩:=dt_rd I.hok e
    obtain ⟨w',hw,rw'⟩:=RelO.some_of (v:=v) (o:=(atKey xs k).map (·.2)) (by rw [l]; exact rel.val k)
    obtain ⟨p,hp,hp2⟩:=Option.map_eq_some_iff.mp hw
    refine wpAny_getItem_heap (tupleKind_room_in1 hu) (key_of I.hok eb) dd hp ?_
    rw [hp2]
    exact h w' _ (I.tok _) rw'
theorem d_notIn {Q:Value→Shared→Prop} (hu:A.units+1<cLine) (I:Inv X pins σ H s) (g:DGet H a y o) (ry:RelV y u) (h:∀ s',Inv X pins σ H s'→Q (.bool (!o.isSome)) s') :
    wpAny (model X.prog X.w) A (compareOp .NotIn u (.ref a)) Q E s:=by
  rcases g with ⟨kvs,k,e,ey,l⟩ | ⟨kvs,k,b,e,ey,eb,l⟩
  · subst ey
    obtain ⟨z,hd,vs,rel,dd⟩:=dk_rd I.hok e
    refine wpAny_notIn_of (kV_is ry) hd dd.mapOf ?_
    rw [← (rel.val k).isSome_eq,← l]
    exact h _ (I.tok _)
  · subst ey
    cases (show u=Value.ref b from ry)
    obtain ⟨z,hd,xs,rel,dd⟩:=dt_rd I.hok e
    refine wpAny_notIn_heap (tupleKind_room_in1 hu) (key_of I.hok eb) hd dd ?_
    have q:=(rel.val k).isSome_eq
    rw [Option.isSome_map] at q
    rw [← q,← l]
    exact h _ (I.tok _)
theorem d_write {h':Heap} {t':Nat} {ob:HO} (I:Inv X pins σ H s) (mu:Mut (H a)) (hs:Heap.SameBut a s.heap h') (he:∃ q,h'.get? a=some q) (new:ObjOk X.prog X.w (upd H a ob) h' a ob) :
    Inv X pins σ (upd H a ob) { s with heap:=h',toks:=t' } :=
  I.write (x:=a) (e:=a) mu (.inl rfl) (fun b q hb z=>(hs.2 b hb).trans z) he new
theorem dk_new {P:Program} {w:World} {H':Hp} {h':Heap} {kvs:List (Key×V)} {vs:List (Key×Value)} (z:kvs.length≤sizeLine) (hd:(a == sysModules)=false) (rel:KV kvs vs) (dd:h'.DictOf (mixKind P w) a vs) :
    ObjOk P w H' h' a (.dK kvs):=⟨z,hd,vs,rel,dd⟩
theorem d_setItem {H':Hp} {Q:Unit→Shared→Prop} (hu:A.units+1<cLine) (I:Inv X pins σ H s) (g:DPut H a y v H') (ry:RelV y u) (rv:RelV v r) (h:∀ s',Inv X pins σ H' s'→Q () s') :
    wpAny (model X.prog X.w) A (setItem (.ref a) u r) Q E s:=by
  rcases g with ⟨kvs,k,e,ey,l,eH⟩ | ⟨kvs,k,b,e,ey,eb,l,eH⟩
  · subst ey eH
    obtain ⟨z,hd,vs,rel,dd⟩:=dk_of I.hok e
    have hz:vs.length≤sizeLine:=by rw [← rel.length]; exact z
    have hl:(putK kvs k v).length≤sizeLine:=by have:=length_putK kvs k v; omega
    refine wpAny_setItem_pairs (hsz:=hz) (kV_is ry) dd fun h' dd' hs=>h _ ?_
    have he:∃ q,h'.get? a=some q:=let ⟨q,_,_,hq,_⟩:=dd'; ⟨q,hq⟩
    exact d_write I (by rw [e]; exact True.intro) hs he (dk_new hl hd (rel.put k rv) dd')
  · subst ey eH
    cases (show u=Value.ref b from ry)
    obtain ⟨z,hd,xs,rel,dd⟩:=dt_of I.hok e
    have hz:xs.length≤sizeLine:=by rw [← Paired.length rel]; exact z
    have hl:(putK kvs k v).length≤sizeLine:=by have:=length_putK kvs k v; omega
    refine wpAny_setItem_heap (hsz:=hz) (tupleKind_room_in1 hu) (key_of I.hok eb) dd fun h' dd' hs=>h _ ?_
    obtain ⟨q,es,ep,hq,h2,h3,h4,_,h5⟩:=dd'
    refine d_write I (by rw [e]; exact True.intro) hs ⟨q,hq⟩ ⟨hl,hd,_,(rel.put k eb rv).keeps fun c ys ec=>?_,q,es,ep,hq,h2,h3,h4,h5⟩
    rw [upd_ne (ne_of ec e (fun z=>nomatch z))]
    exact ec
end
section
variable {X:Cx} {pins:List (Addr×Obj)} {σ:St} {H:Hp} {s:Shared} {a:Addr} {kvs:List (Key×V)} {k:Key} {u:Value} {A:Around} {E:Value→Shared→Prop}
end
def NoSl (i:Expr):Prop:=∀ ov iv,subscripted i false ov iv=operate [ov,iv] (getItem ov iv)
theorem subD_of {prog:Program} {w:World} {A:Around} {E:Value→Shared→Prop} {s:Shared} {env:Env} {value slice:Expr} {pos:Pos} {T id:String} {Q:Value→Shared→Prop}
    (hl:typeLookup (.type T) "__getitem__"=pure (some (.builtin id))) (hs:NoSl slice)
    (h:wpAny (model prog w) A (eval value env) (fun o s₁=>wpAny (model prog w) A (eval slice env) (fun i s₂=>s₂.TypeIs o T∧wpAny (model prog w) A (getItem o i) Q E s₂) E s₁) E s) :
    wpAny (model prog w) A (eval (.Subscript value slice pos) env) Q E s:=by
  refine Subscript_ (wpAny_mono h (fun o s₁ h₁=>wpAny_mono h₁ (fun i s₂ h₂=>?_) fun _ _ x=>x) fun _ _ x=>x)
  obtain ⟨hT,h₂⟩:=h₂
  unfold subscriptTail
  refine wpAny_bind ?_
  rw [getitemInPython_of_ne hT.not_modules]
  refine wpAny_bind (wpAny_specialOf hT hl ?_)
  have fin:wpAny (model prog w) A (subscripted slice false o i) (fun r s₃=>wpAny (model prog w) A (letTemporaryGo value o r >>= fun _=>pure r) Q E s₃) E s₂:=by
    rw [hs o i]
    exact wpAny_operating (wpAny_mono h₂ (fun r s₃ h₃=>wpAny_bind (wpAny_letTemporaryGo (wpAny_pure h₃))) fun _ _ x=>x)
  first
    | exact wpAny_pure (wpAny_bind fin)
    | exact wpAny_bind (wpAny_pure (wpAny_bind fin))
    | exact wpAny_bind fin
theorem dict_typeIs {X:Cx} {pins:List (Addr×Obj)} {σ:St} {H:Hp} {s:Shared} {a:Addr} {y:V} {o:Option V} (I:Inv X pins σ H s) (g:DGet H a y o):s.TypeIs (.ref a) "dict":=by
  rcases g with ⟨kvs,k,e,_,_⟩ | ⟨kvs,k,b,e,_,_,_⟩
  · obtain ⟨_,_,vs,_,dd⟩:=dk_rd I.hok e
    exact dd.typeIs
  · obtain ⟨_,_,xs,_,dd⟩:=dt_rd I.hok e
    exact dd.typeIs
def tDGet (td ty:TE):TE:=fun σ H Q=>td σ H fun x H1=>ty σ H1 fun y H2=>∃ a v,x=.ref a∧DGet H2 a y (some v)∧Q v H2
def tDIn (ty td:TE):TE:=fun σ H Q=>ty σ H fun y H1=>td σ H1 fun x H2=>∃ a o,x=.ref a∧DGet H2 a y o∧Q (.bl o.isSome) H2
def tDNotIn (ty td:TE):TE:=fun σ H Q=>ty σ H fun y H1=>td σ H1 fun x H2=>∃ a o,x=.ref a∧DGet H2 a y o∧Q (.bl (!o.isSome)) H2
def sDPut (td ty tv:TE):TS:=fun D σ H=>tv σ H fun v H1=>td σ H1 fun x H2=>ty σ H2 fun y H3=>∃ a H4,x=.ref a∧DPut H3 a y v H4∧D.nx σ H4
def sDAug (td ty tv:TE) (rd:V→V→Hp→VK→Prop):TS:=fun D σ H=>td σ H fun x H1=>ty σ H1 fun y H2=>∃ a v,x=.ref a∧DGet H2 a y (some v)∧
  tv σ H2 fun y2 H3=>rd v y2 H3 fun z H4=>∃ H5,DPut H4 a y z H5∧D.nx σ H5
def sDDel (td ty:TE):TS:=fun D σ H=>td σ H fun x H1=>ty σ H1 fun y H2=>∃ a kvs k,x=.ref a∧H2 a=some (.dK kvs)∧y=kV k∧(valV kvs k).isSome=true∧D.nx σ (upd H2 a (.dK (dropK kvs k)))
section
variable {X:Cx} {o i e value:Expr} {pos pos' tpos:Pos} {td ty tv:TE}
theorem pe_dget (hu:X.A.units+1<cLine) (ho:PE X o td) (hi:PE X i ty) (hs:NoSl i):PE X (.Subscript o i pos) (tDGet td ty):=by
  intro pins s σ H Q I h
  refine subD_of PySem.F.slot_dict_getitem.lookup hs (thn (ho pins s σ H _ I h) fun u s1 ⟨x,H1,I1,rx,q1⟩=>thn (hi pins s1 σ H1 _ I1 q1) fun iv s2 ⟨y,H2,I2,ry,a,v,ex,g,q2⟩=>?_)
  subst ex
  obtain rfl:u=Value.ref a:=rx
  exact ⟨dict_typeIs I2 g,d_getItem hu I2 g ry fun w' s3 I3 rw'=>⟨v,H2,I3,rw',q2⟩⟩
theorem pc_dnotin (hu:X.A.units+1<cLine) (hi:PE X i ty) (ho:PE X o td):PC X .NotIn i o (tDNotIn ty td):=by
  intro pins s σ H Q I h
  refine thn (hi pins s σ H _ I h) fun iv s1 ⟨y,H1,I1,ry,q1⟩=>thn (ho pins s1 σ H1 _ I1 q1) fun u s2 ⟨x,H2,I2,rx,a,ov,ex,g,q2⟩=>?_
  subst ex
  obtain rfl:u=Value.ref a:=rx
  exact d_notIn hu I2 g ry fun s3 I3=>⟨.bl (!ov.isSome),H2,I3,rfl,q2⟩
theorem ps_dput (hu:X.A.units+1<cLine) (ho:PE X o td) (hi:PE X i ty) (hv:PE X value tv) (hs:swapsWith value (some (.Subscript o i pos')) pos.line X.env=pure false) :
    PS X (.Assign [.Subscript o i pos'] value pos) (sDPut td ty tv):=by
  intro pins s σ H D I h
  refine wpAny_Assign_Subscript (thn (hv pins s σ H _ I h) fun r s1 ⟨v,H1,I1,rv,q1⟩=>thn (ho pins s1 σ H1 _ I1 q1) fun u s2 ⟨x,H2,I2,rx,q2⟩=>thn (hi pins s2 σ H2 _ I2 q2) fun iv s3 ⟨y,H3,I3,ry,a,H4,ex,g,q3⟩=>?_) hs
  subst ex
  obtain rfl:u=Value.ref a:=rx
  exact d_setItem hu I3 g ry rv fun s4 I4=>⟨σ,H4,I4,q3⟩
end
theorem dk_empty {P:Program} {w:World} {H:Hp} (h:Heap) (hb:sysModules<h.objs.size):ObjOk P w H (h.push { cls:=.type "dict",data:=.dict #[] }) h.objs.size (.dK []) :=
  ⟨Nat.zero_le _,beq_eq_false_iff_ne.mpr (Ne.symm (Nat.ne_of_lt hb)),[],.nil,Heap.DictOf.new h⟩
def tDNewK:TE:=fun _ H Q=>∀ p,H p=none→Q (.ref p) (upd H p (.dK []))
def tDNewT:TE:=fun _ H Q=>∀ p,H p=none→Q (.ref p) (upd H p (.dT []))
section
variable {X:Cx} {pos:Pos}
theorem pe_dnewK:PE X (.Dict [] [] pos) tDNewK:=fun pins s σ H Q I h =>
  wpAny_Dict_empty ⟨.ref s.heap.objs.size,_,I.laid (a:=s.heap.objs.size) (o:=.dK []) (t':=s.toks) (fun _ _ q=>Heap.get?_push_of_some _ q) (Nat.le_refl _) (dk_empty s.heap I.big),rfl,h _ (I.hok.fresh (Nat.le_refl _))⟩
end
def tPairs:List (TE×TE)→St→Hp→(List (V×V)→Hp→Prop)→Prop
  | [],_,H,Q=>Q [] H
  | (tk,tv)::r,σ,H,Q=>tk σ H fun x H1=>tv σ H1 fun y H2=>tPairs r σ H2 fun ps H3=>Q ((x,y)::ps) H3
abbrev VV:List (V×V)→List (Value×Value)→Prop:=Paired fun p q=>RelV p.1 q.1∧RelV p.2 q.2
def PPs (X:Cx) (pos:Pos) (keys:List (Option Expr)) (values:List Expr) (trs:List (TE×TE)):Prop :=
  ∀ (pins:List (Addr×Obj)) (s:Shared) (σ:St) (H:Hp) (Q:List (V×V)→Hp→Prop),Inv X pins σ H s→tPairs trs σ H Q→
    wpAny (model X.prog X.w) X.A (evalPairs (pairTrees keys values X.env pos)) (fun vs s'=>∃ ps H',Inv X pins σ H' s'∧VV ps vs∧Q ps H') X.xe s
def mergeK (kvs more:List (Key×V)):List (Key×V):=more.foldl (fun acc kv=>putK acc kv.1 kv.2) kvs
def tDisp (trs:List (TE×TE)):TE:=fun σ H Q=>∀ p,H p=none→tPairs trs σ (upd H p (.dK [])) fun ps H2=>H2 p=some (.dK [])∧∃ kvs:List (Key×V),ps=kvs.map (fun kv=>(kV kv.1,kv.2))∧kvs.length≤15∧Q (.ref p) (upd H2 p (.dK (mergeK [] kvs)))
structure M1 (X:Cx) (o:Expr) (m:Str) (apos:Pos) (e:Expr) (cpos:Pos):Prop where
  base:attributeBase o m X.env (eval o X.env)=eval o X.env
  few:((backTo cpos (starEach [e] X.env)).all (fun x=>!x.1) && (backToKw cpos (keywordEach [] X.env)).all (fun x=>x.1.isSome)
    && decide (([e]:List Expr).length+([]:List Keyword).length+(if ([]:List Keyword).isEmpty then 0 else 1)<30))=true
  line:(apos.endLine == cpos.line)=true
  trees:backTo cpos (starEach [e] X.env)=[(false,eval e X.env)]
structure M2 (X:Cx) (o:Expr) (m:Str) (apos:Pos) (e f:Expr) (cpos:Pos):Prop where
  base:attributeBase o m X.env (eval o X.env)=eval o X.env
  few:((backTo cpos (starEach [e,f] X.env)).all (fun x=>!x.1) && (backToKw cpos (keywordEach [] X.env)).all (fun x=>x.1.isSome)
    && decide (([e,f]:List Expr).length+([]:List Keyword).length+(if ([]:List Keyword).isEmpty then 0 else 1)<30))=true
  line:(apos.endLine == cpos.line)=true
  trees:backTo cpos (starEach [e,f] X.env)=[(false,eval e X.env),(false,eval f X.env)]
def IsD (H:Hp) (a:Addr):Prop:=(∃ kvs,Rd H a (.dK kvs))∨∃ kvs,Rd H a (.dT kvs)
section
variable {X:Cx} {pins:List (Addr×Obj)} {σ:St} {H:Hp} {s:Shared} {a:Addr} {y d:V} {u r:Value} {o:Option V} {A:Around} {E:Value→Shared→Prop}
end
def tDGet1 (td ty:TE):TE:=fun σ H Q=>td σ H fun x H1=>∃ a,x=.ref a∧IsD H1 a∧ty σ H1 fun y H2=>∃ o,DGet H2 a y o∧Q (o.getD .non) H2
def tDGet2 (td ty tx:TE):TE:=fun σ H Q=>td σ H fun x H1=>∃ a,x=.ref a∧IsD H1 a∧ty σ H1 fun y H2=>tx σ H2 fun z H3=>∃ o,DGet H3 a y o∧Q (o.getD z) H3
def tDPop1 (td ty:TE):TE:=fun σ H Q=>td σ H fun x H1=>∃ a,x=.ref a∧IsD H1 a∧ty σ H1 fun y H2=>∃ kvs k v,H2 a=some (.dK kvs)∧y=kV k∧valV kvs k=some v∧Q v (upd H2 a (.dK (dropK kvs k)))
def tDPop2 (td ty tx:TE):TE:=fun σ H Q=>td σ H fun x H1=>∃ a,x=.ref a∧IsD H1 a∧ty σ H1 fun y H2=>tx σ H2 fun z H3=>∃ kvs k,H3 a=some (.dK kvs)∧y=kV k∧
  (∀ v,valV kvs k=some v→Q v (upd H3 a (.dK (dropK kvs k))))∧(valV kvs k=none→Q z H3)
section
variable {X:Cx} {o e f:Expr} {apos cpos:Pos} {td ty tx:TE}
end
section
variable {X:Cx} {pins:List (Addr×Obj)} {σ:St} {H:Hp} {s:Shared} {a:Addr} {kvs:List (Key×V)} {A:Around} {E:Value→Shared→Prop}
end
section
variable {X:Cx} {pins:List (Addr×Obj)} {σ:St} {H:Hp} {s:Shared} {a:Addr} {y:V} {u:Value} {A:Around} {E:Value→Shared→Prop}
end
end L2
namespace SQ
open PySem PySem.Spec PyProof.Rows
def ofM (m:Nat):List Nat:=(List.range 6).filter fun i=>m.testBit i
def orM (m v:Nat):Nat:=m ||| (1 <<< v)
def tabS (led:Bool) (S:List Nat):SetTable :=
  { mask:=if S.length<5 then 7 else 31,place:=S.toArray,dummies:=#[],finger:=0,led:=led,moves:=if S.length<5 then 0 else 1,plain:=true }
def posM (m v:Nat):Nat:=((ofM m).takeWhile fun k=>decide (k<v)).length
def midS (led:Bool) (m v:Nat):SetTable:={ tabS led (ofM m) with place:=(ofM (orM m v)).toArray }
def okStep (led:Bool) (m v:Nat):Bool :=
  decide ((tabS led (ofM m)).freeSlot (v:Int)=some (v,false)) && decide ((tabS led (ofM m)).put v=(midS led m v,posM m v)) &&
  decide ((ofM m).take (posM m v)++v::(ofM m).drop (posM m v)=ofM (orM m v)) && (midS led m v).fits (ofM (orM m v)).length &&
  (if (ofM (orM m v)).length=5 then (midS led m v).tooFull && decide ((midS led m v).relaid ((ofM (orM m v)).map fun k:Nat=>(k:Int)).toArray (SetTable.grown 5)=some (tabS led (ofM (orM m v)),(List.range 5).toArray))
   else !(midS led m v).tooFull && decide (midS led m v=tabS led (ofM (orM m v))))
theorem okStep_all:∀ led:Bool,∀ m:Fin 64,∀ v:Fin 6,m.1.testBit v.1=false→okStep led m.1 v.1=true:=by decide +kernel
theorem fits_all:∀ led:Bool,∀ m:Fin 64,(tabS led (ofM m.1)).fits (ofM m.1).length=true:=by decide +kernel
theorem len_all:∀ m:Fin 64,(ofM m.1).length≤6:=by decide +kernel
theorem or_lt:∀ m:Fin 64,∀ v:Fin 6,orM m.1 v.1<64:=by decide +kernel
theorem or_same:∀ m:Fin 64,∀ v:Fin 6,m.1.testBit v.1=true→orM m.1 v.1=m.1:=by decide +kernel
theorem or_bit:∀ m:Fin 64,∀ v:Fin 6,∀ k:Fin 6,(orM m.1 v.1).testBit k.1=(m.1.testBit k.1 || decide (k.1=v.1)):=by decide +kernel
theorem mem_ofM {m k:Nat}:k∈ofM m↔k<6∧m.testBit k=true:=by unfold ofM; rw [List.mem_filter,List.mem_range]
theorem ofM_sorted (m:Nat):(ofM m).Pairwise (·<·):=List.Pairwise.filter _ List.pairwise_lt_range
theorem below_all:∀ led:Bool,∀ m:Fin 64,SetTable.below (tabS led (ofM m.1)).place 0=0∧∀ i:Fin 6,i.1<(ofM m.1).length→SetTable.below (tabS led (ofM m.1)).place ((ofM m.1).getD i.1 0+1)=i.1+1:=by decide +kernel
def EInt (e:Int×Value) (k:Nat):Prop:=e.1=(k:Int)∧∃ t,e.2=Value.int (k:Int) t
def SetS (w:World) (h:Heap) (a:Addr) (m:Nat):Prop :=
  m<64∧∃ o es ep,h.get? a=some o∧o.ExactSet∧o.data=.set es ep (tabS (!w.params.followText "set-order") (ofM m))∧Paired EInt es.toList (ofM m)
theorem pd_len {α β:Type} {F:α→β→Prop}:∀ {l₁:List α} {l₂:List β},Paired F l₁ l₂→l₁.length=l₂.length
  | _,_,.nil=>rfl
  | _,_,.cons _ t=>by rw [List.length_cons,List.length_cons,pd_len t]
theorem pd_mem {α β:Type} {F:α→β→Prop}:∀ {l₁:List α} {l₂:List β},Paired F l₁ l₂→∀ a∈l₁,∃ b∈l₂,F a b
  | _,_,.nil,_,h=>(nomatch h)
  | _,_,.cons r t,a,h=>by
    rcases List.mem_cons.mp h with rfl | h
    · exact ⟨_,List.mem_cons_self,r⟩
    · obtain ⟨b,hb,hr⟩:=pd_mem t a h
      exact ⟨b,List.mem_cons_of_mem _ hb,hr⟩
theorem pd_memR {α β:Type} {F:α→β→Prop}:∀ {l₁:List α} {l₂:List β},Paired F l₁ l₂→∀ b∈l₂,∃ a∈l₁,F a b
  | _,_,.nil,_,h=>(nomatch h)
  | _,_,.cons r t,b,h=>by
    rcases List.mem_cons.mp h with rfl | h
    · exact ⟨_,List.mem_cons_self,r⟩
    · obtain ⟨a,ha,hr⟩:=pd_memR t b h
      exact ⟨a,List.mem_cons_of_mem _ ha,hr⟩
theorem pd_app {α β:Type} {F:α→β→Prop} {b₁:List α} {b₂:List β} (hb:Paired F b₁ b₂):∀ {l₁:List α} {l₂:List β},Paired F l₁ l₂→Paired F (l₁++b₁) (l₂++b₂)
  | _,_,.nil=>hb
  | _,_,.cons r t=>.cons r (pd_app hb t)
theorem pd_take {α β:Type} {F:α→β→Prop}:∀ {l₁:List α} {l₂:List β} (n:Nat),Paired F l₁ l₂→Paired F (l₁.take n) (l₂.take n)
  | _,_,0,_=>by simpa using Paired.nil
  | _,_,_+1,.nil=>.nil
  | _,_,n+1,.cons r t=>.cons r (pd_take n t)
theorem pd_drop {α β:Type} {F:α→β→Prop}:∀ {l₁:List α} {l₂:List β} (n:Nat),Paired F l₁ l₂→Paired F (l₁.drop n) (l₂.drop n)
  | _,_,0,h=>h
  | _,_,_+1,.nil=>.nil
  | _,_,n+1,.cons _ t=>pd_drop n t
theorem hash_small:∀ k:Fin 6,hashInt (k.1:Int)=(k.1:Int):=by decide +kernel
theorem elems {prog:Program} {w:World} {es:List (Int×Value)} {m:Nat} (pr:Paired EInt es (ofM m)):ElemsOf (intKind prog w) es:=fun e he=>by
  obtain ⟨k,hk,h1,t,h2⟩:=pd_mem pr e he
  refine ⟨⟨(k:Int),?_,?_⟩,?_⟩
  · rw [h2]; exact intKind_is prog w _ t
  · rw [h1]; exact (hash_small ⟨k,(mem_ofM.mp hk).1⟩).symm
  · rw [h2]; rfl
theorem fst_map {es:List (Int×Value)} {S:List Nat} (pr:Paired EInt es S):es.map (·.1)=S.map fun k:Nat=>(k:Int):=by
  induction pr with
  | nil=>rfl
  | cons r _ ih=>rw [List.map_cons,List.map_cons,ih,r.1]
section
variable {prog:Program} {w:World} {A:Around} {E:Value→Shared→Prop} {s:Shared}
theorem store_S {a:Addr} {h:Heap} {o:Obj} {es es':Array (Int×Value)} {ep:Nat} {t t':SetTable} (ho:h.get? a=some o) (hd:o.data=.set es ep t) :
    (h.update a (Obj.putSet es' t')).get? a=some { o with data:=.set es' (ep+1) t' }:=by
  have z:=Heap.get?_update_self (Obj.putSet es' t') ho (by rw [putSet_of es' t' hd]; rfl)
  rw [putSet_of es' t' hd] at z; exact z
theorem add_S {a:Addr} {m v:Nat} {t:Tok} {Q:Bool→Shared→Prop} (hv:v<6) (hS:SetS w s.heap a m)
    (h:∀ b h',Heap.SameBut a s.heap h'→SetS w h' a (orM m v)→Q b { s with heap:=h' }) :
    wpAny (model prog w) A (setAddHashed a (.int (v:Int) t) ((intKind prog w).hash (v:Int))) Q E s:=by
  obtain ⟨hm,o,es,ep,ho,hex,hd,pr⟩:=hS
  have z6:es.size=(ofM m).length:=by have z:=pd_len pr; rwa [Array.length_toList] at z
  have zf:(tabS (!w.params.followText "set-order") (ofM m)).fits es.size=true:=by rw [z6]; exact fits_all _ ⟨m,hm⟩
  have ze:ElemsOf (intKind prog w) es.toList:=elems pr
  have zl:es.size≤6:=by rw [z6]; exact len_all ⟨m,hm⟩
  have zb:es.size<scanBound:=by unfold scanBound; omega
  unfold setAddHashed setAddHashedIn
  refine wpAny_holding (wpAny_bind (wpAny_setState_of ho hd zf ?_)); dsimp only
  rw [byScan_of rfl zb ze]; simp only [↓reduceIte]; unfold setAddByScan
  refine wpAny_bind (wpAny_bind (wpAny_rule (wpAny_bind (wpAny_setScan_of (knd:=intKind prog w) (intKind_is _ _ _ _) ho hd zf ze ?_))))
  cases hr:List.findIdx? (fun e=>(intKind prog w).is (v:Int) e.2) es.toList with
  | some j =>
    dsimp only
    obtain ⟨hj,hpj,_⟩:=List.findIdx?_eq_some_iff_getElem.mp hr
    have hbit:m.testBit v=true:=by
      obtain ⟨k,hk,_,tk,e2⟩:=pd_mem pr _ (List.getElem_mem hj)
      rw [e2] at hpj
      have ek:(k:Int)=(v:Int):=(intKind prog w).inj _ _ _ (intKind_is prog w _ tk) hpj
      have ek':k=v:=by omega
      exact ek'▸(mem_ofM.mp hk).2
    refine wpAny_pure (wpAny_pure ?_)
    have e:s={ s with heap:=s.heap }:=by cases s; rfl
    have z:=h false s.heap (Heap.SameBut.refl a s.heap) (by rw [or_same ⟨m,hm⟩ ⟨v,hv⟩ hbit]; exact ⟨hm,o,es,ep,ho,hex,hd,pr⟩)
    rw [← e] at z; exact z
  | none =>
    dsimp only
    have hbit:m.testBit v=false:=by
      cases q:m.testBit v with
      | false=>rfl
      | true =>
        obtain ⟨e,he,_,tk,e2⟩:=pd_memR pr v (mem_ofM.mpr ⟨hv,q⟩)
        have z:=List.findIdx?_eq_none_iff.mp hr e he
        rw [e2,intKind_is] at z; exact Bool.noConfusion z
    have ok:=okStep_all (!w.params.followText "set-order") ⟨m,hm⟩ ⟨v,hv⟩ hbit
    unfold okStep at ok
    simp only [Bool.and_eq_true,decide_eq_true_eq] at ok
    obtain ⟨⟨⟨⟨k1,k2⟩,k3⟩,k4⟩,k5⟩:=ok
    generalize hled:(!w.params.followText "set-order")=led at *
    have hins:Paired EInt (SetTable.insertAt es (posM m v) ((v:Int),Value.int (v:Int) t)).toList (ofM (orM m v)):=by
      rw [SetTable.toList_insertAt,← k3]
      exact pd_app (.cons ⟨rfl,t,rfl⟩ (pd_drop _ pr)) (pd_take _ pr)
    have hisz:(SetTable.insertAt es (posM m v) ((v:Int),Value.int (v:Int) t)).size=(ofM (orM m v)).length:=by have z:=pd_len hins; rwa [Array.length_toList] at z
    have hlay:layNew (tabS led (ofM m)) es ((intKind prog w).hash (v:Int)) (Value.int (v:Int) t)=(SetTable.insertAt es (posM m v) ((v:Int),Value.int (v:Int) t),midS led m v,false,false):=by
      unfold layNew
      rw [show (intKind prog w).hash (v:Int)=(v:Int) from hash_small ⟨v,hv⟩,k1]; dsimp only
      rw [k2]; dsimp only
      rw [hisz]; unfold SetTable.orStandIn
      rw [k4,if_pos rfl]; rfl
    rw [hlay]; dsimp only
    refine wpAny_bind (wpAny_pure ?_)
    refine wpAny_bind ?_
    rw [hashByValue_scannable 8 (x:=Value.int (v:Int) t) rfl]
    refine wpAny_pure ?_
    rw [show plainKind (Value.int (v:Int) t)=true from rfl,if_pos rfl]
    have hz1:(SetTable.insertAt es (posM m v) ((v:Int),Value.int (v:Int) t)).size≤sizeLine:=by rw [hisz,sizeLine_eq]; have z:=len_all ⟨orM m v,or_lt ⟨m,hm⟩ ⟨v,hv⟩⟩; dsimp only at z; omega
    refine wpAny_bind (wpAny_storeSet_of ho hd ?_ hz1)
    generalize hI:SetTable.insertAt es (posM m v) ((v:Int),Value.int (v:Int) t)=es1 at *
    have ho1:=store_S (es':=es1) (t':=midS led m v) ho hd
    have hlt:orM m v<64:=or_lt ⟨m,hm⟩ ⟨v,hv⟩
    have hsb:=Heap.SameBut.update s.heap a (Obj.putSet es1 (midS led m v))
    by_cases h5:(ofM (orM m v)).length=5
    · rw [if_pos h5] at k5
      obtain ⟨k6,k7⟩:=Bool.and_eq_true_iff.mp k5
      rw [if_pos (by rw [k6]; rfl)]
      have hrel:relayAll (midS led m v) es1 (SetTable.grown es1.size)=(es1,tabS led (ofM (orM m v)),false):=by
        have e1:es1.map (·.1)=((ofM (orM m v)).map fun k:Nat=>(k:Int)).toArray:=by
          apply Array.ext'; rw [Array.toList_map,fst_map hins]
        unfold relayAll
        rw [hisz,h5,e1,of_decide_eq_true k7]; dsimp only
        have e2:(List.range 5).toArray.filterMap (fun i=>es1[i]?)=es1:=by
          apply Array.ext'
          rw [Array.toList_filterMap]
          have z:=filterMap_getElem?_range es1
          rw [hisz,h5] at z; exact z
        rw [e2,hisz,show (tabS led (ofM (orM m v))).fits (ofM (orM m v)).length=true from fits_all led ⟨_,hlt⟩,if_pos (by decide +kernel)]
      rw [hrel]; dsimp only
      refine wpAny_bind (wpAny_pure (wpAny_bind (wpAny_storeSet_of ho1 rfl (wpAny_pure ?_) hz1)))
      exact wpAny_pure (h true _ (hsb.trans (Heap.SameBut.update _ a _)) ⟨hlt,_,es1,_,store_S ho1 rfl,hex,by rw [hled],hins⟩)
    · rw [if_neg h5] at k5
      obtain ⟨k6,k7⟩:=Bool.and_eq_true_iff.mp k5
      rw [if_neg (by intro z; rw [Bool.not_eq_true'] at k6; rw [k6] at z; cases z)]
      exact wpAny_pure (wpAny_pure (h true _ hsb ⟨hlt,_,es1,_,ho1,hex,by rw [hled,← of_decide_eq_true k7],hins⟩))
end
end SQ
namespace SQ
open PySem PySem.Spec PyProof.Rows
def mk (val:Nat→Nat):Nat→Nat
  | 0=>0
  | i+1=>orM (mk val i) (val i)
theorem SetS.at' {w:World} {h h':Heap} {a:Addr} {m:Nat} (x:SetS w h a m) (k:∀ o,h.get? a=some o→h'.get? a=some o):SetS w h' a m:=by
  obtain ⟨hm,o,es,ep,ho,r⟩:=x
  exact ⟨hm,o,es,ep,k _ ho,r⟩
section
variable {prog:Program} {w:World} {A:Around} {R:Result→Shared→Prop} {I:Addr} {fp wr:List Addr} {G:Array GenState→Array GenState→Prop} {n:Nat} {P:Nat→Value→Prop} {St:Nat→Shared→Prop}
theorem loop_S (W:WalksS prog w A.in1 I fp wr G n P St) (S:Addr) (nSf:S∉fp) (val:Nat→Nat) (hval:∀ i v,P i v→∃ t,v=.int (val i:Int) t) (h6:∀ i,val i<6) :
    ∀ (k i:Nat) (s:Shared),n - i=k→i≤n→St i s→SetS w s.heap S (mk val i)→
      (∀ s',Moved (S::wr) G s s'→SetS w s'.heap S (mk val n)→R (.ok (.ret .none)) s')→
      codeAny (model prog w) A (.builtin "set.update.loop" ⟨[.ref S,.ref I],[]⟩) R s:=by
  have nSw:S∉wr:=fun z=>nSf (W.sub _ z)
  have lsub:∀ b∈wr,b∈S::wr:=fun b z=>List.mem_cons_of_mem _ z
  intro k
  induction k with
  | zero =>
    intro i s hk hi st hS hR
    obtain rfl:i=n:=by omega
    refine codeAny_builtin F.entry_set_update_loop ?_; rw [Around.under_plainId F.plain_set_update_loop _]
    show wpAny _ A.in1 (pyNext (.ref I) >>= _) _ _ s
    refine wpAny_bind (W.done s _ _ st fun s' hm=>?_); show wpAny _ A.in1 (ret Value.none) _ _ s'
    exact wpAny_pure (hR s' (hm.mono lsub) (hS.at' fun o z=>hm.heap S _ nSw z))
  | succ k ih =>
    intro i s hk hi st hS hR
    have lt:i<n:=by omega
    refine codeAny_builtin F.entry_set_update_loop ?_; rw [Around.under_plainId F.plain_set_update_loop _]
    show wpAny _ A.in1 (pyNext (.ref I) >>= _) _ _ s
    refine wpAny_bind (W.item i s _ _ lt st fun v s' hP st' hm=>?_)
    obtain ⟨t,rfl⟩:=hval i v hP
    have hS1:SetS w s'.heap S (mk val i):=hS.at' fun o z=>hm.heap S _ nSw z
    show wpAny _ A.in1 (holding [Value.int (val i:Int) t] (setAdd S (.int (val i:Int) t)) >>= _) _ _ s'
    refine wpAny_bind (wpAny_holding ?_); unfold setAdd
    refine wpAny_holding (wpAny_bind ((intKind prog w).pyHash (k:=(val i:Int)) (intKind_is _ _ _ _) ?_))
    refine add_S (s:={ s' with toks:=s'.toks+1 }) (h6 i) hS1 fun b h' sb hS2=>?_
    refine wpAny_pure ⟨plainId_quiet F.plain_set_update_loop _,ih (i+1) _ (by omega) lt (W.frame _ s' _ _ st' (Nat.le_succ _) fun b hb o e=>?_) hS2 fun s'' hm'' hS''=>?_⟩
    · rw [sb.2 b (fun z:b=S=>nSf (by rw [← z]; exact hb))]; exact e
    · refine hR s'' (Moved.trans W.gtrans ((hm.mono lsub).then_heap (Nat.le_succ _) fun b o hb e=>?_) hm'') hS''
      rw [sb.2 b (fun z:b=S=>hb (by rw [z]; exact List.mem_cons_self))]; exact e
end
section
variable {prog:Program} {w:World} {A:Around} {E:Value→Shared→Prop} {s:Shared}
def newS (w:World):Obj:={ cls:=.type "set",dict:=none,data:=.set #[] 0 (.fresh 0 0 (!w.params.followText "set-order")) }
theorem new_S (w:World) {h:Heap} {a:Addr} (e:h.get? a=some (newS w)):SetS w h a 0 :=
  ⟨by decide,_,#[],0,e,⟨rfl,rfl,rfl⟩,rfl,.nil⟩
theorem code_new_S (a:Value) {Q₁:Value→Shared→Prop} (h:Q₁ (.ref s.heap.objs.size) { s with heap:=s.heap.push (newS w) }) :
    codeAny (model prog w) A (.call (.builtin "set.__new__") ⟨[.type "set",a],[]⟩) (wants Q₁ E) s:=by
  refine codeAny_of_tree ?_
  show wpAny _ A.in1 (do checkBuiltinCall "set.__new__" ⟨[.type "set",a],[]⟩; again (.builtin "set.__new__" ⟨[.type "set",a],[]⟩)) _ _ s
  refine wpAny_bind (wpAny_of_eq (F.newCall_set_1 a) (wpAny_pure ⟨plainId_quiet F.plain_set_new _,codeAny_builtin F.entry_set_new ?_⟩)); rw [Around.under_plainId F.plain_set_new _]
  unfold Builtin.«set.__new__» Builtin.Frozenset.newClass
  have hsub:=sub_set_self
  obtain ⟨hp,g,d,tk,os⟩:=s
  dsimp only
  wp_walk
  refine wpAny_askSetting (wpAny_pure ?_); dsimp only; simp only [newObj]
  exact wpAny_bind (wpAny_alloc (wpAny_pure (wpAny_pure h)))
theorem call_set_S {l:Addr} {items:Array Value} {ns:List Nat} {Q:Value→Shared→Prop}
    (hh:A.handled=none) (hl:s.heap.IsList l items) (hi:∀ (i:Nat) (v:Value),items[i]?=some v→∃ t,v=.int ((ns.getD i 0:Nat):Int) t) (h6:∀ k∈ns,k<6)
    (h:∀ (h':Heap) (tk:Nat),SetS w h' s.heap.objs.size (mk (fun i=>ns.getD i 0) items.size)→
      (∀ b o,s.heap.get? b=some o→h'.get? b=some o)→Q (.ref s.heap.objs.size) { s with heap:=h',toks:=tk }) :
    wpAny (model prog w) A (call (.type "set") [.ref l]) Q E s:=by
  obtain ⟨c,tl,hmro⟩:=F.called_set.mro
  have hmade:=F.called_set.made
  have hsub:=F.called_set.sub
  refine wpAny_call (codeAny_of_tree ?_); show wpAny _ _ (callAny (.type "set") _) _ _ _
  refine wpAny_pure ⟨Code.quiet_builtin _ (by decide +kernel),codeAny_builtin F.entry_type_call ?_⟩; rw [Around.under_plain (weight_type_call_type "set" [.ref l] []) rfl]
  have h1:=F.called_set.notType
  have h2:=F.called_set.canCreate
  have hct:=F.typeCall_set_1 (.ref l)
  repeat (any_goals (first | assumption | wp_step))
  refine codeAny_mono (code_new_S (.ref l) (E:=E) (Q₁:=fun obj s₁=>obj=.ref s.heap.objs.size∧s₁={ s with heap:=s.heap.push (newS w) }) ⟨rfl,rfl⟩) fun r s₁ hr=>?_
  cases r with
  | error e=>exact hr
  | ok fl =>
    cases fl with
    | ret obj =>
      obtain ⟨rfl,rfl⟩:=hr
      have gS:(s.heap.push (newS w)).get? s.heap.objs.size=some (newS w):=Heap.get?_push_size _ rfl
      have hT:Shared.TypeIs { s with heap:=s.heap.push (newS w) } (.ref s.heap.objs.size) "set":=⟨_,gS,rfl⟩
      have hli:=F.called_set.init.lookup
      have hbi:=F.called_set.init.bind (.ref s.heap.objs.size)
      repeat (any_goals (first | assumption | wp_step))
      refine codeAny_mono (codeAny_call_builtin (R:=wants (fun r s₂=>r=.none∧∃ h' tk,s₂={ s with heap:=h',toks:=tk }∧SetS w h' s.heap.objs.size (mk (fun i=>ns.getD i 0) items.size)∧
          (∀ b o,s.heap.get? b=some o→h'.get? b=some o)) E) F.called_set.init.plain F.entry_set_init (check_set_init_1 hT ?_)) fun r₂ s₂ hr₂=>?_
      · obtain ⟨ol,hol,hcl,nl,hdl⟩:=hl
        obtain ⟨ocls,odict,odata,oslots⟩:=ol
        simp only at hcl hdl
        subst hcl; subst hdl
        have hol':(s.heap.push (newS w)).get? l=some { cls:=.type "list",dict:=odict,data:=.seq items nl,slots:=oslots }:=Heap.get?_push_of_some _ hol
        have hsls:=F.sub_list_set
        have hslf:=F.sub_list_frozenset
        have hne:(Value.type "list" == Value.type "dict")=false:=by decide
        have hl1:(s.heap.push (newS w)).IsList l items:=⟨_,hol',rfl,nl,rfl⟩
        unfold Builtin.«set.__init__» noKeywords Builtin.Frozenset.updateFrom
        generalize hPI:pyIter=PI
        wp_walk
        subst hPI
        refine wpAny_pyIter_list hl1 (wpAny_bind (wpAny_runValue ?_))
        have hlS:l<s.heap.objs.size:=Heap.lt_size hol
        have hh3:A.in1.in1.in1.handled=none:=by simp [hh]
        have hneI:l≠(s.heap.push (newS w)).objs.size:=by rw [Heap.size_push]; exact Nat.ne_of_lt (Nat.lt_succ_of_lt hlS)
        have hSf:s.heap.objs.size∉[(s.heap.push (newS w)).objs.size,l]:=by
          rw [Heap.size_push]; intro z
          rcases List.mem_cons.mp z with z | z
          · exact absurd z (Nat.ne_of_lt (Nat.lt_succ_self _))
          · exact absurd (List.mem_singleton.mp z) (Nat.ne_of_gt hlS)
        refine loop_S ((Walks.list hh3 _ l hneI items).toS) s.heap.objs.size hSf (fun i=>ns.getD i 0) hi ?h6 (items.size - 0) 0 _ (by omega) (Nat.zero_le _)
          ⟨⟨_,Heap.get?_push_size _ rfl,rfl,rfl⟩,(hl1.push _)⟩ ?hS0 ?hR
        case h6 =>
          intro i
          show ns.getD i 0<6
          rw [List.getD_eq_getElem?_getD]
          cases q:ns[i]? with
          | none=>exact (by decide:0<6)
          | some k=>exact h6 k (List.mem_of_getElem? q)
        case hS0=>exact new_S w (Heap.get?_push_of_some _ gS)
        case hR =>
          intro s' hm hS'
          obtain ⟨h',g',d',tk',os'⟩:=s'
          have eg:g'=s.gens:=hm.gens
          have ed:d'=s.drawn:=hm.drawn
          have eo:os'=s.os:=hm.os
          subst eg; subst ed; subst eo
          refine wpAny_pure ?_
          show wpAny _ _ (ret Value.none) _ _ _
          refine wpAny_pure ⟨rfl,h',tk',rfl,hS',fun b o e=>?_⟩
          have hb:=Heap.lt_size e
          refine hm.heap b o (fun z=>?_) (Heap.get?_push_of_some _ (Heap.get?_push_of_some _ e))
          rcases List.mem_cons.mp z with z | z
          · exact absurd z (Nat.ne_of_lt hb)
          · rw [List.mem_singleton,Heap.size_push] at z
            exact absurd z (Nat.ne_of_lt (Nat.lt_succ_of_lt hb))
      · cases r₂ with
        | error e=>exact hr₂
        | ok fl₂ =>
          cases fl₂ with
          | ret r =>
            obtain ⟨rfl,h',tk,rfl,hS',hk'⟩:=hr₂
            repeat (any_goals (first | assumption | wp_step))
            exact h _ _ hS' hk'
          | _=>exact hr₂.elim
    | _=>exact hr.elim
end
end SQ
namespace SQ
open PySem PySem.Spec PyProof.Rows
theorem entry_iter:entryFor table "set.__iter__"=some Builtin.«frozenset.__iter__»:=entryFor_alias (id':="frozenset.__iter__") (by kernel_rfl) rfl (by decide +kernel) (by kernel_rfl)
theorem slot_it_next:Slot "set_iterator" "__next__" "set_iterator.__next__" :=
  .of (owner:="set_iterator") (n:="__next__") (by rw [typeLookup_type,builtinLookup_eq_fast]; kernel_rfl) (by decide +kernel) (by decide +kernel) (by decide +kernel) (by first | exact .inl (by decide +kernel) | exact .inr (by decide +kernel)) (by rw [isSubtype_type]; kernel_rfl)
theorem entry_it_next:entryFor table "set_iterator.__next__"=some Builtin.«set_iterator.__next__»:=entryFor_of_tree (by kernel_rfl)
theorem args_it_next (a:Value):argsOk "set_iterator.__next__" ⟨[a],[]⟩:=by unfold argsOk; kernel_rfl
theorem slot_it_iter:Slot "set_iterator" "__iter__" "set_iterator.__iter__" :=
  .of (owner:="set_iterator") (n:="__iter__") (by rw [typeLookup_type,builtinLookup_eq_fast]; kernel_rfl) (by decide +kernel) (by decide +kernel) (by decide +kernel) (by first | exact .inl (by decide +kernel) | exact .inr (by decide +kernel)) (by rw [isSubtype_type]; kernel_rfl)
theorem entry_it_iter:entryFor table "set_iterator.__iter__"=some Builtin.«dict_keyiterator.__iter__»:=entryFor_alias (id':="dict_keyiterator.__iter__") (by kernel_rfl) rfl (by decide +kernel) (by kernel_rfl)
theorem args_it_iter (a:Value):argsOk "set_iterator.__iter__" ⟨[a],[]⟩:=by unfold argsOk; kernel_rfl
theorem erase_perm {α:Type}:∀ (l:List α) (i:Nat) (h:i<l.length),(l[i]::l.eraseIdx i).Perm l
  | x::xs,0,_=>.refl _
  | x::xs,i+1,h=>((erase_perm xs i (by simpa using h)).cons x |> fun z=>(List.Perm.swap x _ _).trans z)
theorem go_perm {α:Type} (nx:Nat→Nat):∀ (fuel k:Nat) (left:List α) (out:Array α),fuel=left.length→(pickOrder.go nx fuel k left out).toList.Perm (out.toList++left)
  | 0,k,left,out,h=>by
    have e:left=[]:=List.length_eq_zero_iff.mp h.symm
    subst e
    unfold pickOrder.go
    simp
  | fuel+1,k,left,out,h=>by
    unfold pickOrder.go
    have hpos:0<left.length:=by omega
    have hlt:nx k % left.length<left.length:=Nat.mod_lt _ hpos
    rw [List.getElem?_eq_getElem hlt]
    dsimp only
    refine (go_perm nx fuel (k+1) _ _ (by rw [List.length_eraseIdx]; simp [hlt]; omega)).trans ?_
    rw [Array.toList_push,List.append_assoc]
    refine List.Perm.append_left _ ?_
    exact erase_perm _ _ hlt
theorem pick_perm {α:Type} (nx:Nat→Nat) (xs:Array α):(pickOrder nx xs).toList.Perm xs.toList:=by
  have z:=go_perm nx xs.size 0 xs.toList #[] (by simp)
  unfold pickOrder
  simpa using z
def order (w:World) (a:Addr) (es:Array (Int×Value)) (ep:Nat):Array (Int×Value):=if w.params.followText "set-order" then pickOrder (w.params.setOrder a ep) es else es
theorem order_perm (w:World) (a:Addr) (es:Array (Int×Value)) (ep:Nat):(order w a es ep).toList.Perm es.toList:=by
  unfold order; split
  · exact pick_perm _ _
  · exact .refl _
theorem order_size (w:World) (a:Addr) (es:Array (Int×Value)) (ep:Nat):(order w a es ep).size=es.size:=by
  have z:=(order_perm w a es ep).length_eq; simpa using z
def sl (w:World) (m i:Nat):Nat:=if w.params.followText "set-order" then 0 else if i=0 then 0 else (ofM m).getD (i - 1) 0+1
structure KS (w:World) (o:Obj) (es:Array (Int×Value)) (ep m:Nat):Prop where
  lt:m<64
  ex:o.ExactSet
  da:o.data=.set es ep (tabS (!w.params.followText "set-order") (ofM m))
  pr:Paired EInt es.toList (ofM m)
theorem KS.size {w:World} {o:Obj} {es:Array (Int×Value)} {ep m:Nat} (k:KS w o es ep m):es.size=(ofM m).length:=by have z:=pd_len k.pr; rwa [Array.length_toList] at z
theorem KS.fits {w:World} {o:Obj} {es:Array (Int×Value)} {ep m:Nat} (k:KS w o es ep m):(tabS (!w.params.followText "set-order") (ofM m)).fits es.size=true:=by rw [k.size]; exact fits_all _ ⟨m,k.lt⟩
def IsIt (h:Heap) (it a:Addr) (q i n ep:Nat):Prop:=∃ o,h.get? it=some o∧o.cls=.type "set_iterator"∧o.data=.fields #[.int q 0,.int i 0,.ref a,.int n 0,.int ep 0]
section
variable {prog:Program} {w:World} {A:Around} {E:Value→Shared→Prop} {s:Shared} {a it:Addr} {o:Obj} {es:Array (Int×Value)} {ep m i:Nat}
theorem byText {Q:Bool→Shared→Prop} (h:Q (w.params.followText "set-order") s):wpAny (model prog w) A setsByText Q E s:=by
  unfold setsByText
  exact wpAny_bind (wpAny_askSetting (wpAny_pure h))
theorem iter_S {Q:Value→Shared→Prop} (ho:s.heap.get? a=some o) (k:KS w o es ep m)
    (h:Q (.ref s.heap.objs.size) { s with heap:=s.heap.push { cls:=.type "set_iterator",data:=.fields #[.int (0:Nat) 0,.int (0:Nat) 0,.ref a,.int es.size 0,.int ep 0] } }) :
    wpAny (model prog w) A (pyIter (.ref a)) Q E s:=by
  have hT:s.TypeIs (.ref a) "set":=⟨o,ho,k.ex.1⟩
  refine wpAny_pyIter_slot hT F.slot_set_iter (wpAny_call_entry F.slot_set_iter hT entry_iter ?_ (F.args_set_iter_1 _))
  unfold Builtin.«frozenset.__iter__» Builtin.Frozenset.slot0 slotArgs
  simp only [List.isEmpty_nil,Bool.not_true,Bool.false_eq_true,↓reduceIte,bind_assoc,List.length_nil,bne_self_eq_false]
  unfold Builtin.Frozenset.addrOf Builtin.Frozenset.sizeOf
  refine wpAny_bind (wpAny_pure ?_)
  try dsimp only
  refine wpAny_bind (wpAny_pure ?_)
  refine wpAny_bind (wpAny_bind (wpAny_setEntries_of ho k.da k.fits (wpAny_pure ?_)))
  refine wpAny_bind ?_
  unfold setDrawn
  refine wpAny_bind (wpAny_setState_of ho k.da k.fits ?_)
  dsimp only
  refine wpAny_bind (byText (wpAny_pure ?_))
  rw [if_neg (by intro z; rw [Bool.and_eq_true] at z; exact absurd z.2 Bool.false_ne_true)]
  refine wpAny_bind (wpAny_pure ?_)
  refine wpAny_bind (wpAny_setEpoch_of ho k.da k.fits ?_)
  refine wpAny_bind (wpAny_newObj_type (wpAny_pure ⟨_,rfl,"set_iterator",_,⟨_,Heap.get?_push_size _ rfl,rfl⟩,slot_it_next.lookup,?_⟩))
  exact h
theorem sl_zero:sl w m 0=0:=by unfold sl; split <;> rfl
theorem next_S {Q:Option (Value×Nat)→Shared→Prop} (ho:s.heap.get? a=some o) (k:KS w o es ep m) (hi:i≤es.size)
    (h:Q (((order w a es ep)[i]?).map fun e=>(e.2,sl w m (i+1))) s):wpAny (model prog w) A (setNext a (sl w m i) i ep) Q E s:=by
  unfold setNext
  refine wpAny_bind (wpAny_setState_of ho k.da k.fits ?_)
  dsimp only
  refine wpAny_bind (byText ?_)
  unfold order at h
  cases hf:w.params.followText "set-order" with
  | true =>
    rw [hf,if_pos rfl] at h
    rw [if_pos rfl,if_neg (by simp)]
    unfold setWalk
    refine wpAny_bind (wpAny_bind (wpAny_setState_of ho k.da k.fits ?_))
    dsimp only
    refine wpAny_bind (byText ?_)
    rw [hf,if_pos rfl]
    refine wpAny_bind (wpAny_askSetting (wpAny_pure (wpAny_pure ?_)))
    have e:∀ j,sl w m j=0:=fun j=>by unfold sl; rw [hf]; rfl
    rw [e] at h
    rw [e]; exact h
  | false =>
    rw [hf,if_neg Bool.false_ne_true] at h
    rw [if_neg Bool.false_ne_true,if_neg (by intro z; exact absurd z Bool.false_ne_true)]
    refine wpAny_bind (wpAny_of_eq (a:=()) (by rfl) ?_)
    have hsz:=k.size
    have hb:SetTable.below (tabS true (ofM m)).place (sl w m i)=i:=by
      unfold sl
      rw [hf,if_neg Bool.false_ne_true]
      have ba:=below_all true ⟨m,k.lt⟩
      by_cases h0:i=0
      · subst h0; rw [if_pos rfl]; exact ba.1
      · rw [if_neg h0]
        have l6:=len_all ⟨m,k.lt⟩
        dsimp only at l6
        have z:=ba.2 ⟨i - 1,by omega⟩ (by show i - 1<(ofM m).length; omega)
        dsimp only at z
        rw [z]; omega
    show wpAny _ _ (pure (match es[SetTable.below (tabS true (ofM m)).place (sl w m i)]?,(tabS true (ofM m)).place[SetTable.below (tabS true (ofM m)).place (sl w m i)]? with
      | some (_,x),some j=>some (x,j+1)
      | _,_=>none)) _ _ _
    rw [hb]
    refine wpAny_pure ?_
    have hp:(tabS true (ofM m)).place[i]?=(ofM m)[i]?:=by show (ofM m).toArray[i]?=_; simp
    rw [hp]
    rcases Nat.lt_or_ge i es.size with lt | ge
    · have lt':i<(ofM m).length:=by omega
      rw [Array.getElem?_eq_getElem lt] at h ⊢
      rw [List.getElem?_eq_getElem lt']
      have e:sl w m (i+1)=(ofM m)[i]+1:=by
        unfold sl
        rw [hf,if_neg Bool.false_ne_true,if_neg (Nat.succ_ne_zero i),Nat.add_sub_cancel,List.getD_eq_getElem?_getD,List.getElem?_eq_getElem lt']; rfl
      rw [Option.map_some,e] at h; exact h
    · have z:es[i]?=none:=Array.getElem?_eq_none ge
      rw [z] at h ⊢; exact h
theorem item_S {Q:Option Value→Shared→Prop} {x:Int×Value} (hit:IsIt s.heap it a (sl w m i) i es.size ep) (ho:s.heap.get? a=some o) (k:KS w o es ep m) (hx:(order w a es ep)[i]?=some x)
    (h:∀ h',IsIt h' it a (sl w m (i+1)) (i+1) es.size ep→Heap.ExtBut it s.heap h'→Q (some x.2) { s with heap:=h' }):wpAny (model prog w) A (pyNext (.ref it)) Q E s:=by
  obtain ⟨oi,hoi,hc,hd⟩:=hit
  have hT:s.TypeIs (.ref it) "set_iterator":=⟨oi,hoi,hc⟩
  have hi:i≤es.size:=by rw [← order_size w a es ep]; exact Nat.le_of_lt (Array.getElem?_eq_some_iff.mp hx).1
  unfold pyNext
  refine wpAny_bind (wpAny_attempt (wpAny_callSpecial?_slot (name:=Str.ofString "__next__") hT slot_it_next (wpAny_call_entry slot_it_next hT entry_it_next ?_ (args_it_next _))))
  unfold Builtin.«set_iterator.__next__»
  refine wpAny_bind (wpAny_pure ?_)
  refine wpAny_bind (wpAny_fieldsOf hoi hd ?_)
  dsimp only
  refine wpAny_bind (wpAny_setEntries_of ho k.da k.fits ?_)
  rw [if_neg (by simp)]
  simp only [Int.toNat_natCast]
  refine wpAny_bind (next_S ho k hi ?_)
  rw [hx,Option.map_some]
  dsimp only
  refine wpAny_bind (wpAny_setField hoi hd (by simp) ?_)
  have e1:=Heap.get?_update_self (f:=Obj.mapFields (·.setIfInBounds 0 (rawInt (sl w m (i+1):Nat)))) hoi (Obj.isFreed_of_fields (Obj.data_mapFields hd _))
  have d1:=Obj.data_mapFields hd (·.setIfInBounds 0 (rawInt (sl w m (i+1):Nat)))
  refine wpAny_bind (wpAny_setField e1 d1 (by simp) ?_)
  have e2:=Heap.get?_update_self (f:=Obj.mapFields (·.setIfInBounds 1 (rawInt ((i:Int)+1)))) e1 (Obj.isFreed_of_fields (Obj.data_mapFields d1 _))
  refine wpAny_pure ⟨_,rfl,?_⟩
  refine wpAny_pure (h _ ⟨_,e2,(Obj.cls_mapFields ..).trans ((Obj.cls_mapFields ..).trans hc),?_⟩ ?_)
  · rw [Obj.data_mapFields d1]; simp [rawInt]
  · exact ((Heap.SameBut.update s.heap it _).trans (Heap.SameBut.update _ it _)).extBut
theorem done_S {Q:Option Value→Shared→Prop} (hh:A.handled=none) (hit:IsIt s.heap it a (sl w m i) i es.size ep) (ho:s.heap.get? a=some o) (k:KS w o es ep m) (hx:i=es.size)
    (h:∀ h',Heap.ExtBut it s.heap h'→Q none { s with heap:=h' }):wpAny (model prog w) A (pyNext (.ref it)) Q E s:=by
  obtain ⟨oi,hoi,hc,hd⟩:=hit
  have hT:s.TypeIs (.ref it) "set_iterator":=⟨oi,hoi,hc⟩
  unfold pyNext
  refine wpAny_bind (wpAny_attempt (wpAny_callSpecial?_slot (name:=Str.ofString "__next__") hT slot_it_next (wpAny_call_entry slot_it_next hT entry_it_next ?_ (args_it_next _))))
  unfold Builtin.«set_iterator.__next__»
  refine wpAny_bind (wpAny_pure ?_)
  refine wpAny_bind (wpAny_fieldsOf hoi hd ?_)
  dsimp only
  refine wpAny_bind (wpAny_setEntries_of ho k.da k.fits ?_)
  rw [if_neg (by simp)]
  simp only [Int.toNat_natCast]
  refine wpAny_bind (next_S ho k (Nat.le_of_eq hx) ?_)
  rw [Array.getElem?_eq_none (by rw [order_size]; omega),Option.map_none]
  dsimp only
  refine wpAny_bind (wpAny_setField hoi hd (by simp) ?_)
  refine wpAny_bind ?_
  simp only [newExc,newTuple]
  refine wpAny_bind (wpAny_newObj_type ?_ (by size_fits))
  refine wpAny_bind (m:=firstArgMember _ _) (wpAny_of_eq (a:=Value.none) (by first | rfl | (simp only [firstArgMember]; rfl)) ?_)
  refine wpAny_newObj_type ?_ (by size_fits)
  simp only [raiseNew]
  refine wpAny_bind (wpAny_handled ?_); rw [show A.in1.handled=none from hh]
  refine wpAny_bind (wpAny_pure (wpAny_throw ?_))
  refine wpAny_bind (wpAny_isInstance (T:="StopIteration") (b:=true) ⟨_,Heap.get?_push_size _ rfl,rfl⟩ isSubtype_stop ?_)
  exact wpAny_pure (h _ (((Heap.SameBut.update ..).extBut.push _).push _))
theorem self_S {Q:Value→Shared→Prop} {q n:Nat} (hit:IsIt s.heap it a q i n ep) (h:Q (.ref it) s):wpAny (model prog w) A (pyIter (.ref it)) Q E s:=by
  obtain ⟨oi,hoi,hc,hd⟩:=hit
  have hT:s.TypeIs (.ref it) "set_iterator":=⟨oi,hoi,hc⟩
  refine wpAny_pyIter_slot hT slot_it_iter (wpAny_call_entry slot_it_iter hT entry_it_iter ?_ (args_it_iter _)); show wpAny _ _ (ret (.ref it)) _ _ s
  exact wpAny_pure ⟨_,rfl,"set_iterator",_,hT,slot_it_next.lookup,h⟩
theorem walks_S (hh:A.handled=none) (I:Addr) (hne:a≠I) (k:KS w o es ep m) :
    Walks prog w A I [I,a] [I] es.size (fun i v=>∃ x,(order w a es ep)[i]?=some x∧v=x.2) (fun i h=>IsIt h I a (sl w m i) i es.size ep∧h.get? a=some o) where
  sub:=fun b hb=>by simp at hb; simp [hb]
  frame:=fun _ _ _ st hk=>⟨let ⟨oi,e,r⟩:=st.1; ⟨oi,hk I (by simp) _ e,r⟩,hk a (by simp) _ st.2⟩
  item:=fun i s Q E hi st hQ=>by
    have lt:i<(order w a es ep).size:=by rw [order_size]; exact hi
    refine item_S st.1 st.2 k (x:=(order w a es ep)[i]) (by simp [lt]) fun h' hit' hs'=>?_
    exact hQ _ h' s.toks ⟨_,by simp [lt],rfl⟩ ⟨hit',hs' a o hne st.2⟩ fun b o hb e=>hs' b o (fun z=>hb (by simp [z])) e
  done:=fun s Q E st hQ=>done_S hh st.1 st.2 k rfl fun h' he'=>hQ h' s.toks fun b o hb e=>he' b o (fun z=>hb (by simp [z])) e
  self:=fun _ _ _ _ st hQ=>self_S st.1 hQ
theorem hint_S {Q:Bool→Shared→Prop} (hT:s.TypeIs (.ref a) "set") (h:Q false s):wpAny (model prog w) A (Builtin.List.listLengthHint (.ref a)) Q E s:=by
  unfold Builtin.List.listLengthHint
  refine wpAny_bind (wpAny_specialOf hT PySem.F.slot_set_len.lookup ?_)
  generalize hid:("set.__len__":String)=id0
  wp_delta
  rw [show splitId id0=some ("set","__len__") from by subst hid; decide +kernel]; subst hid
  refine wpAny_bind (wpAny_isInstance (T:="set") (b:=true) hT (by rw [isSubtype_type]; kernel_rfl) ?_)
  refine wpAny_ite_split (fun hab=>absurd hab (by decide)) (fun _=>?_)
  refine wpAny_ite_split (fun _=>?_) (fun hab=>absurd (by decide +kernel) hab)
  exact wpAny_bind (wpAny_typeOf hT (wpAny_pure h))
theorem src_S (k:KS w o es ep m):PySem.W.KdlSrc prog w "set" a a es.size (fun i v=>∃ x,(order w a es ep)[i]?=some x∧v=x.2) (fun h=>h.get? a=some o) where
  type:=fun _ hm=>⟨o,hm,k.ex.1⟩
  there:=fun _ hm=>⟨Heap.lt_size hm,Heap.lt_size hm⟩
  keep:=fun _ _ hm hk=>hk a (.inl rfl) o hm
  notList:=by decide
  notTuple:=by decide
  hint:=fun _ _ _ _ hm hq=>hint_S ⟨o,hm,k.ex.1⟩ hq
  iter:=fun _ _ hh hm=>⟨_,_,(fun _ _ hq=>iter_S hm k hq),walks_S hh _ (Nat.ne_of_lt (Heap.lt_size hm)) k,⟨⟨_,Heap.get?_push_size _ rfl,rfl,by rw [sl_zero]⟩,Heap.get?_push_of_some _ hm⟩⟩
end
end SQ
namespace SQ
open PySem PySem.Spec PyProof.Rows
section
variable {prog:Program} {w:World} {A:Around} {E:Value→Shared→Prop} {s:Shared} {T:String} {r d:Addr} {n:Nat} {P:Nat→Value→Prop} {OK:Heap→Prop}
theorem ints_at {val:Nat→Int}:∀ (n k:Nat) (vs:List Value),vs.length=n→(∀ (j:Nat) (v:Value),vs[j]?=some v→∃ t,v=.int (val (k+j)) t)→IntsAre vs ((List.range' k n).map val)
  | 0,_,[],_,_=>.nil
  | n+1,k,v::vs,hl,h=>by
    obtain ⟨t,rfl⟩:=h 0 v rfl
    refine .cons _ t (ints_at n (k+1) vs (by simpa using hl) fun j u hu=>?_)
    have z:=h (j+1) u (by simpa using hu)
    rwa [show k+(j+1)=k+1+j from by omega] at z
theorem sorted_src {Q:Value→Shared→Prop} (K:PySem.W.KdlSrc prog w T r d n P OK) (hh:A.handled=none) (hok:OK s.heap) (h64:n<64) (val:Nat→Int) (hP:∀ i v,P i v→∃ t,v=.int (val i) t)
    (h:∀ (h1 h':Heap) (tk c:Nat) (out:Array Value) (ns':List Int),IntsAre out.toList ns'→ns'.Perm ((List.range' 0 n).map val)→ns'.Pairwise (·≤·)→(∀ b o,s.heap.get? b=some o→h1.get? b=some o)→
      (∀ b o,h1.get? b=some o→h'.get? b=some o)→h'.get? h1.objs.size=some (seqObj "list" out c)→Q (.ref h1.objs.size) { s with heap:=h',toks:=tk }) :
    wpAny (model prog w) A (call (.builtin "sorted") [.ref r]) Q E s:=by
  refine Calls.call_function_entry kind_sorted plain_sorted entry_sorted (args_sorted1 _) ?_; unfold Builtin.«sorted»
  refine wpAny_bind (m:=checkCount "sorted" 1 1 _) (wpAny_pure (wpAny_bind ?_))
  refine PySem.W.kdu_collect (A:=A.in1) K hh hok (by rw [sizeLine_eq]; omega) fun h' tk acc hk hacc=>?_
  have hl:acc.toList.length=n:=by rw [Array.length_toList]; exact hacc.1
  refine wpAny_bind (wpAny_newList ?_ (by rw [hl,sizeLine_eq]; omega))
  have hoL:(h'.push (seqObj "list" acc.toList.toArray 0)).get? h'.objs.size=some (seqObj "list" acc.toList.toArray 0):=Heap.get?_push_size _ rfl
  have hI:IntsAre acc.toList ((List.range' 0 n).map val):=ints_at n 0 acc.toList hl fun j v e=>by
    rw [Nat.zero_add]; exact hP j v (hacc.2 j v (by rw [← Array.getElem?_toList]; exact e))
  show wpAny _ _ _ _ _ { s with heap:=h'.push (seqObj "list" acc.toList.toArray 0),toks:=tk }
  refine wpAny_bind (wpAny_holding (wpAny_call_entry slot_list_sort ⟨_,hoL,rfl⟩ entry_list_sort (list_sort_tree hoL hI (by omega) fun out ns' a1 a2 a3=>⟨_,rfl,?_⟩) (args_list_sort _)))
  obtain ⟨c,hc⟩:=sortedHeap_at (out:=out) hoL
  refine wpAny_pure ⟨_,rfl,h h' _ tk c out ns' a1 a2 a3 hk (fun b o e1=>?_) hc⟩
  have lt:=Heap.lt_size e1
  rw [sortedHeap_old (Nat.ne_of_lt lt) (by rw [size_push']; exact Nat.lt_succ_of_lt lt),Heap.get?_push_ne _ _ _ (Nat.ne_of_lt lt)]; exact e1
end
theorem mk_bit (val:Nat→Nat) (h6:∀ i,val i<6):∀ n,mk val n<64∧∀ k,k<6→((mk val n).testBit k=true↔∃ i,i<n∧val i=k)
  | 0=>⟨by show 0<64; decide,fun k _=>⟨fun z=>by simp [mk] at z,fun ⟨i,h,_⟩=>absurd h (Nat.not_lt_zero i)⟩⟩
  | n+1=>by
    obtain ⟨h1,h2⟩:=mk_bit val h6 n
    refine ⟨or_lt ⟨_,h1⟩ ⟨_,h6 n⟩,fun k hk=>?_⟩
    have z:=or_bit ⟨_,h1⟩ ⟨_,h6 n⟩ ⟨k,hk⟩
    dsimp only at z
    show (orM (mk val n) (val n)).testBit k=true↔_
    rw [z,Bool.or_eq_true,h2 k hk,decide_eq_true_eq]
    constructor
    · rintro (⟨i,hi,e⟩ | rfl)
      · exact ⟨i,by omega,e⟩
      · exact ⟨n,by omega,rfl⟩
    · rintro ⟨i,hi,e⟩
      rcases Nat.lt_or_ge i n with lt | ge
      · exact .inl ⟨i,lt,e⟩
      · obtain rfl:i=n:=by omega
        exact .inr e.symm
def setL (ns:List Nat):List Nat:=(List.range 6).filter fun k=>decide (k∈ns)
theorem setL_mem {ns:List Nat} {k:Nat}:k∈setL ns↔k<6∧k∈ns:=by unfold setL; rw [List.mem_filter,List.mem_range,decide_eq_true_eq]
theorem ofM_mk (ns:List Nat) (h6:∀ k∈ns,k<6):ofM (mk (fun i=>ns.getD i 0) ns.length)=setL ns:=by
  have hv:∀ i,(fun i=>ns.getD i 0) i<6:=fun i=>by
    show ns.getD i 0<6
    rw [List.getD_eq_getElem?_getD]
    cases q:ns[i]? with
    | none=>exact (by decide:0<6)
    | some k=>exact h6 k (List.mem_of_getElem? q)
  obtain ⟨_,h2⟩:=mk_bit (fun i=>ns.getD i 0) hv ns.length
  unfold ofM setL
  refine List.filter_congr fun k hk=>?_
  have hk6:k<6:=List.mem_range.mp hk
  have z:=h2 k hk6
  rw [Bool.eq_iff_iff,z,decide_eq_true_eq]
  constructor
  · rintro ⟨i,hi,e⟩
    have e':ns.getD i 0=k:=e
    rw [List.getD_eq_getElem?_getD,List.getElem?_eq_getElem hi] at e'
    exact e'▸List.getElem_mem hi
  · intro hm
    obtain ⟨i,hi,e⟩:=List.getElem_of_mem hm
    exact ⟨i,hi,by show ns.getD i 0=k; rw [List.getD_eq_getElem?_getD,List.getElem?_eq_getElem hi]; exact e⟩
theorem sorted_eq:∀ {a b:List Int},a.Perm b→a.Pairwise (·≤·)→b.Pairwise (·≤·)→a=b:=fun p ha hb=>List.Perm.eq_of_pairwise (fun x y _ _ h1 h2=>Int.le_antisymm h1 h2) ha hb p
end SQ
namespace L2
open PySem PySem.Spec PyProof.Rows
def SetO (w:World) (a:Addr) (m:Nat):HO:=.ext fun h=>SQ.SetS w h a m
theorem SetO.stay {w:World} {a:Addr} {m:Nat}:∀ h1 h2:Heap,SQ.SetS w h1 a m→(∀ o,h1.get? a=some o→h2.get? a=some o)→SQ.SetS w h2 a m:=fun _ _ x k=>x.at' k
section
variable {X:Cx}
def nV (ns:List Nat):List V:=ns.map fun k:Nat=>V.int (k:Int)
theorem nV_int (ns:List Nat):nV ns=(ns.map fun k:Nat=>(k:Int)).map V.int:=by unfold nV; rw [List.map_map]; rfl
theorem kv_keys {κ:Type}:∀ {kvs:List (κ×V)} {vs:List (κ×Value)},KV kvs vs→vs.map (·.1)=kvs.map (·.1)
  | _,_,.nil=>rfl
  | _,_,.cons r t=>by rw [List.map_cons,List.map_cons,kv_keys t,r.1]
theorem mix_int {n:Int} {v:Value} (h:keyIs (.inl n) v=true):∃ t,v=.int n t:=by
  rcases keyIs_shape h with ⟨i,t,e,rfl⟩ | ⟨x,t,e,_⟩
  · cases e; exact ⟨t,rfl⟩
  · cases e
theorem call_setS (hc:X.calm=true):CallR X (.type "set") (fun xs H Q=>∃ (p:Addr) (ns:List Nat),xs=[.ref p]∧SqL X.K H p (nV ns)∧(∀ k∈ns,k<6)∧∀ (r:Addr) (m:Nat),H r=none→SQ.ofM m=SQ.setL ns→Q (.ref r) (upd H r (SetO X.w r m))):=by
  intro pins s σ H xs us Q I r h
  obtain ⟨p,ns,rfl,hp,h6,q⟩:=h
  obtain ⟨u,rfl,ru⟩:=vals1 r
  cases ru
  obtain ⟨its,rv,pl,hz⟩:=I.list hp
  have hlen:=rv.length
  unfold nV at hlen
  rw [List.length_map] at hlen
  refine SQ.call_set_S (ns:=ns) (I.ok.hd hc) pl.isList (fun i v hv=>?_) h6 fun h' tk hS hk=>?_
  · have hv':its[i]?=some v:=by simpa using hv
    have hi:i<ns.length:=by rw [hlen]; exact (List.getElem?_eq_some_iff.mp hv').1
    obtain ⟨u,hu,ru⟩:=rv.get (i:=i) (x:=.int (ns[i]:Nat)) (by unfold nV; rw [List.getElem?_map,List.getElem?_eq_getElem hi]; rfl)
    rw [hv'] at hu
    cases hu
    obtain ⟨t,rfl⟩:=ru
    exact ⟨t,by rw [List.getD_eq_getElem?_getD,List.getElem?_eq_getElem hi]; rfl⟩
  · have hn:H s.heap.objs.size=none:=I.hok.fresh (Nat.le_refl _)
    have esz:its.toArray.size=ns.length:=by simpa using hlen.symm
    rw [esz] at hS
    refine ⟨.ref s.heap.objs.size,_,I.laid (t':=tk) (o:=SetO X.w s.heap.objs.size _) hk (Nat.le_refl _) ⟨hS,?_,SetO.stay⟩,rfl,q _ _ hn (SQ.ofM_mk ns h6)⟩
    obtain ⟨_,o,es,ep,ho,_⟩:=hS
    exact ⟨o,ho⟩
theorem sorted_end {s:Shared} {pins:List (Addr×Obj)} {σ:List (Option V)} {H:Hp} {Q:VK} {h1 h':Heap} {tk c:Nat} {out:Array Value} {ns:List Int} (I:Inv X pins σ H s) (a1:IntsAre out.toList ns) (hl:ns.length<64)
    (k1:∀ b o,s.heap.get? b=some o→h1.get? b=some o) (k2:∀ b o,h1.get? b=some o→h'.get? b=some o) (hc:h'.get? h1.objs.size=some (seqObj "list" out c))
    (q:∀ l,H l=none→Q (.ref l) (upd H l (.lst (ns.map V.int)))):EP X pins σ Q (.ref h1.objs.size) { s with heap:=h',toks:=tk }:=by
  have I1:=I.kept (t':=tk) k1
  have hn:H h1.objs.size=none:=I1.hok.fresh (Nat.le_refl _)
  refine ⟨.ref h1.objs.size,_,I1.laid (t':=tk) (o:=.lst (ns.map V.int)) k2 (Nat.le_refl _) ⟨?_,out.toList,c,vals_ints a1,?_⟩,rfl,q _ hn⟩
  · rw [List.length_map]; exact small (by omega)
  · simpa using hc
theorem call_sortedS (hc:X.calm=true):CallR X (.builtin "sorted") (fun xs H Q=>∃ (r:Addr) (m:Nat),xs=[.ref r]∧H r=some (SetO X.w r m)∧∀ l:Addr,H l=none→Q (.ref l) (upd H l (.lst (nV (SQ.ofM m))))):=by
  intro pins s σ H xs us Q I r h
  obtain ⟨p,m,rfl,hp,q⟩:=h
  obtain ⟨u,rfl,ru⟩:=vals1 r
  cases ru
  obtain ⟨hS,_,_⟩:=I.hok _ _ hp
  obtain ⟨hm,o,es,ep,ho,hex,hd,pr⟩:=hS
  have k:SQ.KS X.w o es ep m:=⟨hm,hex,hd,pr⟩
  have l6:=SQ.len_all ⟨m,hm⟩
  dsimp only at l6
  have hsz:=k.size
  have ord:=SQ.order_perm X.w p es ep
  refine SQ.sorted_src (SQ.src_S (prog:=X.prog) (a:=p) k) (I.ok.hd hc) ho (by omega) (fun i=>(((SQ.order X.w p es ep)[i]?).map (·.1)).getD 0) (fun i v hv=>?_) fun h1 h' tk c out ns' a1 a2 a3 k1 k2 hc'=>?_
  · obtain ⟨x,hx,rfl⟩:=hv
    rw [hx]
    have hmem:x∈es.toList:=ord.mem_iff.mp (by rw [Array.mem_toList_iff]; exact Array.mem_of_getElem? hx)
    obtain ⟨kk,_,e1,t,e2⟩:=SQ.pd_mem pr x hmem
    exact ⟨t,by rw [e2]; show Value.int _ t=Value.int x.1 t; rw [e1]⟩
  · have e0:(List.range' 0 es.size).map (fun i=>(((SQ.order X.w p es ep)[i]?).map (·.1)).getD 0)=(SQ.order X.w p es ep).toList.map (·.1):=by
      apply List.ext_getElem?
      intro j
      have za:(SQ.order X.w p es ep).toList[j]?=(SQ.order X.w p es ep)[j]?:=by simp
      rw [List.getElem?_map,List.getElem?_map,za]
      rcases Nat.lt_or_ge j es.size with lt | ge
      · rw [List.getElem?_range' lt,Option.map_some]
        have lt':j<(SQ.order X.w p es ep).size:=by rw [SQ.order_size]; exact lt
        rw [Nat.zero_add,Nat.one_mul,Array.getElem?_eq_getElem lt']; rfl
      · rw [List.getElem?_eq_none (by simpa using ge),Array.getElem?_eq_none (by rw [SQ.order_size]; exact ge)]; rfl
    rw [e0] at a2
    have e1:ns'=(SQ.ofM m).map fun k:Nat=>(k:Int):=by
      refine SQ.sorted_eq (a2.trans ((ord.map _).trans ?_)) a3 ?_
      · rw [SQ.fst_map pr]
      · rw [List.pairwise_map]
        exact (SQ.ofM_sorted m).imp fun h=>by omega
    subst e1
    exact sorted_end I a1 (by rw [List.length_map]; omega) k1 k2 hc' fun l hl=>by rw [← nV_int]; exact q l hl
theorem call_sortedD (hc:X.calm=true):CallR X (.builtin "sorted") (fun xs H Q=>∃ (p:Addr) (kvs:List (Key×V)) (ns:List Int),xs=[.ref p]∧H p=some (.dK kvs)∧kvs.map (·.1)=ns.map Sum.inl∧ns.length<64∧
    ∀ (l:Addr) (ns':List Int),H l=none→ns'.Perm ns→ns'.Pairwise (·≤·)→Q (.ref l) (upd H l (.lst (ns'.map V.int)))):=by
  intro pins s σ H xs us Q I r h
  obtain ⟨p,kvs,ns,rfl,hp,hk,h64,q⟩:=h
  obtain ⟨u,rfl,ru⟩:=vals1 r
  cases ru
  obtain ⟨_,lo,vs,kv,hD⟩:=I.hok _ _ hp
  obtain ⟨ep,hat⟩:=hD.dictAt
  have hkv:vs.map (·.1)=kvs.map (·.1):=kv_keys kv
  have hlen:vs.length=ns.length:=by
    have z:=congrArg List.length (hkv.trans hk); simpa using z
  refine SQ.sorted_src (PySem.W.kdl_dict (knd:=mixKind X.prog X.w) (kvs:=vs) (ep:=ep) lo) (I.ok.hd hc) hat (by omega) (fun i=>(ns[i]?).getD 0) (fun i v hv=>?_) fun h1 h' tk c out ns' a1 a2 a3 k1 k2 hc'=>?_
  · obtain ⟨k,x,hx,hi⟩:=hv
    have e1:(vs.map (·.1))[i]?=some k:=by rw [List.getElem?_map,hx]; rfl
    rw [hkv,hk,List.getElem?_map] at e1
    cases q':ns[i]? with
    | none=>rw [q'] at e1; cases e1
    | some n =>
      rw [q'] at e1
      cases e1
      exact mix_int hi
  · have e0:(List.range' 0 vs.length).map (fun i=>(ns[i]?).getD 0)=ns:=by
      apply List.ext_getElem?
      intro j
      rw [List.getElem?_map,hlen]
      rcases Nat.lt_or_ge j ns.length with lt | ge
      · rw [List.getElem?_range' lt,Option.map_some,Nat.zero_add,Nat.one_mul,List.getElem?_eq_getElem lt]; rfl
      · rw [List.getElem?_eq_none (by simpa using ge),List.getElem?_eq_none ge]; rfl
    rw [e0] at a2
    exact sorted_end I a1 (by rw [a2.length_eq]; omega) k1 k2 hc' fun l hl=>q l ns' hl a2 a3
end
end L2
namespace L2
open PySem PySem.Spec PyProof.Rows
theorem preSum_take (ns:List Int):∀ n,n≤ns.length→preSum (fun i=>(ns[i]?).getD 0) n=(ns.take n).sum
  | 0,_=>by rw [List.take_zero]; rfl
  | n+1,h=>by
    show preSum _ n+(ns[n]?).getD 0=_
    rw [preSum_take ns n (by omega),List.take_add_one,List.getElem?_eq_getElem (show n<ns.length by omega),List.sum_append]
    simp
section
variable {X:Cx}
theorem call_sumV (hc:X.calm=true):CallR X (.builtin "sum") (fun xs H Q=>∃ (p:Addr) (ns:List Int),xs=[.ref p]∧SqL X.K H p (ns.map V.int)∧Q (.int ns.sum) H):=by
  intro pins s σ H xs us Q I r h
  obtain ⟨p,ns,rfl,hp,q⟩:=h
  obtain ⟨u,rfl,ru⟩:=vals1 r
  cases ru
  obtain ⟨its,rv,pl,hz⟩:=I.list hp
  have hl:=pl.isList
  have hlt:p<s.heap.objs.size:=by obtain ⟨_,e,_⟩:=hl; exact Heap.lt_size e
  have hlen:=rv.length
  rw [List.length_map] at hlen
  refine call_sum_walkG (wpAny_pyIter_list hl ?_)
  refine ⟨s.heap.objs.size,[s.heap.objs.size,p],[s.heap.objs.size],its.toArray.size,_,_,fun i=>(ns[i]?).getD 0,rfl,Walks.list (A:=X.A.in1) (I.ok.hd hc) _ p (Nat.ne_of_lt hlt) its.toArray,
    ⟨⟨_,Heap.get?_push_size _ rfl,rfl,rfl⟩,hl.push _⟩,fun b hb=>?_,fun i v hP=>?_,fun h' tk t' hk=>?_⟩
  · rw [Heap.size_push]
    rcases List.mem_cons.mp hb with rfl | h
    · exact Nat.lt_succ_self _
    · rw [List.mem_singleton.mp h]
      exact Nat.lt_succ_of_lt hlt
  · have hv:its[i]?=some v:=by simpa using hP
    have hi:i<ns.length:=by rw [hlen]; exact (List.getElem?_eq_some_iff.mp hv).1
    obtain ⟨u,hu,ru⟩:=rv.get (i:=i) (x:=.int ns[i]) (by rw [List.getElem?_map,List.getElem?_eq_getElem hi]; rfl)
    rw [hv] at hu
    cases hu
    obtain ⟨t,rfl⟩:=ru
    exact ⟨t,by show Value.int ns[i] t=Value.int ((ns[i]?).getD 0) t; rw [List.getElem?_eq_getElem hi]; rfl⟩
  · refine ⟨.int ns.sum,H,I.kept (t':=tk) fun b o x=>hk b o (fun hm=>?_) (Heap.get?_push_of_some _ x),⟨t',?_⟩,q⟩
    · rw [List.mem_singleton.mp hm] at x
      exact Nat.lt_irrefl _ (Heap.lt_size x)
    · have e:its.toArray.size=ns.length:=by simpa using hlen.symm
      rw [e,preSum_take ns ns.length (Nat.le_refl _),List.take_length]
theorem call_sumVC {K:PySem.W.Frag} (hK:X.K=K) (hc:X.calm=true):CallR X (.builtin "sum") (fun xs H Q=>∃ (p:Addr) (ns:List Int),xs=[.ref p]∧SqL K H p (ns.map V.int)∧Q (.int ns.sum) H):=hK▸call_sumV hc
theorem call_listD (hc:X.calm=true):CallR X (.type "list") (fun xs H Q=>∃ (p:Addr) (kvs:List (Key×V)),xs=[.ref p]∧H p=some (.dK kvs)∧kvs.length≤1000∧∀ l,H l=none→Q (.ref l) (upd H l (.lst (kvs.map fun kv=>kV kv.1)))):=by
  intro pins s σ H xs us Q I r h
  obtain ⟨p,kvs,rfl,hp,h1,q⟩:=h
  obtain ⟨u,rfl,ru⟩:=vals1 r
  cases ru
  obtain ⟨_,lo,vs,kv,hD⟩:=I.hok _ _ hp
  obtain ⟨ep,hat⟩:=hD.dictAt
  have hkv:vs.map (·.1)=kvs.map (·.1):=kv_keys kv
  have hlen:vs.length=kvs.length:=by
    have z:=congrArg List.length hkv; simpa using z
  have hn:H s.heap.objs.size=none:=I.hok.fresh (Nat.le_refl _)
  refine PySem.W.kdl_call (PySem.W.kdl_dict (knd:=mixKind X.prog X.w) (kvs:=vs) (ep:=ep) lo) (I.ok.hd hc) hat (by rw [sizeLine_eq]; omega) fun h' tk acc c hk hS hacc=>?_
  refine ⟨.ref s.heap.objs.size,_,I.laid (t':=tk) (o:=.lst (kvs.map fun kv=>kV kv.1)) hk (Nat.le_refl _) ⟨by rw [List.length_map,sizeLine_eq]; omega,acc.toList,c,?_,by simpa using hS⟩,rfl,q _ hn⟩
  have key:∀ (kvs:List (Key×V)) (us:List Value) (k:Nat),us.length=kvs.length→(∀ (j:Nat) (v:Value),us[j]?=some v→∃ kk,(kvs[j]?).map (·.1)=some kk∧keyIs kk v=true)→Vals (kvs.map fun kv=>kV kv.1) us:=by
    intro kvs
    induction kvs with
    | nil=>intro us _ h0 _; rw [List.length_eq_zero_iff.mp h0]; exact .nil
    | cons a kvs ih =>
      intro us k hl h
      match us,hl with
      | v::us,hl =>
        obtain ⟨kk,e,hi⟩:=h 0 v rfl
        cases e
        refine .cons ?_ (ih us k (by simpa using hl) fun j u hu=>by simpa using h (j+1) u (by simpa using hu))
        rcases keyIs_shape hi with ⟨i,t,e,rfl⟩ | ⟨x,t,e,rfl⟩
        · show RelV (kV a.1) _
          rw [show a.1=Sum.inl i from e]; exact ⟨t,rfl⟩
        · show RelV (kV a.1) _
          rw [show a.1=Sum.inr x from e]; exact ⟨t,rfl⟩
  refine key kvs acc.toList 0 (by rw [Array.length_toList,hacc.1,hlen]) fun j v hv=>?_
  obtain ⟨k,x,hx,hi⟩:=hacc.2 j v (by rw [← Array.getElem?_toList]; exact hv)
  refine ⟨k,?_,hi⟩
  have e1:(vs.map (·.1))[j]?=some k:=by rw [List.getElem?_map,hx]; rfl
  rw [hkv,List.getElem?_map] at e1
  exact e1
def tD1 (tk tv:TE):TE:=fun σ H Q=>∀ D,H D=none→tk σ (upd H D (.dK [])) fun x H1=>tv σ H1 fun y H2=>∃ k:Key,x=kV k∧H2 D=some (.dK [])∧Q (.ref D) (upd H2 D (.dK [(k,y)]))
theorem pe_d1 {k v:Expr} {tk tv:TE} {pos:Pos} (hk:PE X k tk) (hv:PE X v tv):PE X (.Dict [some k] [v] pos) (tD1 tk tv):=by
  intro pins s σ H Q I h
  have hn:H s.heap.objs.size=none:=I.hok.fresh (Nat.le_refl _)
  have I1:Inv X pins σ (upd H s.heap.objs.size (.dK [])) { s with heap:=s.heap.push { cls:=.type "dict",data:=.dict #[] } }:=I.laid (a:=s.heap.objs.size) (o:=.dK []) (t':=s.toks) (fun _ _ q=>Heap.get?_push_of_some _ q) (Nat.le_refl _) (dk_empty s.heap I.big)
  refine wpAny_Dict_walk (knd:=mixKind X.prog X.w) rfl rfl (List.cons_ne_nil _ _) (by show 1≤15; decide) ?_
  refine pairTrees_cons_walk (thn (hk pins _ σ _ _ I1 (h _ hn)) fun kv s2 ⟨x,H1,I2,rx,q1⟩=>thn (hv pins s2 σ H1 _ I2 q1) fun vv s3 ⟨y,H2,I3,ry,kk,ex,hD,q⟩=>pairTrees_nil_walk ?_)
  have hki:keyIs kk kv=true:=by
    rw [ex] at rx
    cases kk with
    | inl i=>obtain ⟨t,rfl⟩:=rx; exact PySem.intKind_is X.prog X.w i t
    | inr z=>obtain ⟨t,rfl⟩:=rx; exact PySem.strKind_is X.prog X.w z t
  obtain ⟨_,lo,vs,kv0,hD3⟩:=I3.hok _ _ hD
  cases kv0
  refine ⟨[(kk,vv)],⟨hki,rfl,trivial⟩,hD3,fun h' hD' sb=>?_⟩
  refine ⟨.ref s.heap.objs.size,_,I3.write (x:=s.heap.objs.size) (e:=s.heap.objs.size) (o:=.dK [(kk,y)]) (t':=s3.toks+1) (by rw [hD]; exact trivial) (.inl rfl) (fun b u nb hb=>?_) ?_ ?_,rfl,q⟩
  · rw [sb.2 b nb]; exact hb
  · obtain ⟨o,_,_,e,_⟩:=hD'
    exact ⟨o,e⟩
  · exact ⟨by rw [sizeLine_eq]; show 1≤_; omega,lo,[(kk,vv)],.cons ⟨rfl,ry⟩ .nil,hD'⟩
end
end L2
namespace L2
open PySem PySem.Spec PyProof.Rows
section
variable {X:Cx} {CX:CXT} {k:Nat} {f:Addr} {fd:FuncData} {ps:List Str} {sp:Sp} {dvs:List V} {ds:List Value} {E:XK} {m:Str} {pos apos:Pos} {o:Expr} {ta:TE}
theorem pe_meth0Q {pl:Sem Bool} (he:PE X o ta) (F:FnOk X.prog X.w X.K X.mg X.base CX k f fd ps sp) (hr:Room k X.A) (hb:Binds X.K fd ps ds) (hd:Vals dvs ds) (hx:Passes CX X E)
    (ht:eval (.Call (.Attribute o m apos) [] [] pos) X.env=(do let ov ← eval o X.env; standAt apos.atName; let (f,first) ← holding [ov] (getMethod ov m pl); callWith pos f first (backTo pos (starEach [] X.env)) (backToKw pos (keywordEach [] X.env))):=by rfl) :
    PE X (.Call (.Attribute o m apos) [] [] pos) (tMethD X.K f m sp dvs E ta tNil):=by
  intro pins s σ H Q I h
  refine PySem.W.methodCall_KW (pl:=pl) (thn (he pins s σ H _ I h) fun u s1 ⟨x,H1,I1,rx,C,a,dx,fs,ex,ea,c,hm,l,q⟩=>?_) ht
  subst ex; obtain rfl:u=Value.ref a:=rx
  refine getmeth_ok I1 ea c hm l ?_
  exact PySem.W.callWith_K0 (first:=[.ref a]) I1.kIn hm.kp (run_fn (us:=[.ref a]) (vs:=[.ref a]) F hr hb hd hx I1 (.cons rfl .nil) q)
theorem pe_meth0C {K:PySem.W.Frag} {pl:Sem Bool} (hK:X.K=K) (he:PE X o ta) (F:FnOk X.prog X.w X.K X.mg X.base CX k f fd ps sp) (hr:Room k X.A) (hb:Binds X.K fd ps ds) (hd:Vals dvs ds) (hx:Passes CX X E)
    (ht:eval (.Call (.Attribute o m apos) [] [] pos) X.env=(do let ov ← eval o X.env; standAt apos.atName; let (f,first) ← holding [ov] (getMethod ov m pl); callWith pos f first (backTo pos (starEach [] X.env)) (backToKw pos (keywordEach [] X.env))):=by rfl) :
    PE X (.Call (.Attribute o m apos) [] [] pos) (tMethD K f m sp dvs E ta tNil):=hK▸pe_meth0Q (pl:=pl) he F hr hb hd hx ht
end
end L2
namespace L2
open PySem PySem.Spec PyProof.Rows
section
variable {X:Cx}
end
end L2
namespace L2
open PySem PySem.Spec PyProof.Rows
section
variable {X:Cx}
def rIndexI:V→List V→Hp→VK→Prop:=fun x vs H Q=>∃ (l:Addr) (z:Int) (zs:List Int) (j:Nat),x=.ref l∧vs=[.int z]∧H l=some (.lst (zs.map V.int))∧zs.length≤1000∧zs[j]?=some z∧(∀ i,i<j→zs[i]?≠some z)∧Q (.int j) H
def isIntV (z:Int):Value→Bool
  | .int x _=>x == z
  | _=>false
end
end L2
namespace L2
open PySem PySem.Spec PyProof.Rows
section
variable {X:Cx}
def tLR (ta:TA):TE:=fun σ H Q=>ta σ H fun vs H1=>∃ n:Nat,vs=[.int (n:Int)]∧n≤1000∧∀ l,H1 l=none→Q (.ref l) (upd H1 l (.lst ((List.range n).map fun (i:Nat)=>V.int (i:Int))))
theorem vals_range:∀ (n k:Nat) (us:List Value),us.length=n→(∀ (j:Nat) v,us[j]?=some v→∃ t,v=.int (((k+j:Nat):Int)) t)→Vals ((List.range' k n).map fun (i:Nat)=>V.int (i:Int)) us
  | 0,_,us,h,_=>by rw [List.length_eq_zero_iff.mp h]; exact .nil
  | n+1,k,us,h,hv=>by
    match us,h,hv with
    | v::us,h,hv =>
      obtain ⟨t,e⟩:=hv 0 v rfl
      refine .cons (show RelV (V.int ((k:Nat):Int)) v from ⟨t,e⟩) (vals_range n (k+1) us (by simpa using h) fun j u hu=>?_)
      obtain ⟨t,e⟩:=hv (j+1) u (by simpa using hu)
      exact ⟨t,by rw [e,show k+1+j=k+(j+1) by omega]⟩
theorem pe_listRange {a:Expr} {ta:TA} {p p2 pos pos2:Pos} (hc:X.calm=true) (hg:Gl X "list") (hm:X.mg "list"=none) (hg2:Gl X "range") (hm2:X.mg "range"=none) (ha:PA X [a] ta)
    (he:starEach [.Call (.Name "range" p2) [a] [] pos2] X.env=(false,eval (.Call (.Name "range" p2) [a] [] pos2) X.env)::starEach [] X.env:=by rfl) (he2:starEach [a] X.env=(false,eval a X.env)::starEach [] X.env:=by rfl) :
    PE X (.Call (.Name "list" p) [.Call (.Name "range" p2) [a] [] pos2] [] pos) (tLR ta):=by
  intro pins s σ H Q I h
  refine wpAny_Call_Name_kw (ld_blt I hg hm boot_list ?_ (by decide) (by decide))
  refine PyProof.Rows.callWith_type1 ?_ he rfl
  rw [he]
  show wpAny _ _ (spliced ((false,eval (.Call (.Name "range" p2) [a] [] pos2) X.env)::backTo pos (starEach [] X.env))) _ _ s
  refine Calls.spliced_cons ?_
  refine wpAny_Call_Name_kw (ld_blt I hg2 hm2 boot_range ?_ (by decide) (by decide))
  refine PyProof.Rows.callWith_type1 (thn (ha pos2 pins s σ H _ I h) fun us s1 ⟨vs,H1,I1,r1,q1⟩=>?_) he2 rfl
  obtain ⟨n,e,n1,q⟩:=q1
  subst e
  obtain ⟨u,rfl,ru⟩:=vals1 r1
  obtain ⟨t,rfl⟩:=ru
  refine call_range_1 ?_
  refine Calls.spliced_nil ?_
  have I2:Inv X pins σ H1 { s1 with heap:=s1.heap.push { cls:=.type "range",data:=.fields #[.int 0 s1.toks,.int (n:Int) t,.int 1 (s1.toks+1)] },toks:=s1.toks+1+1 }:=I1.kept fun b o e=>Heap.get?_push_of_some _ e
  refine call_list_range (n:=n) (I2.ok.hd hc) (IsRange.new ..) (small_one (by decide) (by decide) (by omega) (by omega)) (by rw [rangeSize_one]; split <;> omega) (by omega) fun h' tk acc c hk hS hacc=>?_
  refine ⟨.ref _,_,I2.laid (t':=tk) (o:=.lst ((List.range n).map fun (i:Nat)=>V.int (i:Int))) hk (Nat.le_refl _) ⟨by rw [List.length_map,List.length_range,sizeLine_eq]; omega,acc.toList,c,?_,by simpa using hS⟩,rfl,q _ (I2.hok.fresh (Nat.le_refl _))⟩
  rw [List.range_eq_range']
  refine vals_range n 0 acc.toList (by rw [Array.length_toList,hacc.1]) fun j v hv=>?_
  obtain ⟨t,e⟩:=hacc.2 j v (by rw [← Array.getElem?_toList]; exact hv)
  exact ⟨t,by rw [e]; congr 1; omega⟩
end
end L2
namespace K43
open PySem L2
def top (i:Nat):Stmt:=PySem.Challenge.pw_earbells_k43_whole_round_and_pace.main.body.getD i (.Pass ⟨0,0,0,0⟩)
abbrev s_winit:Stmt:=inClass (top 3) 0
abbrev s_is_whole:Stmt:=top 6
abbrev s_Rinit:Stmt:=inClass (top 8) 0
abbrev s_Rwants:Stmt:=inClass (top 8) 1
abbrev s_falls:Stmt:=inClass (top 8) 2
abbrev s_Ainit:Stmt:=inClass (top 9) 0
abbrev s_Yinit:Stmt:=inClass (top 10) 0
abbrev s_Sinit:Stmt:=inClass (top 11) 0
abbrev s_rule_of:Stmt:=top 12
abbrev s_text:Stmt:=top 13
abbrev s_rule_of_bell:Stmt:=top 15
abbrev s_comes:Stmt:=top 17
abbrev s_found:Stmt:=top 18
abbrev s_behind:Stmt:=top 19
abbrev s_strokes:Stmt:=top 20
abbrev s_waiting:Stmt:=top 22
abbrev s_refuse_waiting:Stmt:=top 23
abbrev s_round_of:Stmt:=top 25
abbrev s_hears:Stmt:=top 27
abbrev s_greatest_common:Stmt:=top 29
abbrev s_fraction:Stmt:=top 30
abbrev s_side_of:Stmt:=top 32
abbrev s_mean_that_all_beat:Stmt:=top 33
abbrev s_gain:Stmt:=top 34
abbrev s_lift_once:Stmt:=top 35
abbrev s_ring_from:Stmt:=top 36
abbrev s_settled:Stmt:=top 37
abbrev s_mean_of:Stmt:=top 38
abbrev s_way_to:Stmt:=top 39
abbrev s_pace:Stmt:=top 40
abbrev s_nth:Stmt:=top 42
abbrev s_whole:Stmt:=top 43
abbrev s_pack:Stmt:=top 44
abbrev s_next:Stmt:=top 45
abbrev s_draw:Stmt:=top 46
abbrev s_name:Stmt:=top 47
abbrev s_listening:Stmt:=top 48
abbrev s_rule:Stmt:=top 49
abbrev s_choir:Stmt:=top 50
abbrev s_about:Stmt:=top 51
abbrev s_turned:Stmt:=top 52
abbrev s_going:Stmt:=top 53
abbrev s_mean:Stmt:=top 54
abbrev s_lowest:Stmt:=top 55
abbrev s_law:Stmt:=top 56
inductive InR:List Int→List Int→Prop where
  | nil:InR [] []
  | cons {n m:Int} {ns ms:List Int} (h0:0≤n) (h1:n<m) (t:InR ns ms):InR (n::ns) (m::ms)
theorem take_snoc {α:Type} {l:List α} {i:Nat} {x:α} (h:l[i]?=some x):l.take (i+1)=l.take i++[x]:=by
  rw [List.take_succ,h]
  rfl
theorem at_map {ns:List Int} {i:Nat} {z:Int} (h:ns[i]?=some z):atI (ns.map V.int) (i:Int)=some (V.int z):=atI_nat (by rw [List.getElem?_map,h]; rfl)
structure Blt (mg:Str→Option Value):Prop where
  all_:mg "all"=none
  any_:mg "any"=none
  bool_:mg "bool"=none
  divmod_:mg "divmod"=none
  enumerate_:mg "enumerate"=none
  int_:mg "int"=none
  isinstance_:mg "isinstance"=none
  len_:mg "len"=none
  list_:mg "list"=none
  max_:mg "max"=none
  min_:mg "min"=none
  range_:mg "range"=none
  set_:mg "set"=none
  sorted_:mg "sorted"=none
  str_:mg "str"=none
  sum_:mg "sum"=none
  tuple_:mg "tuple"=none
  zip_:mg "zip"=none
  ValueError_:mg "ValueError"=none
  abs_:mg "abs"=none
theorem blt_mk {K:PySem.W.Frag} {h:Heap} {mg:Str→Option Value} (X:K.In h) (G:h.Ns mainGlobals mg) (z1:PySem.W.nsIn K mainGlobals "all"=some none) (z2:PySem.W.nsIn K mainGlobals "any"=some none) (z3:PySem.W.nsIn K mainGlobals "bool"=some none) (z4:PySem.W.nsIn K mainGlobals "divmod"=some none)
    (z5:PySem.W.nsIn K mainGlobals "enumerate"=some none) (z6:PySem.W.nsIn K mainGlobals "int"=some none) (z7:PySem.W.nsIn K mainGlobals "isinstance"=some none) (z8:PySem.W.nsIn K mainGlobals "len"=some none) (z9:PySem.W.nsIn K mainGlobals "list"=some none) (z10:PySem.W.nsIn K mainGlobals "max"=some none)
    (z11:PySem.W.nsIn K mainGlobals "min"=some none) (z12:PySem.W.nsIn K mainGlobals "range"=some none) (z13:PySem.W.nsIn K mainGlobals "set"=some none) (z14:PySem.W.nsIn K mainGlobals "sorted"=some none) (z15:PySem.W.nsIn K mainGlobals "str"=some none) (z16:PySem.W.nsIn K mainGlobals "sum"=some none)
    (z17:PySem.W.nsIn K mainGlobals "tuple"=some none) (z18:PySem.W.nsIn K mainGlobals "zip"=some none) (z19:PySem.W.nsIn K mainGlobals "ValueError"=some none) (z20:PySem.W.nsIn K mainGlobals "abs"=some none):Blt mg :=
  ⟨PySem.W.mg_none_of X G z1,PySem.W.mg_none_of X G z2,PySem.W.mg_none_of X G z3,PySem.W.mg_none_of X G z4,PySem.W.mg_none_of X G z5,PySem.W.mg_none_of X G z6,PySem.W.mg_none_of X G z7,PySem.W.mg_none_of X G z8,PySem.W.mg_none_of X G z9,PySem.W.mg_none_of X G z10,PySem.W.mg_none_of X G z11,
    PySem.W.mg_none_of X G z12,PySem.W.mg_none_of X G z13,PySem.W.mg_none_of X G z14,PySem.W.mg_none_of X G z15,PySem.W.mg_none_of X G z16,PySem.W.mg_none_of X G z17,PySem.W.mg_none_of X G z18,PySem.W.mg_none_of X G z19,PySem.W.mg_none_of X G z20⟩
theorem kit_ii (K:PySem.W.Frag):PySem.W.kitOne K (.type "int") (.type "int")=some true:=by kernel_rfl
theorem kit_ib (K:PySem.W.Frag):PySem.W.kitOne K (.type "int") (.type "bool")=some false:=by kernel_rfl
theorem kit_ss (K:PySem.W.Frag):PySem.W.kitOne K (.type "str") (.type "str")=some true:=by kernel_rfl
theorem kit_is (K:PySem.W.Frag):PySem.W.kitOne K (.type "int") (.type "str")=some false:=by kernel_rfl
end K43
namespace K43
open PySem L2
def Bt (p:Addr) (H H':Hp):Prop:=∀ b o,b≠p→H b=some o→H' b=some o
theorem Bt.refl (p:Addr) (H:Hp):Bt p H H:=fun _ _ _ e=>e
theorem Bt.trans {p:Addr} {H H1 H2:Hp} (a:Bt p H H1) (b:Bt p H1 H2):Bt p H H2:=fun c o n e=>b c o n (a c o n e)
theorem Bt.same {p:Addr} {H H1:Hp} (s:Same H H1):Bt p H H1:=fun b o _ e=>s b o e
theorem Bt.upd {p:Addr} {H H1:Hp} (a:Bt p H H1) (o:HO):Bt p H (upd H1 p o):=fun b u n e=>by rw [upd_ne n]; exact a b u n e
theorem Bt.new {p q:Addr} {H H1:Hp} (a:Bt p H H1) (h:H1 q=none) (o:HO):Bt p H (L2.upd H1 q o):=a.trans (Bt.same (same_new h o))
def PackAt (K:PySem.W.Frag) (ns:List Int) (a p:Addr) (H:Hp):Prop:=SqL K H a (ns.map V.int)∧∃ (b:Bool) (c:Int) (k:Nat) (z:Int) (w:Nat),H p=some (.lst [.bl b,.int c,.int k,.ref a,.int z,.int w])∧0≤z∧z<998244359987
theorem seq_bt {K:PySem.W.Frag} {ns:List Int} {a p:Addr} {H H':Hp} {b:Bool} {r:List V} (hp:H p=some (.lst (.bl b::r))) (s:Bt p H H') (h:SqL K H a (ns.map V.int)):SqL K H' a (ns.map V.int):=by
  rcases h with (z | ⟨o,z⟩) | z
  · refine .inl (.inl (s a _ ?_ z))
    rintro rfl
    rw [hp] at z
    have z':=HO.lst.inj (Option.some.inj z)
    cases ns with
    | nil=>cases z'
    | cons n r=>cases z'
  · refine .inl (.inr ⟨o,s a _ ?_ z⟩)
    rintro rfl
    rw [hp] at z
    cases z
  · exact .inr z
theorem PackAt.there {K:PySem.W.Frag} {ns:List Int} {a p:Addr} {H:Hp} (P:PackAt K ns a p H):∃ o,H p=some o:=by
  obtain ⟨_,b,c,k,z,w,hp,_⟩:=P
  exact ⟨_,hp⟩
theorem Bt.free {p l:Addr} {H H':Hp} (s:Bt p H H') (hp:∃ o,H' p=some o) (h:H' l=none):H l=none:=by
  cases e:H l with
  | none=>rfl
  | some o =>
    by_cases hl:l=p
    · subst hl
      obtain ⟨o',q⟩:=hp
      rw [q] at h
      cases h
    · have:=s l o hl e
      rw [this] at h
      cases h
section
variable {P:Program} {w:World} {K:PySem.W.Frag} {mg:Str→Option Value} {base:Heap} {f:Addr} {fd:FuncData}
def sp_nth (K:PySem.W.Frag):Sp:=fun vs H Q _=>∃ (a:Addr) (ns:List Int) (k:Nat),vs=[.ref a,.int k]∧SqL K H a (ns.map V.int)∧∀ z,Q (.int z) H
theorem sc_nth:FnScope ["_law_script","_law_k"] ["_law_script","_law_k"] (defScope s_nth):=⟨rfl,rfl,rfl,by decide +kernel,rfl,by decide +kernel,by decide +kernel⟩
theorem ok_nth (F:Fun K "_law_nth" "_law_nth" s_nth f fd) (B:Blt mg):FnOk P w K mg base CX0 1 f fd ["_law_script","_law_k"] (sp_nth K):=by
  refine F.ok sc_nth (fun vs H Q E h=>?_) (fun cdv A outer s H vs Q E hr h=>?_)
  · obtain ⟨a,ns,k,rfl,_⟩:=h
    rfl
  obtain ⟨a,ns,k,rfl,hS,q⟩:=h
  refine ⟨_,(pss_cons (ps_if (pt_cmpR op_lt (pv 1) (pe_callB call_len_seq rfl B.len_ PySem.boot_len (pa_cons (pv 0) pa_nil)) (nomark _))
    (pss_one (ps_ret (pe_ix ix_list (pv 0) (pv 1) (fun _ _=>rfl))))
    pss_nil)
    (pss_one (ps_ret pe_int))),?_⟩
  refine ⟨_,rfl,_,rfl,a,_,rfl,.inl hS,_,_,rfl,rfl,_,rfl,?_⟩
  refine ite2 (fun c=>?_) (fun c=>q _)
  have c':(k:Int)<(((ns.map V.int).length:Nat):Int):=of_decide_eq_true c
  rw [List.length_map] at c'
  have hk:k<ns.length:=by omega
  exact ⟨_,rfl,_,rfl,a,_,_,_,rfl,rfl,hS,at_map (List.getElem?_eq_getElem hk),q _⟩
def sp_pack (K:PySem.W.Frag):Sp:=fun vs H Q _=>∃ (a:Addr) (ns:List Int),vs=[.ref a]∧SqL K H a (ns.map V.int)∧∀ p H',H p=none→Same H H'→PackAt K ns a p H'→Q (.ref p) H'
theorem sc_pack:FnScope ["_law_script"] ["_law_script"] (defScope s_pack):=⟨rfl,rfl,rfl,by decide +kernel,rfl,by decide +kernel,by decide +kernel⟩
theorem ok_pack (F:Fun K "_law_pack" "_law_pack" s_pack f fd) (C_nth:Cal P w K mg base 1 "_law_nth" ["_law_script","_law_k"] (sp_nth K)):FnOk P w K mg base CX0 2 f fd ["_law_script"] (sp_pack K):=by
  refine F.ok sc_pack (fun vs H Q E h=>?_) (fun cdv A outer s H vs Q E hr h=>?_)
  · obtain ⟨a,ns,rfl,_⟩:=h
    rfl
  obtain ⟨a,ns,rfl,hS,q⟩:=h
  refine ⟨_,(pss_one (ps_ret (pe_lst (pa_cons (pe_cmpR op_eq (pe_op op_mod (pe_fn C_nth hr (by decide) rfl (pa_cons (pv 0) (pa_cons pe_int pa_nil))) pe_int) pe_int (nomark _)) (pa_cons (pe_fn C_nth hr (by decide) rfl (pa_cons (pv 0) (pa_cons pe_int pa_nil))) (pa_cons pe_int (pa_cons (pv 0) (pa_cons pe_int (pa_cons pe_int pa_nil))))))))),?_⟩
  refine ⟨_,rfl,a,ns,0,rfl,hS,fun z1=>?_⟩
  refine ⟨_,_,rfl,rfl,(show (0:Int)<2 by decide),rfl,_,rfl,a,ns,1,rfl,hS,fun z2=>?_⟩
  refine ⟨_,rfl,(by show 6≤sizeLine; decide),fun p hp=>?_⟩
  exact q p _ hp (same_new hp _) ⟨(same_new hp _).seq hS,_,z2,2,11,0,upd_same,by decide,by decide⟩
def sp_next (K:PySem.W.Frag):Sp:=fun vs H Q _=>∃ (a p:Addr) (ns:List Int),vs=[.ref p]∧PackAt K ns a p H∧∀ H',Bt p H H'→PackAt K ns a p H'→Q .non H'
theorem sc_next:FnScope ["_law_pack_here"] ["_law_pack_here"] (defScope s_next):=⟨rfl,rfl,rfl,by decide +kernel,rfl,by decide +kernel,by decide +kernel⟩
theorem ok_next (F:Fun K "_law_next" "_law_next" s_next f fd) (C_nth:Cal P w K mg base 1 "_law_nth" ["_law_script","_law_k"] (sp_nth K)):FnOk P w K mg base CX0 2 f fd ["_law_pack_here"] (sp_next K):=by
  refine F.ok sc_next (fun vs H Q E h=>?_) (fun cdv A outer s H vs Q E hr h=>?_)
  · obtain ⟨a,p,ns,rfl,_⟩:=h
    rfl
  obtain ⟨a,p,ns,rfl,⟨hS,b,c,k,z,w,hp,z0,z1⟩,q⟩:=h
  refine ⟨_,(pss_one (ps_if (pt_val (pe_ix ix_list (pv 0) pe_int (fun _ _=>rfl)))
    (pss_cons (ps_asg (pe_fn C_nth hr (by decide) rfl (pa_cons (pe_ix ix_list (pv 0) pe_int (fun _ _=>rfl)) (pa_cons (pe_ix ix_list (pv 0) pe_int (fun _ _=>rfl)) pa_nil))) (pg_sub (pv 0) pe_int set_list))
    (pss_one (ps_asg (pe_op op_add (pe_ix ix_list (pv 0) pe_int (fun _ _=>rfl)) pe_int) (pg_sub (pv 0) pe_int set_list))))
    pss_nil)),?_⟩
  refine ⟨_,rfl,p,_,_,_,rfl,rfl,SqL.of hp,rfl,_,rfl,?_⟩
  refine ite2 (fun _=>?_) (fun _=>q H (.refl p H) ⟨hS,b,c,k,z,w,hp,z0,z1⟩)
  refine ⟨_,rfl,p,_,_,_,rfl,rfl,SqL.of hp,rfl,_,rfl,p,_,_,_,rfl,rfl,SqL.of hp,rfl,a,ns,k,rfl,hS,fun c2=>?_⟩
  refine ⟨_,rfl,p,_,_,_,rfl,rfl,hp,rfl,?_⟩
  have hp2:(upd H p (.lst [.bl b,.int c2,.int k,.ref a,.int z,.int w])) p=some (.lst [.bl b,.int c2,.int k,.ref a,.int z,.int w]):=upd_same
  refine ⟨_,rfl,p,_,_,_,rfl,rfl,SqL.of hp2,rfl,_,_,rfl,rfl,?_⟩
  refine ⟨_,rfl,p,_,_,_,rfl,rfl,hp2,rfl,?_⟩
  have s2:Bt p H (upd (upd H p (.lst [.bl b,.int c2,.int k,.ref a,.int z,.int w])) p (.lst [.bl b,.int c2,.int ((k+1:Nat):Int),.ref a,.int z,.int w])):=((Bt.refl p H).upd _).upd _
  exact q _ s2 ⟨seq_bt hp s2 hS,b,c2,k+1,z,w,upd_same,z0,z1⟩
end
end K43
namespace K43
open PySem L2
section
variable {P:Program} {w:World} {K:PySem.W.Frag} {mg:Str→Option Value} {base:Heap} {f:Addr} {fd:FuncData}
def sp_draw (K:PySem.W.Frag):Sp:=fun vs H Q _=>∃ (a p:Addr) (ns:List Int) (m:Int),vs=[.ref p,.int m]∧PackAt K ns a p H∧1≤m∧m<1073741824∧∀ d H',0≤d→d<m→Bt p H H'→PackAt K ns a p H'→Q (.int d) H'
theorem sc_draw:FnScope ["_law_pack_here","_law_many","_law_cell","_law_square","_law_number","_law_digit"] ["_law_pack_here","_law_many"] (defScope s_draw):=⟨rfl,rfl,rfl,by decide +kernel,rfl,by decide +kernel,by decide +kernel⟩
theorem ok_draw (F:Fun K "_law_draw" "_law_draw" s_draw f fd) (B:Blt mg):FnOk P w K mg base CX0 1 f fd ["_law_pack_here","_law_many"] (sp_draw K):=by
  refine F.ok sc_draw (fun vs H Q E h=>?_) (fun cdv A outer s H vs Q E hr h=>?_)
  · obtain ⟨a,p,ns,m,rfl,_⟩:=h
    rfl
  obtain ⟨a,p,ns,m,rfl,⟨hS,b,c,k,z,w,hp,z0,z1⟩,m1,m2,q⟩:=h
  refine ⟨_,(pss_join (ps_if (PW.pt (pw_and (pt_val (pe_ix ix_list (pv 0) pe_int (fun _ _=>rfl))) (pw_and1 (pt_cmpR op_notIn_seq (pe_ix ix_list (pv 0) pe_int (fun _ _=>rfl)) (pe_lst (pa_cons pe_int (pa_cons (pe_un un_neg pe_int) pa_nil))) rfl))))
    (pss_cons (ps_asg (pe_callB call_divmod rfl B.divmod_ PyProof.Rows.boot_divmod (pa_cons (pe_ix ix_list (pv 0) pe_int (fun _ _=>rfl)) (pa_cons (pv 1) pa_nil))) (pg_tup rfl (pgs_cons (pg_name (i:=4) sc_draw.nd rfl (Or.inl rfl)) (pgs_cons (pg_name (i:=5) sc_draw.nd rfl (Or.inl rfl)) pgs_nil))))
    (pss_cons (ps_asg (pv 4) (pg_sub (pv 0) pe_int set_list))
    (pss_one (ps_ret (pv 5)))))
    pss_nil)
    (pss_cons (ps_set (i:=2) sc_draw.nd rfl (Or.inl rfl) pe_int)
    (pss_join (ps_if (pt_cmpR (op_neL hr.units0) (pe_ix ix_list (pv 0) pe_int (fun _ _=>rfl)) (pe_lst pa_nil) (nomark _))
    (pss_one (ps_set (i:=2) sc_draw.nd rfl (Or.inl rfl) (pe_op op_mod (pe_ix ix_list (pe_ix ix_list (pv 0) pe_int (fun _ _=>rfl)) (pe_op op_mod (pe_ix ix_list (pv 0) pe_int (fun _ _=>rfl)) (pe_callB call_len_seq rfl B.len_ PySem.boot_len (pa_cons (pe_ix ix_list (pv 0) pe_int (fun _ _=>rfl)) pa_nil))) (fun _ _=>rfl)) pe_int)))
    pss_nil)
    (pss_cons (ps_asg (pe_op op_add (pe_ix ix_list (pv 0) pe_int (fun _ _=>rfl)) pe_int) (pg_sub (pv 0) pe_int set_list))
    (pss_cons (ps_set (i:=3) sc_draw.nd rfl (Or.inl rfl) (pe_op op_mul (pe_ix ix_list (pv 0) pe_int (fun _ _=>rfl)) (pe_ix ix_list (pv 0) pe_int (fun _ _=>rfl))))
    (pss_cons (ps_asg (pe_op op_mod (pe_op op_add (pe_op op_add (pv 3) (pe_op op_mul pe_int (pv 2))) (pe_op op_mul pe_int (pe_ix ix_list (pv 0) pe_int (fun _ _=>rfl)))) pe_int) (pg_sub (pv 0) pe_int set_list))
    (pss_one (ps_ret (pe_op op_mod (pe_op op_mod (pe_op op_add (pe_op op_mul (pe_op op_fdiv (pe_ix ix_list (pv 0) pe_int (fun _ _=>rfl)) pe_int) pe_int) (pv 2)) pe_int) (pv 1)))))))))),?_⟩
  have fl:(ns.map V.int).all flatV=true:=by
    rw [List.all_eq_true]
    intro x hx
    obtain ⟨o,_,rfl⟩:=List.mem_map.mp hx
    rfl
  refine ⟨fun σ H'=>σ=[some (.ref p),some (.int m),none,none,none,none]∧Same H H',?_,?_⟩
  · refine ⟨_,rfl,p,_,_,_,rfl,rfl,SqL.of hp,rfl,_,rfl,?_⟩
    refine ite2 (fun _=>?_) (fun _=>iteF ⟨rfl,.refl H⟩)
    refine ⟨_,rfl,p,_,_,_,rfl,rfl,SqL.of hp,rfl,_,rfl,(by show 2≤sizeLine; decide),fun l hl=>?_⟩
    refine ⟨l,_,rfl,.inl (SqL.of upd_same),rfl,rfl,_,rfl,?_⟩
    have s2:Same H (upd H l (.lst [.int 0,.int (-1)])):=same_new hl _
    refine ite2 (fun _=>?_) (fun _=>⟨rfl,s2⟩)
    have hp2:=s2 _ _ hp
    refine ⟨_,rfl,p,_,_,_,rfl,rfl,SqL.of hp2,rfl,_,rfl,_,_,rfl,⟨by omega,m2⟩,fun T hT=>?_⟩
    have s3:=s2.trans (same_new hT (.tup [.int (c / m),.int (c % m)]))
    have hp3:=s3 _ _ hp
    refine ⟨T,_,rfl,SqT.of upd_same,rfl,_,_,rfl,_,_,rfl,rfl,?_⟩
    refine ⟨_,rfl,_,rfl,p,_,_,_,rfl,rfl,hp3,rfl,?_⟩
    refine ⟨_,rfl,?_⟩
    have s4:=(Bt.same (p:=p) s3).upd (.lst [.bl b,.int (c / m),.int k,.ref a,.int z,.int w])
    exact q _ _ (Int.emod_nonneg _ (by omega)) (Int.emod_lt_of_pos _ (by omega)) s4 ⟨seq_bt hp s4 hS,b,c / m,k,z,w,upd_same,z0,z1⟩
  rintro σ H2 ⟨rfl,s2⟩
  have hp2:=s2 _ _ hp
  have hS2:=s2.seq hS
  refine ⟨fun σ H'=>∃ cell:Int,σ=[some (.ref p),some (.int m),some (.int cell),none,none,none]∧Same H H',?_,?_⟩
  · refine ⟨_,rfl,p,_,_,_,rfl,rfl,SqL.of hp2,rfl,(by show 0≤sizeLine; decide),fun l2 hl2=>?_⟩
    have s3:=s2.trans (same_new hl2 (.lst []))
    refine ⟨a,l2,_,[],rfl,rfl,(same_new hl2 _).seq hS2,SqL.of upd_same,fl,rfl,_,rfl,?_⟩
    have hp3:=s3 _ _ hp
    have hS3:=s3.seq hS
    refine ite2 (fun e=>?_) (fun _=>⟨7,rfl,s3⟩)
    have hne:0<ns.length:=by
      cases ns with
      | nil=>cases e
      | cons n r=>exact Nat.succ_pos _
    have hlm:(ns.map V.int).length=ns.length:=List.length_map _
    have hw:((w:Int) % (((ns.map V.int).length:Nat):Int))=((w % ns.length:Nat):Int):=by rw [hlm,Int.natCast_emod]
    have hlt:w % ns.length<ns.length:=Nat.mod_lt _ hne
    have hat:atI (ns.map V.int) ((w:Int) % (((ns.map V.int).length:Nat):Int))=some (.int ns[w % ns.length]):=by rw [hw]; exact at_map (List.getElem?_eq_getElem hlt)
    exact ⟨_,rfl,p,_,_,_,rfl,rfl,SqL.of hp3,rfl,_,rfl,p,_,_,_,rfl,rfl,SqL.of hp3,rfl,_,rfl,p,_,_,_,rfl,rfl,SqL.of hp3,rfl,a,_,rfl,.inl hS3,_,_,rfl,rfl,(by rw [hlm]; omega),a,_,_,_,rfl,rfl,hS3,hat,_,_,rfl,rfl,(show (0:Int)<1000000000039 by decide),_,rfl,s3⟩
  rintro σ H3 ⟨cell,rfl,s3⟩
  have hp3:=s3 _ _ hp
  have hS3:=s3.seq hS
  refine ⟨_,rfl,p,_,_,_,rfl,rfl,SqL.of hp3,rfl,_,_,rfl,rfl,?_⟩
  refine ⟨_,rfl,p,_,_,_,rfl,rfl,hp3,rfl,?_⟩
  refine ⟨_,rfl,p,_,_,_,rfl,rfl,SqL.of upd_same,rfl,_,rfl,p,_,_,_,rfl,rfl,SqL.of upd_same,rfl,_,_,rfl,rfl,.inl ⟨by omega,by omega⟩,?_⟩
  refine ⟨_,rfl,_,rfl,_,_,rfl,rfl,.inl ⟨by decide,by decide⟩,_,_,rfl,rfl,_,rfl,p,_,_,_,rfl,rfl,SqL.of upd_same,rfl,_,_,rfl,rfl,.inl ⟨by decide,by decide⟩,_,_,rfl,rfl,_,_,rfl,rfl,(show (0:Int)<998244359987 by decide),?_⟩
  refine ⟨_,rfl,p,_,_,_,rfl,rfl,upd_same,rfl,?_⟩
  refine ⟨_,rfl,p,_,_,_,rfl,rfl,SqL.of upd_same,rfl,_,_,rfl,rfl,⟨by decide,by decide⟩,_,_,rfl,rfl,.inr ⟨by decide,by decide⟩,_,rfl,_,_,rfl,rfl,_,_,rfl,rfl,(show (0:Int)<987654323 by decide),_,rfl,_,_,rfl,rfl,(show (0:Int)<m by omega),?_⟩
  have z2:∀ y:Int,0≤y % 998244359987∧y % 998244359987<998244359987:=fun y=>⟨Int.emod_nonneg _ (by decide),Int.emod_lt_of_pos _ (by decide)⟩
  refine q _ _ (Int.emod_nonneg _ (by omega)) (Int.emod_lt_of_pos _ (by omega)) (((Bt.same (p:=p) s3).upd _).upd _) ⟨seq_bt hp (((Bt.same (p:=p) s3).upd _).upd _) hS,b,c,k,_,w+1,upd_same,(z2 _).1,(z2 _).2⟩
end
end K43
namespace K43
open PySem L2
structure Lis where
  (whom:Nat) (beats:Int) (back:Bool)
inductive RW where
  | all | any | num (n:Int)
structure Bell where
  (name:Str) (start:Int) (rule:RW) (lis:List Lis)
def lisV (l:Lis):List V:=[.int l.whom,.int l.beats,.int (if l.back then 1 else 0)]
def rwV:RW→V
  | .all=>.str "all"
  | .any=>.str "any"
  | .num n=>.int n
def LisAt (H:Hp) (v:V) (l:Lis):Prop:=∃ a,v=.ref a∧H a=some (.tup (lisV l))
def BellAt (H:Hp) (v:V) (b:Bell):Prop:=∃ a t ls,v=.ref a∧H a=some (.tup [.str b.name,.int b.start,rwV b.rule,.ref t])∧H t=some (.tup ls)∧Paired (LisAt H) ls b.lis
def ChoirAt (H:Hp) (v:V) (c:List Bell):Prop:=∃ a vs,v=.ref a∧H a=some (.tup vs)∧Paired (BellAt H) vs c
def TupS (H H':Hp):Prop:=∀ b xs,H b=some (.tup xs)→H' b=some (.tup xs)
theorem TupS.refl (H:Hp):TupS H H:=fun _ _ e=>e
theorem TupS.trans {H H1 H2:Hp} (a:TupS H H1) (b:TupS H1 H2):TupS H H2:=fun c xs e=>b c xs (a c xs e)
theorem Same.tup {H H':Hp} (s:Same H H'):TupS H H':=fun b xs e=>s b _ e
theorem tup_upd {H:Hp} {p:Addr} {o:HO} (h:∀ xs,H p≠some (.tup xs)):TupS H (upd H p o):=fun b xs e=>by
  have hb:b≠p:=fun z=>h xs (by rw [← z]; exact e)
  rw [upd_ne hb]
  exact e
theorem paired_imp {α β:Type} {F G:α→β→Prop} (f:∀ a b,F a b→G a b):∀ {xs:List α} {ys:List β},Paired F xs ys→Paired G xs ys
  | _,_,.nil=>.nil
  | _,_,.cons r t=>.cons (f _ _ r) (paired_imp f t)
theorem paired_len {α β:Type} {F:α→β→Prop}:∀ {xs:List α} {ys:List β},Paired F xs ys→xs.length=ys.length
  | _,_,.nil=>rfl
  | _,_,.cons _ t=>congrArg (·+1) (paired_len t)
theorem paired_at {α β:Type} {F:α→β→Prop}:∀ {xs:List α} {ys:List β} {i:Nat} {x:α},Paired F xs ys→xs[i]?=some x→∃ y,ys[i]?=some y∧F x y
  | _,_,0,_,.cons r _,e=>by simp at e; subst e; exact ⟨_,rfl,r⟩
  | _,_,i+1,_,.cons _ t,e=>by
    obtain ⟨y,h1,h2⟩:=paired_at (i:=i) t (by simpa using e)
    exact ⟨y,by simpa using h1,h2⟩
theorem paired_at' {α β:Type} {F:α→β→Prop}:∀ {xs:List α} {ys:List β} {i:Nat} {y:β},Paired F xs ys→ys[i]?=some y→∃ x,xs[i]?=some x∧F x y
  | _,_,0,_,.cons r _,e=>by simp at e; subst e; exact ⟨_,rfl,r⟩
  | _,_,i+1,_,.cons _ t,e=>by
    obtain ⟨y,h1,h2⟩:=paired_at' (i:=i) t (by simpa using e)
    exact ⟨y,by simpa using h1,h2⟩
theorem paired_snoc {α β:Type} {F:α→β→Prop} {x:α} {y:β} (h:F x y):∀ {xs:List α} {ys:List β},Paired F xs ys→Paired F (xs++[x]) (ys++[y])
  | _,_,.nil=>.cons h .nil
  | _,_,.cons r t=>.cons r (paired_snoc h t)
theorem LisAt.mono {H H':Hp} (s:TupS H H') {v:V} {l:Lis} (h:LisAt H v l):LisAt H' v l:=by
  obtain ⟨a,e,q⟩:=h
  exact ⟨a,e,s _ _ q⟩
theorem BellAt.mono {H H':Hp} (s:TupS H H') {v:V} {b:Bell} (h:BellAt H v b):BellAt H' v b:=by
  obtain ⟨a,t,ls,e,q1,q2,q3⟩:=h
  exact ⟨a,t,ls,e,s _ _ q1,s _ _ q2,paired_imp (fun _ _ z=>z.mono s) q3⟩
theorem ChoirAt.mono {H H':Hp} (s:TupS H H') {v:V} {c:List Bell} (h:ChoirAt H v c):ChoirAt H' v c:=by
  obtain ⟨a,vs,e,q1,q2⟩:=h
  exact ⟨a,vs,e,s _ _ q1,paired_imp (fun _ _ z=>z.mono s) q2⟩
def GoodR (n:Nat):RW→Prop
  | .num i=>1≤i∧i≤n
  | _=>True
def GoodL (m k:Nat) (waits:Bool) (l:Lis):Prop:=l.whom<m∧1≤l.beats∧l.beats≤1000∧(waits=false→l.back=false→l.whom<k)
structure GoodB (m k:Nat) (waits:Bool) (b:Bell):Prop where
  n1:1≤b.lis.length
  n6:b.lis.length≤6
  s0:0≤b.start
  s1:b.start≤1000
  r:GoodR b.lis.length b.rule
  l:∀ l∈b.lis,GoodL m k waits l
end K43
namespace K43
open PySem L2
theorem PackAt.tupS {K:PySem.W.Frag} {ns:List Int} {a p:Addr} {H H':Hp} (P:PackAt K ns a p H) (s:Bt p H H'):TupS H H':=fun b xs e=>by
  obtain ⟨_,b',c,k,z,w,hp,_⟩:=P
  refine s b _ ?_ e
  rintro rfl
  rw [hp] at e
  cases e
section
variable {P:Program} {w:World} {K:PySem.W.Frag} {mg:Str→Option Value} {base:Heap} {f:Addr} {fd:FuncData}
theorem pick4 {d:Int} (h0:0≤d) (h1:d<4):∃ m:Int,atI [V.int 4,.int 9,.int 60,.int 1000] d=some (.int m)∧1≤m∧m≤1000:=by
  have hc:d=0∨d=1∨d=2∨d=3:=by omega
  rcases hc with rfl | rfl | rfl | rfl
  · exact ⟨4,rfl,by decide,by decide⟩
  · exact ⟨9,rfl,by decide,by decide⟩
  · exact ⟨60,rfl,by decide,by decide⟩
  · exact ⟨1000,rfl,by decide,by decide⟩
def sp_listening (K:PySem.W.Frag):Sp:=fun vs H Q _=>∃ (a p:Addr) (ns:List Int) (k m:Nat) (waits:Bool),vs=[.ref p,.int k,.int m,.bl waits]∧PackAt K ns a p H∧1≤m∧m≤6∧
  ∀ v l H',Bt p H H'→PackAt K ns a p H'→LisAt H' v l→GoodL m k waits l→Q v H'
theorem sc_listening:FnScope ["_law_pack_here","_law_k","_law_many","_law_waits","_law_whom","_law_beats","_law_back"] ["_law_pack_here","_law_k","_law_many","_law_waits"] (defScope s_listening):=⟨rfl,rfl,rfl,by decide +kernel,rfl,by decide +kernel,by decide +kernel⟩
theorem ok_listening (F:Fun K "_law_listening" "_law_listening" s_listening f fd) (B:Blt mg) (C_draw:Cal P w K mg base 1 "_law_draw" ["_law_pack_here","_law_many"] (sp_draw K)):FnOk P w K mg base CX0 2 f fd ["_law_pack_here","_law_k","_law_many","_law_waits"] (sp_listening K):=by
  refine F.ok sc_listening (fun vs H Q E h=>?_) (fun cdv A outer s H vs Q E hr h=>?_)
  · obtain ⟨a,p,ns,k,m,waits,rfl,_⟩:=h
    rfl
  obtain ⟨a,p,ns,k,m,waits,rfl,P0,m1,m6,q⟩:=h
  refine ⟨_,(pss_cons (ps_set (i:=4) sc_listening.nd rfl (Or.inl rfl) (pe_fn C_draw hr (by decide) rfl (pa_cons (pv 0) (pa_cons (pv 2) pa_nil))))
    (pss_cons (ps_set (i:=5) sc_listening.nd rfl (Or.inl rfl) (pe_op op_add pe_int (pe_fn C_draw hr (by decide) rfl (pa_cons (pv 0) (pa_cons (pe_ix ix_list (pe_lst (pa_cons pe_int (pa_cons pe_int (pa_cons pe_int (pa_cons pe_int pa_nil))))) (pe_fn C_draw hr (by decide) rfl (pa_cons (pv 0) (pa_cons pe_int pa_nil))) (fun _ _=>rfl)) pa_nil)))))
    (pss_cons (ps_set (i:=6) sc_listening.nd rfl (Or.inl rfl) (pe_callTy call_int1 rfl B.int_ PyProof.Rows.boot_int (pa_cons (pe_cmpR op_gt (pe_fn C_draw hr (by decide) rfl (pa_cons (pv 0) (pa_cons pe_int pa_nil))) pe_int (nomark _)) pa_nil)))
    (pss_cons (ps_if (PW.pt (pw_and (pt_cmpR op_ge (pv 4) (pv 1) (nomark _)) (pw_and1 (pt_not (pt_val (pv 3))))))
    (pss_one (ps_set (i:=6) sc_listening.nd rfl (Or.inl rfl) pe_int))
    pss_nil)
    (pss_one (ps_ret (pe_tup (pa_cons (pv 4) (pa_cons (pv 5) (pa_cons (pv 6) pa_nil)))))))))),?_⟩
  refine ⟨_,rfl,_,rfl,a,p,ns,m,rfl,P0,by omega,by omega,fun d1 H1 d10 d11 s1 P1=>?_⟩
  refine ⟨_,rfl,(by show 4≤sizeLine; decide),fun l hl=>?_⟩
  have s1':=s1.new hl (.lst [.int 4,.int 9,.int 60,.int 1000])
  have P1':PackAt K ns a p (upd H1 l (.lst [.int 4,.int 9,.int 60,.int 1000])):=by
    obtain ⟨z1,b,c,k,z,w,hp,z2⟩:=P1
    exact ⟨(same_new hl _).seq z1,b,c,k,z,w,(same_new hl _) _ _ hp,z2⟩
  refine ⟨_,rfl,a,p,ns,4,rfl,P1',by decide,by decide,fun d2 H2 d20 d21 s2 P2=>?_⟩
  obtain ⟨mx,hmx,mx1,mx2⟩:=pick4 d20 d21
  have hl2:H2 l=some (.lst [.int 4,.int 9,.int 60,.int 1000]):=s2 l _ (by rintro rfl; exact absurd hl (by obtain ⟨o,e⟩:=P1.there; rw [e]; intro z; cases z)) upd_same
  refine ⟨l,_,_,_,rfl,rfl,SqL.of hl2,hmx,a,p,ns,mx,rfl,P2,mx1,by omega,fun d3 H3 d30 d31 s3 P3=>?_⟩
  refine ⟨_,_,rfl,rfl,?_⟩
  refine ⟨_,rfl,a,p,ns,3,rfl,P3,by decide,by decide,fun d4 H4 d40 d41 s4 P4=>?_⟩
  refine ⟨_,_,rfl,rfl,.inr ⟨_,rfl,?_⟩⟩
  have st:Bt p H H4:=((s1'.trans s2).trans s3).trans s4
  have fin:∀ (back:Bool),(waits=false→back=false→d1.toNat<k)→∀ T,H4 T=none→Q (.ref T) (upd H4 T (.tup [.int d1,.int (1+d3),.int (if back then 1 else 0)])):=fun back hb T hT=>by
    refine q (.ref T) ⟨d1.toNat,1+d3,back⟩ _ (st.new hT _) ?_ ⟨T,rfl,?_⟩ ⟨(show d1.toNat<m by omega),(show 1≤1+d3 by omega),(show 1+d3≤1000 by omega),hb⟩
    · obtain ⟨z1,b,c,k,z,w,hp,z2⟩:=P4
      exact ⟨(same_new hT _).seq z1,b,c,k,z,w,(same_new hT _) _ _ hp,z2⟩
    · have e:((d1.toNat:Nat):Int)=d1:=by omega
      show upd H4 T _ T=some (.tup [.int ((d1.toNat:Nat):Int),_,_])
      rw [e]
      exact upd_same
  refine ⟨_,rfl,_,rfl,_,_,rfl,rfl,_,rfl,?_⟩
  refine ite2 (fun c1=>?_) (fun c1=>?_)
  · refine ⟨_,rfl,_,rfl,?_⟩
    refine ite2 (fun c2=>?_) (fun c2=>?_)
    · refine ⟨_,rfl,_,rfl,_,rfl,(by show 3≤sizeLine; decide),fun T hT=>?_⟩
      exact fin true (fun _ z=>nomatch z) T hT
    · refine ⟨_,rfl,_,rfl,_,rfl,(by show 3≤sizeLine; decide),fun T hT=>?_⟩
      refine fin (decide (0<d4)) (fun hw _=>?_) T hT
      subst hw
      exact absurd rfl c2
  · refine ⟨_,rfl,_,rfl,_,rfl,(by show 3≤sizeLine; decide),fun T hT=>?_⟩
    refine fin (decide (0<d4)) (fun _ _=>?_) T hT
    have c1':¬ (k:Int)≤d1:=of_decide_eq_false (Bool.eq_false_iff.mpr c1)
    omega
def SortR (so:Int) (m:Nat) (r:RW):Prop:=GoodR m r∧(so=0→r=.all∨r=.num m)∧(so=1→r=.any∨r=.num 1)
def sp_rulep (K:PySem.W.Frag):Sp:=fun vs H Q _=>∃ (a p:Addr) (ns:List Int) (style:Int) (n:Nat),vs=[.ref p,.int style,.int n]∧PackAt K ns a p H∧1≤n∧n≤6∧∀ r H',Bt p H H'→PackAt K ns a p H'→SortR style n r→Q (rwV r) H'
theorem sc_rulep:FnScope ["_law_pack_here","_law_style","_law_count"] ["_law_pack_here","_law_style","_law_count"] (defScope s_rule):=⟨rfl,rfl,rfl,by decide +kernel,rfl,by decide +kernel,by decide +kernel⟩
theorem PackAt.new {K:PySem.W.Frag} {ns:List Int} {a p l:Addr} {H:Hp} (P:PackAt K ns a p H) (h:H l=none) (o:HO):PackAt K ns a p (upd H l o):=by
  obtain ⟨z1,b,c,k,z,w,hp,z2⟩:=P
  exact ⟨(same_new h _).seq z1,b,c,k,z,w,(same_new h _) _ _ hp,z2⟩
theorem PackAt.ne {K:PySem.W.Frag} {ns:List Int} {a p l:Addr} {H:Hp} (P:PackAt K ns a p H) (h:H l=none):l≠p:=by
  obtain ⟨o,e⟩:=P.there
  rintro rfl
  rw [e] at h
  cases h
theorem ok_rulep (F:Fun K "_law_rule" "_law_rule" s_rule f fd) (C_draw:Cal P w K mg base 1 "_law_draw" ["_law_pack_here","_law_many"] (sp_draw K)):FnOk P w K mg base CX0 2 f fd ["_law_pack_here","_law_style","_law_count"] (sp_rulep K):=by
  refine F.ok sc_rulep (fun vs H Q E h=>?_) (fun cdv A outer s H vs Q E hr h=>?_)
  · obtain ⟨a,p,ns,style,n,rfl,_⟩:=h
    rfl
  obtain ⟨a,p,ns,style,n,rfl,P0,n1,n6,q⟩:=h
  refine ⟨_,(pss_cons (ps_if (pt_cmpR op_eq (pv 1) pe_int (nomark _))
    (pss_one (ps_ret (pe_ix ix_list (pe_lst (pa_cons pe_str (pa_cons (pv 2) pa_nil))) (pe_fn C_draw hr (by decide) rfl (pa_cons (pv 0) (pa_cons pe_int pa_nil))) (fun _ _=>rfl))))
    pss_nil)
    (pss_cons (ps_if (pt_cmpR op_eq (pv 1) pe_int (nomark _))
    (pss_one (ps_ret (pe_ix ix_list (pe_lst (pa_cons pe_str (pa_cons pe_int pa_nil))) (pe_fn C_draw hr (by decide) rfl (pa_cons (pv 0) (pa_cons pe_int pa_nil))) (fun _ _=>rfl))))
    pss_nil)
    (pss_one (ps_ret (pe_ix ix_list (pe_lst (pa_cons pe_str (pa_cons pe_str (pa_cons (pe_op op_add pe_int (pe_fn C_draw hr (by decide) rfl (pa_cons (pv 0) (pa_cons (pv 2) pa_nil)))) pa_nil)))) (pe_fn C_draw hr (by decide) rfl (pa_cons (pv 0) (pa_cons pe_int pa_nil))) (fun _ _=>rfl)))))),?_⟩
  refine ⟨_,rfl,rfl,_,rfl,?_⟩
  refine ite2 (fun y0=>?_) (fun y0=>?_)
  · have e0:style=0:=by
      have:=of_decide_eq_true y0
      injection this
    refine ⟨_,rfl,(by show 2≤sizeLine; decide),fun l hl=>?_⟩
    refine ⟨_,rfl,a,p,ns,2,rfl,P0.new hl _,by decide,by decide,fun d H1 d0 d1 s1 P1=>?_⟩
    have hl1:=s1 l _ (P0.ne hl) (upd_same (o:=.lst [.str "all",.int n]))
    have hc:d=0∨d=1:=by omega
    rcases hc with rfl | rfl
    · exact ⟨l,_,_,_,rfl,rfl,SqL.of hl1,rfl,q .all _ (((Bt.refl p H).new hl _).trans s1) P1 ⟨trivial,fun _=>.inl rfl,fun e=>absurd e (by omega)⟩⟩
    · exact ⟨l,_,_,_,rfl,rfl,SqL.of hl1,rfl,q (.num n) _ (((Bt.refl p H).new hl _).trans s1) P1 ⟨⟨by omega,by omega⟩,fun _=>.inr rfl,fun e=>absurd e (by omega)⟩⟩
  refine ⟨_,rfl,rfl,_,rfl,?_⟩
  have n0:style≠0:=fun e=>y0 (by rw [e]; rfl)
  refine ite2 (fun y1=>?_) (fun y1=>?_)
  · have e1:style=1:=by
      have:=of_decide_eq_true y1
      injection this
    refine ⟨(by show 2≤sizeLine; decide),fun l hl=>?_⟩
    refine ⟨_,rfl,a,p,ns,2,rfl,P0.new hl _,by decide,by decide,fun d H1 d0 d1 s1 P1=>?_⟩
    have hl1:=s1 l _ (P0.ne hl) (upd_same (o:=.lst [.str "any",.int 1]))
    have hc:d=0∨d=1:=by omega
    rcases hc with rfl | rfl
    · exact ⟨l,_,_,_,rfl,rfl,SqL.of hl1,rfl,q .any _ (((Bt.refl p H).new hl _).trans s1) P1 ⟨trivial,fun e=>absurd e n0,fun _=>.inl rfl⟩⟩
    · exact ⟨l,_,_,_,rfl,rfl,SqL.of hl1,rfl,q (.num 1) _ (((Bt.refl p H).new hl _).trans s1) P1 ⟨⟨by omega,by omega⟩,fun e=>absurd e n0,fun _=>.inr rfl⟩⟩
  have n1':style≠1:=fun e=>y1 (by rw [e]; rfl)
  refine ⟨_,rfl,_,rfl,a,p,ns,n,rfl,P0,by omega,by omega,fun d1 H1 d10 d11 s1 P1=>?_⟩
  refine ⟨_,_,rfl,rfl,(by show 3≤sizeLine; decide),fun l hl=>?_⟩
  refine ⟨_,rfl,a,p,ns,3,rfl,P1.new hl _,by decide,by decide,fun d H2 d0 d2 s2 P2=>?_⟩
  have hl1:=s2 l _ (P1.ne hl) (upd_same (o:=.lst [.str "all",.str "any",.int (1+d1)]))
  have st:=(s1.new hl (.lst [.str "all",.str "any",.int (1+d1)])).trans s2
  have hc:d=0∨d=1∨d=2:=by omega
  rcases hc with rfl | rfl | rfl
  · exact ⟨l,_,_,_,rfl,rfl,SqL.of hl1,rfl,q .all _ st P2 ⟨trivial,fun e=>absurd e n0,fun e=>absurd e n1'⟩⟩
  · exact ⟨l,_,_,_,rfl,rfl,SqL.of hl1,rfl,q .any _ st P2 ⟨trivial,fun e=>absurd e n0,fun e=>absurd e n1'⟩⟩
  · exact ⟨l,_,_,_,rfl,rfl,SqL.of hl1,rfl,q (.num (1+d1)) _ st P2 ⟨⟨by omega,by omega⟩,fun e=>absurd e n0,fun e=>absurd e n1'⟩⟩
end
end K43
namespace K43
open PySem L2
theorem at_zero {α:Type} (x:α) (r:List α):atI (x::r) 0=some x:=atI_nat (j:=0) rfl
def letters:Str:="abcdefghijklmnopqrstuvwxyz"
theorem letters_len:letters.cps.toList.length=26:=by decide +kernel
theorem letters_size:letters.length=26:=by decide +kernel
def cand (c:Nat):Str:=(⟨#[c]⟩:Str)++("ring":Str)
theorem cand_len (c:Nat):(cand c).length=5:=by
  unfold cand
  rw [str_app_len]
  rfl
theorem cands_nodup:(letters.cps.toList.map cand).Nodup:=by decide +kernel
theorem ring_free (names:List Str) (h:names.length≤5):∃ c∈letters.cps.toList,cand c∉names:=by
  refine Classical.byContradiction fun no=>?_
  have all:∀ x∈letters.cps.toList.map cand,x∈names:=fun x hx=>by
    obtain ⟨c,hc,rfl⟩:=List.mem_map.mp hx
    exact Classical.byContradiction fun hm=>no ⟨c,hc,hm⟩
  have:=nodup_sub cands_nodup all
  rw [List.length_map,letters_len] at this
  omega
theorem ring_first (names:List Str) (h:names.length≤5):∃ z rest,(letters.cps.toList.filter (fun c=>decide (cand c∉names))).map (fun c=>V.str (cand c))=V.str z::rest∧z∉names∧z.length=5:=by
  obtain ⟨c,hc,hm⟩:=ring_free names h
  have hin:c∈letters.cps.toList.filter (fun c=>decide (cand c∉names)):=List.mem_filter.mpr ⟨hc,decide_eq_true hm⟩
  cases e:letters.cps.toList.filter (fun c=>decide (cand c∉names)) with
  | nil=>rw [e] at hin; cases hin
  | cons c0 r =>
    have h0:c0∈letters.cps.toList.filter (fun c=>decide (cand c∉names)):=by rw [e]; exact List.mem_cons_self
    exact ⟨cand c0,_,rfl,of_decide_eq_true (List.mem_filter.mp h0).2,cand_len c0⟩
theorem PackAt.same {K:PySem.W.Frag} {ns:List Int} {a p:Addr} {H H':Hp} (P:PackAt K ns a p H) (s:Same H H'):PackAt K ns a p H':=by
  obtain ⟨z1,b,c,k,z,w,hp,z2⟩:=P
  exact ⟨s.seq z1,b,c,k,z,w,s _ _ hp,z2⟩
section
variable {P:Program} {w:World} {K:PySem.W.Frag} {mg:Str→Option Value} {base:Heap} {f:Addr} {fd:FuncData}
def sp_name (K:PySem.W.Frag):Sp:=fun vs H Q _=>∃ (a p sn:Addr) (ns:List Int) (names:List Str),vs=[.ref p,.ref sn]∧PackAt K ns a p H∧H sn=some (.lst (names.map V.str))∧names.length≤5∧(∀ x∈names,x.length≤8)∧
  ∀ z H',z∉names→1≤z.length→z.length≤8→Bt p H H'→PackAt K ns a p H'→Q (.str z) H'
theorem sc_name:FnScope ["_law_pack_here","_law_seen","_law_letters","_law_name_here","_law_way","_law_k"] ["_law_pack_here","_law_seen"] (defScope s_name):=⟨rfl,rfl,rfl,by decide +kernel,rfl,by decide +kernel,by decide +kernel⟩
theorem ok_name (F:Fun K "_law_name" "_law_name" s_name f fd) (B:Blt mg) (C_draw:Cal P w K mg base 1 "_law_draw" ["_law_pack_here","_law_many"] (sp_draw K)):FnOk P w K mg base CX0 2 f fd ["_law_pack_here","_law_seen"] (sp_name K):=by
  refine F.ok sc_name (fun vs H Q E h=>?_) (fun cdv A outer s H vs Q E hr h=>?_)
  · obtain ⟨a,p,sn,ns,names,rfl,_⟩:=h
    rfl
  obtain ⟨a,p,sn,ns,names,rfl,P0,hsn,hn5,hn8,q⟩:=h
  have nsp:sn≠p:=by
    rintro rfl
    obtain ⟨_,b,c,k,z,w,hp,_⟩:=P0
    rw [hsn] at hp
    have e:=HO.lst.inj (Option.some.inj hp)
    cases names with
    | nil=>cases e
    | cons x r=>cases e
  refine ⟨_,(pss_cons (ps_set (i:=2) sc_name.nd rfl (Or.inl rfl) pe_str)
    (pss_cons (ps_set (i:=3) sc_name.nd rfl (Or.inl rfl) pe_str)
    (pss_cons (ps_set (i:=4) sc_name.nd rfl (Or.inl rfl) (pe_fn C_draw hr (by decide) rfl (pa_cons (pv 0) (pa_cons pe_int pa_nil))))
    (pss_join (ps_if (PW.pt (pw_and (pt_cmpR op_gt (pv 4) pe_int (nomark _)) (pw_and1 (pt_cmpR (op_neL hr.units0) (pv 1) (pe_lst pa_nil) (nomark _)))))
    (pss_one (ps_set (i:=3) sc_name.nd rfl (Or.inl rfl) (pe_slice sl_str (pe_ix ix_list (pv 1) (pe_un un_neg pe_int) (fun _ _=>rfl)) po_none (po_some (pe_op op_sub pe_int (pe_op op_mul pe_int (pe_op op_sub (pv 4) pe_int)))))))
    pss_nil)
    (pss_join (ps_for PassesOwn.never rfl (pi_range1 rfl B.range_ (pa_cons (pe_op op_add pe_int (pe_fn C_draw hr (by decide) rfl (pa_cons (pv 0) (pa_cons (pe_op op_sub pe_int (pe_callB call_len_str rfl B.len_ PySem.boot_len (pa_cons (pv 3) pa_nil))) pa_nil)))) pa_nil)) (pg_name (i:=5) sc_name.nd rfl (Or.inl rfl))
    (pss_cons (ps_set (i:=3) sc_name.nd rfl (Or.inl rfl) (pe_op op_add_str (pv 3) (pe_ix ix_str (pv 2) (pe_fn C_draw hr (by decide) rfl (pa_cons (pv 0) (pa_cons pe_int pa_nil))) (fun _ _=>rfl))))
    (pss_one (ps_if (pt_cmpR op_eq (pv 4) pe_int (nomark _))
    (pss_one ps_break)
    pss_nil))))
    (pss_join (ps_if (pt_join (PW.pt (pw_or (pt_cmpR op_in_seq (pv 3) (pv 1) rfl) (pw_or1 (pt_cmpR op_in_seq (pv 3) (pe_lst (pa_cons pe_str (pa_cons pe_str (pa_cons pe_str (pa_cons pe_str pa_nil))))) rfl)))))
    (pss_one (ps_set (i:=3) sc_name.nd rfl (Or.inl rfl) (pe_ix ix_list (pe_comp ["_law_sign"] ["_law_seen"] [1] rfl (pi_str (pv 2)) (fun _ _ _ _ _=>(pg_name (i:=0) (show List.Nodup [("_law_sign":Str),("_law_seen":Str)] by decide +kernel) rfl (Or.inl rfl))) (fun _ _ _ _ _=>(pts_one (pt_cmpR (op_notIn_seqC (K:=K) rfl) (pe_op op_add_str (pv 0) pe_str) (pv 1) rfl))) (fun _ _ _ _ _=>(pe_op op_add_str (pv 0) pe_str))) pe_int (fun _ _=>rfl))))
    pss_nil)
    (pss_one (ps_ret (pv 3))))))))),?_⟩
  refine ⟨_,rfl,a,p,ns,3,rfl,P0,by decide,by decide,fun way H1 w0 w1 s1 P1=>?_⟩
  have hsn1:=s1 _ _ nsp hsn
  refine ⟨fun σ H'=>∃ zN:Str,zN.length≤7∧σ=[some (.ref p),some (.ref sn),some (.str letters),some (.str zN),some (.int way),none]∧Bt p H H'∧PackAt K ns a p H',?_,?_⟩
  · refine ⟨_,rfl,_,_,rfl,rfl,_,rfl,?_⟩
    refine ite2 (fun cw=>?_) (fun _=>iteF ⟨_,(by decide +kernel),rfl,s1,P1⟩)
    refine ⟨_,rfl,(by show 0≤sizeLine; decide),fun l hl=>?_⟩
    have sl:=same_new hl (.lst [])
    refine ⟨sn,l,_,[],rfl,rfl,SqL.of (sl _ _ hsn1),SqL.of upd_same,strs_flat names,rfl,_,rfl,?_⟩
    refine ite2 (fun ce=>?_) (fun _=>⟨_,(by decide +kernel),rfl,s1.new hl _,P1.new hl _⟩)
    have hne:names≠[]:=by
      rintro rfl
      cases ce
    have hat:atI (names.map V.str) (-1)=some (.str (names.getLast hne)):=by
      have e:names.map V.str=(names.dropLast.map V.str)++[V.str (names.getLast hne)]:=by
        have:=List.dropLast_concat_getLast hne
        conv=>lhs; rw [← this]
        rw [List.map_append]
        rfl
      rw [e]
      exact atI_last _ _
    have hl8:(names.getLast hne).length≤8:=hn8 _ (List.getLast_mem hne)
    have cw':(0:Int)<way:=of_decide_eq_true cw
    have hz7:(Txt.slice (names.getLast hne) none (some (7 - 3 * (way - 1)))).length≤7:=by
      have hc:way=1∨way=2:=by omega
      rcases hc with rfl | rfl
      · exact slice_len _ 7
      · exact Nat.le_trans (slice_len _ 4) (by decide)
    exact ⟨_,rfl,_,rfl,sn,_,_,_,rfl,rfl,SqL.of (sl _ _ hsn1),hat,_,rfl,_,_,rfl,rfl,_,_,rfl,rfl,.inl ⟨by decide,by decide⟩,_,_,rfl,rfl,_,rfl,_,rfl,(by rw [sizeLine_eq]; omega),_,hz7,rfl,s1.new hl _,P1.new hl _⟩
  rintro σ Hx ⟨zN,hz7,rfl,sx,Px⟩
  refine ⟨fun σ H'=>∃ (z:Str) (o5:Option V),σ=[some (.ref p),some (.ref sn),some (.str letters),some (.str z),some (.int way),o5]∧(1≤z.length∧z.length≤8)∧Bt p H H'∧PackAt K ns a p H',?_,?_⟩
  · refine ⟨_,rfl,_,rfl,_,rfl,(by rw [sizeLine_eq]; omega),_,_,rfl,rfl,a,p,ns,_,rfl,Px,(by show 1≤8 - ((zN.length:Nat):Int); omega),(by show 8 - ((zN.length:Nat):Int)<1073741824; omega),fun d Hy d0 d1 sy Py=>?_⟩
    refine ⟨_,_,rfl,rfl,_,rfl,(by show -(2 ^ 62)≤1+d; omega),(by show 1+d<2 ^ 62; omega),?_⟩
    refine for_range (lo:=0) (n:=(1+d).toNat) (fun i σ H2=>∃ (z:Str) (o5:Option V),σ=[some (.ref p),some (.ref sn),some (.str letters),some (.str z),some (.int way),o5]∧Bt p H H2∧PackAt K ns a p H2∧z.length=zN.length+i) ⟨zN,none,rfl,sx.trans sy,Py,rfl⟩ ?_ ?_
    · rintro i σ H2 hi ⟨z,o5,rfl,s2,P2,hz⟩
      refine ⟨_,rfl,_,rfl,_,rfl,a,p,ns,26,rfl,P2,by decide,by decide,fun d2 H3 d20 d21 s3 P3=>?_⟩
      have hd2:d2.toNat<letters.cps.toList.length:=by rw [letters_len]; omega
      have hat:atI letters.cps.toList d2=some letters.cps.toList[d2.toNat]:=by
        have e:d2=((d2.toNat:Nat):Int):=by omega
        have:=atI_nat (List.getElem?_eq_getElem hd2)
        rw [← e] at this
        exact this
      refine ⟨letters,_,_,rfl,rfl,(by rw [letters_size]; decide),hat,?_⟩
      have hz9:z.length+1≤8:=by
        have:((zN.length:Nat):Int)+(i:Int)<8:=by omega
        omega
      refine ⟨_,_,rfl,rfl,(by rw [str_size1,sizeLine_eq]; omega),?_⟩
      have hzl:(z++(⟨#[letters.cps.toList[d2.toNat]]⟩:Str)).length=z.length+1:=by rw [str_app_len]; rfl
      generalize z++(⟨#[letters.cps.toList[d2.toNat]]⟩:Str)=zz at hzl ⊢
      refine ⟨_,rfl,rfl,_,rfl,?_⟩
      exact ite2 (fun _=>⟨zz,_,rfl,⟨by omega,by omega⟩,s2.trans s3,P3⟩) (fun _=>⟨zz,_,rfl,s2.trans s3,P3,by omega⟩)
    · rintro σ H2 ⟨z,o5,rfl,s2,P2,hz⟩
      exact ⟨z,o5,rfl,⟨by omega,by omega⟩,s2,P2⟩
  rintro σ H2 ⟨z,o5,rfl,⟨zl,zu⟩,s2,P2⟩
  have hsn2:=s2 _ _ nsp hsn
  refine ⟨fun σ H'=>∃ (z:Str) (o5:Option V),σ=[some (.ref p),some (.ref sn),some (.str letters),some (.str z),some (.int way),o5]∧z∉names∧(1≤z.length∧z.length≤8)∧Bt p H H'∧PackAt K ns a p H',?_,?_⟩
  · refine ⟨fun b H'=>Same H2 H'∧(b=false→z∉names),?_,?_⟩
    · refine ⟨_,rfl,_,rfl,sn,_,rfl,.inl (SqL.of hsn2),rfl,strs_flat names,_,rfl,?_⟩
      refine ite2 (fun c1=>⟨.refl H2,fun h=>nomatch h⟩) (fun c1=>?_)
      have c1':¬ inV (.str z) (names.map V.str)=true:=c1
      rw [inV_str] at c1'
      refine ⟨_,rfl,(by show 4≤sizeLine; decide),fun l4 hl4=>?_⟩
      exact ⟨l4,_,rfl,.inl (SqL.of upd_same),rfl,rfl,_,rfl,same_new hl4 _,fun _ hz=>c1' (decide_eq_true hz)⟩
    · rintro b H3 ⟨s3,hb⟩
      cases b with
      | false=>exact iteF ⟨z,_,rfl,hb rfl,⟨zl,zu⟩,s2.trans (Bt.same s3),P2.same s3⟩
      | true =>
        refine iteT ?_
        have hsn3:=s3 _ _ hsn2
        refine ⟨_,rfl,letters,rfl,fun D hD=>?_⟩
        refine comp_str (z:=letters) (fun i ys H4=>Same H3 H4∧H4 sn=some (.lst (names.map V.str))∧ys=((letters.cps.toList.take i).filter (fun c=>decide (cand c∉names))).map (fun c=>V.str (cand c))) ⟨same_new hD _,(same_new hD _) _ _ hsn3,rfl⟩ ?_ ?_
        · rintro i c ys H4 hc ⟨s4,hsn4,rfl⟩ hD4
          have hc':letters.cps.toList[i]?=some c:=by simpa using hc
          have hi:i<26:=by
            have:=(List.getElem?_eq_some_iff.mp hc').1
            rw [letters_len] at this
            exact this
          refine ⟨rfl,?_⟩
          refine ⟨_,rfl,_,_,rfl,rfl,(by show 1+4≤sizeLine; decide),_,rfl,sn,_,rfl,.inl (SqL.of hsn4),rfl,strs_flat names,_,rfl,?_⟩
          have hfl:((letters.cps.toList.take (i+1)).filter (fun c=>decide (cand c∉names)))=((letters.cps.toList.take i).filter (fun c=>decide (cand c∉names)))++(if decide (cand c∉names)=true then [c] else []):=by
            rw [take_snoc hc',List.filter_append]
            by_cases hm:cand c∈names <;> simp [hm]
          refine ite2 (fun e=>?_) (fun e=>?_)
          · have e':(!inV (.str (cand c)) (names.map V.str))=true:=e
            rw [inV_str] at e'
            have hm:cand c∉names:=by simpa using e'
            refine ⟨_,rfl,_,_,rfl,rfl,(by show 1+4≤sizeLine; decide),_,hD4,?_,_,⟨s4.upd hD _,?_,rfl⟩,?_⟩
            · rw [List.length_map]
              refine small1000 (Nat.le_trans (List.length_filter_le _ _) ?_)
              rw [List.length_take]
              omega
            · rw [upd_ne (fun z=>by rw [z,hD] at hsn3; cases hsn3)]
              exact hsn4
            · rw [hfl,if_pos (decide_eq_true hm),List.map_append]
              exact upd_same
          · have e':¬ (!inV (.str (cand c)) (names.map V.str))=true:=e
            rw [inV_str] at e'
            have hm:cand c∈names:=by simpa using e'
            refine ⟨_,⟨s4,hsn4,rfl⟩,?_⟩
            rw [hfl,if_neg (by simp [hm]),List.append_nil]
            exact hD4
        · rintro ys H4 ⟨s4,hsn4,rfl⟩ hD4
          have hT:letters.cps.toList.take letters.cps.size=letters.cps.toList:=List.take_of_length_le (by simp)
          rw [hT] at hD4
          obtain ⟨z0,rest,hz0,hm0,hl0⟩:=ring_first names hn5
          rw [hz0] at hD4
          have s34:=s3.trans s4
          exact ⟨D,_,_,_,rfl,rfl,SqL.of hD4,at_zero _ _,z0,_,rfl,hm0,⟨by omega,by omega⟩,s2.trans (Bt.same s34),P2.same s34⟩
  rintro σ H4 ⟨z,o5,rfl,hz,⟨zl,zu⟩,s4,P4⟩
  exact ⟨_,rfl,q z _ hz zl zu s4 P4⟩
end
end K43
namespace K43
open PySem L2
theorem Bt.upd' {p q:Addr} {H H1:Hp} (a:Bt p H H1) (h:H q=none) (o:HO):Bt p H (L2.upd H1 q o):=fun b u n e=>by
  have hb:b≠q:=fun z=>by rw [z,h] at e; cases e
  rw [upd_ne hb]
  exact a b u n e
theorem PackAt.later {K:PySem.W.Frag} {ns:List Int} {a p q:Addr} {H H1:Hp} (P0:PackAt K ns a p H) (P:PackAt K ns a p H1) (s:Bt p H H1) (h:H q=none) (o:HO):PackAt K ns a p (L2.upd H1 q o):=by
  obtain ⟨y1,b0,c0,k0,z0,w0,hp0,y2⟩:=P0
  obtain ⟨z1,b,c,k,z,w,hp,z2⟩:=P
  have hne:p≠q:=fun e=>by rw [← e,hp0] at h; cases h
  exact ⟨seq_bt hp0 (s.upd' h o) y1,b,c,k,z,w,by rw [upd_ne hne]; exact hp,z2⟩
theorem pick3 {d:Int} (h0:0≤d) (h1:d<3):∃ m:Int,atI [V.int 6,.int 40,.int 1001] d=some (.int m)∧1≤m∧m≤1001:=by
  have hc:d=0∨d=1∨d=2:=by omega
  rcases hc with rfl | rfl | rfl
  · exact ⟨6,rfl,by decide,by decide⟩
  · exact ⟨40,rfl,by decide,by decide⟩
  · exact ⟨1001,rfl,by decide,by decide⟩
theorem pick2 {d:Int} (h0:0≤d) (h1:d<2):∃ m:Int,atI [V.int 3,.int 6] d=some (.int m)∧1≤m∧m≤6:=by
  have hc:d=0∨d=1:=by omega
  rcases hc with rfl | rfl
  · exact ⟨3,rfl,by decide,by decide⟩
  · exact ⟨6,rfl,by decide,by decide⟩
section
variable {P:Program} {w:World} {K:PySem.W.Frag} {mg:Str→Option Value} {base:Heap} {f:Addr} {fd:FuncData}
def GoodC (waits:Bool) (c:List Bell):Prop:=(∀ (k:Nat) b,c[k]?=some b→GoodB c.length k waits b)∧(c.map (·.name)).Nodup
def SortC (so:Int) (c:List Bell):Prop:=∀ b∈c,SortR so b.lis.length b.rule
def sp_choir (K:PySem.W.Frag):Sp:=fun vs H Q _=>∃ (a p:Addr) (ns:List Int) (most:Nat) (waits:Bool),vs=[.ref p,.int most,.bl waits]∧PackAt K ns a p H∧1≤most∧most≤6∧
  ∀ v c H',Bt p H H'→PackAt K ns a p H'→ChoirAt H' v c→1≤c.length→c.length≤most→GoodC waits c→(∃ so:Int,(so=0∨so=1)∧SortC so c)→Q v H'
theorem sc_choir:FnScope ["_law_pack_here","_law_most","_law_waits","_law_many","_law_style","_law_names","_law_bells","_law_k","_law_start","_law_count","_law_rule_here"] ["_law_pack_here","_law_most","_law_waits"] (defScope s_choir):=⟨rfl,rfl,rfl,by decide +kernel,rfl,by decide +kernel,by decide +kernel⟩
theorem ok_choir (F:Fun K "_law_choir" "_law_choir" s_choir f fd) (B:Blt mg) (C_draw:Cal P w K mg base 1 "_law_draw" ["_law_pack_here","_law_many"] (sp_draw K)) (C_next:Cal P w K mg base 2 "_law_next" ["_law_pack_here"] (sp_next K)) (C_name:Cal P w K mg base 2 "_law_name" ["_law_pack_here","_law_seen"] (sp_name K))
    (C_rule:Cal P w K mg base 2 "_law_rule" ["_law_pack_here","_law_style","_law_count"] (sp_rulep K)) (C_listening:Cal P w K mg base 2 "_law_listening" ["_law_pack_here","_law_k","_law_many","_law_waits"] (sp_listening K)):FnOk P w K mg base CX0 3 f fd ["_law_pack_here","_law_most","_law_waits"] (sp_choir K):=by
  refine F.ok sc_choir (fun vs H Q E h=>?_) (fun cdv A outer s H vs Q E hr h=>?_)
  · obtain ⟨a,p,ns,most,waits,rfl,_⟩:=h
    rfl
  obtain ⟨a,p,ns,most,waits,rfl,P0,mo1,mo6,q⟩:=h
  refine ⟨_,(pss_cons (ps_set (i:=3) sc_choir.nd rfl (Or.inr rfl) (pe_op op_add pe_int (pe_fn C_draw hr (by decide) rfl (pa_cons (pv 0) (pa_cons (pv 1) pa_nil)))))
    (pss_cons (ps_set (i:=4) sc_choir.nd rfl (Or.inl rfl) (pe_fn C_draw hr (by decide) rfl (pa_cons (pv 0) (pa_cons pe_int pa_nil))))
    (pss_cons (ps_set (i:=5) sc_choir.nd rfl (Or.inl rfl) (pe_lst pa_nil))
    (pss_cons (ps_set (i:=6) sc_choir.nd rfl (Or.inl rfl) (pe_lst pa_nil))
    (pss_cons (ps_for PassesOwn.never rfl (pi_range1 rfl B.range_ (pa_cons (pv 3) pa_nil)) (pg_name (i:=7) sc_choir.nd rfl (Or.inr rfl))
    (pss_cons (ps_expr (pe_fn C_next hr (by decide) rfl (pa_cons (pv 0) pa_nil)))
    (pss_cons (ps_expr (pe_bm PySem.F.plainAttrs_list PySem.F.slot_list_append PySem.F.type_list_append mt_append (pv 5) (pa_cons (pe_fn C_name hr (by decide) rfl (pa_cons (pv 0) (pa_cons (pv 5) pa_nil))) pa_nil)))
    (pss_cons (ps_set (i:=8) sc_choir.nd rfl (Or.inl rfl) (pe_fn C_draw hr (by decide) rfl (pa_cons (pv 0) (pa_cons (pe_ix ix_list (pe_lst (pa_cons pe_int (pa_cons pe_int (pa_cons pe_int pa_nil)))) (pe_fn C_draw hr (by decide) rfl (pa_cons (pv 0) (pa_cons pe_int pa_nil))) (fun _ _=>rfl)) pa_nil))))
    (pss_cons (ps_set (i:=9) sc_choir.nd rfl (Or.inl rfl) (pe_op op_add pe_int (pe_fn C_draw hr (by decide) rfl (pa_cons (pv 0) (pa_cons (pe_ix ix_list (pe_lst (pa_cons pe_int (pa_cons pe_int pa_nil))) (pe_fn C_draw hr (by decide) rfl (pa_cons (pv 0) (pa_cons pe_int pa_nil))) (fun _ _=>rfl)) pa_nil)))))
    (pss_cons (ps_set (i:=10) sc_choir.nd rfl (Or.inl rfl) (pe_fn C_rule hr (by decide) rfl (pa_cons (pv 0) (pa_cons (pv 4) (pa_cons (pv 9) pa_nil)))))
    (pss_one (ps_expr (pe_bm PySem.F.plainAttrs_list PySem.F.slot_list_append PySem.F.type_list_append mt_append (pv 6) (pa_cons (pe_tup (pa_cons (pe_ix ix_list (pv 5) (pv 7) (fun _ _=>rfl)) (pa_cons (pv 8) (pa_cons (pv 10) (pa_cons (pe_callTy call_tuple_of rfl B.tuple_ PyProof.Rows.boot_tuple (pa_cons (pe_comp ["_law_j"] ["_law_pack_here","_law_k","_law_many","_law_waits"] [0,7,3,2] rfl (pi_range1 rfl B.range_ (pa_cons (pv 9) pa_nil)) (fun _ _ _ _ _=>(pg_name (i:=0) (show List.Nodup [("_law_j":Str),("_law_pack_here":Str),("_law_k":Str),("_law_many":Str),("_law_waits":Str)] by decide +kernel) rfl (Or.inl rfl))) (fun _ _ _ _ _=>pts_nil) (fun _ _ _ _ _=>(pe_fn C_listening hr (by decide) rfl (pa_cons (pv 1) (pa_cons (pv 2) (pa_cons (pv 3) (pa_cons (pv 4) pa_nil))))))) pa_nil)) pa_nil))))) pa_nil))))))))))
    (pss_one (ps_ret (pe_callTy call_tuple_of rfl B.tuple_ PyProof.Rows.boot_tuple (pa_cons (pv 6) pa_nil))))))))),?_⟩
  refine ⟨_,rfl,_,rfl,a,p,ns,most,rfl,P0,by omega,by omega,fun d1 H1 d10 d11 s1 P1=>?_⟩
  refine ⟨_,_,rfl,rfl,?_⟩
  obtain ⟨m,hm⟩:∃ m:Nat,1+d1=(m:Int):=⟨(1+d1).toNat,by omega⟩
  dsimp only
  rw [hm]
  have m1:1≤m:=by omega
  have mm:m≤most:=by omega
  refine ⟨_,rfl,a,p,ns,2,rfl,P1,by decide,by decide,fun style H2 st0 st1 s2 P2=>?_⟩
  refine ⟨(by show 0≤sizeLine; decide),fun ln hln=>?_⟩
  refine ⟨(by show 0≤sizeLine; decide),fun lb hlb=>?_⟩
  have s2':=s1.trans s2
  have nln:H ln=none:=s2'.free P2.there hln
  have P2n:=P2.new hln (.lst [])
  have nlb:H lb=none:=(s2'.new hln (.lst [])).free P2n.there hlb
  have nnb:ln≠lb:=fun e=>by rw [← e,upd_same] at hlb; cases hlb
  have npn:ln≠p:=P2.ne hln
  have npb:lb≠p:=P2n.ne hlb
  refine ⟨_,rfl,(m:Int),rfl,by omega,by omega,?_⟩
  refine for_range (lo:=0) (n:=((m:Nat):Int).toNat) (fun i σ H3=>∃ (c:List Bell) (vs:List V) (o7 o8 o9 o10:Option V),σ=[some (.ref p),some (.int most),some (.bl waits),some (.int m),some (.int style),some (.ref ln),some (.ref lb),o7,o8,o9,o10]∧
      Bt p H H3∧PackAt K ns a p H3∧H3 ln=some (.lst ((c.map (·.name)).map V.str))∧H3 lb=some (.lst vs)∧Paired (BellAt H3) vs c∧c.length=i∧(∀ (k:Nat) b,c[k]?=some b→GoodB m k waits b)∧(c.map (·.name)).Nodup∧(∀ x∈c.map (·.name),x.length≤8)∧SortC style c)
    ⟨[],[],none,none,none,none,rfl,(s2'.new hln _).new hlb _,P2n.new hlb _,by rw [upd_ne nnb]; exact upd_same,upd_same,.nil,rfl,(fun k b e=>by simp at e),by simp,by simp,(fun _ h=>nomatch h)⟩ ?_ ?_
  · rintro i σ H3 hi ⟨c,vs,o7,o8,o9,o10,rfl,s3,P3,hn3,hb3,pr3,hci,gc3,nd3,l83,so3⟩
    have him:i<m:=by omega
    rw [Int.zero_add]
    refine ⟨_,rfl,a,p,ns,rfl,P3,fun H4 s4 P4=>?_⟩
    have hn4:=s4 _ _ npn hn3
    have hb4:=s4 _ _ npb hb3
    have hl5:(c.map (·.name)).length≤5:=by rw [List.length_map]; omega
    refine ⟨_,rfl,.inl ⟨rfl,_,SqL.of hn4⟩,_,rfl,_,rfl,a,p,ln,ns,c.map (·.name),rfl,P4,hn4,hl5,l83,fun z H5 hz z1 z8 s5 P5=>?_⟩
    have hn5:=s5 _ _ npn hn4
    have hb5:=s5 _ _ npb hb4
    refine ⟨ln,_,_,rfl,rfl,hn5,(by rw [List.length_map]; exact small1000 (by omega)),?_⟩
    have s35:=s4.trans s5
    have s05:=s3.trans s35
    have s06:=s05.upd' nln (.lst ((c.map (·.name)).map V.str++[.str z]))
    have P6:=P0.later P5 s05 nln (.lst ((c.map (·.name)).map V.str++[.str z]))
    have t36:TupS H3 (upd H5 ln (.lst ((c.map (·.name)).map V.str++[.str z]))):=(P3.tupS s35).trans (tup_upd fun xs e=>by rw [hn5] at e; cases e)
    have hn6:=upd_same (H:=H5) (a:=ln) (o:=.lst ((c.map (·.name)).map V.str++[.str z]))
    have hb6:(upd H5 ln (.lst ((c.map (·.name)).map V.str++[.str z]))) lb=some (.lst vs):=by rw [upd_ne (Ne.symm nnb)]; exact hb5
    generalize upd H5 ln (.lst ((c.map (·.name)).map V.str++[.str z]))=H6 at s06 P6 t36 hn6 hb6 ⊢
    refine ⟨_,rfl,(by show 3≤sizeLine; decide),fun l1 hl1=>?_⟩
    refine ⟨_,rfl,a,p,ns,3,rfl,P6.new hl1 _,by decide,by decide,fun d2 H7 d20 d21 s7 P7=>?_⟩
    obtain ⟨mx,hmx,mx1,mx2⟩:=pick3 d20 d21
    have hl17:=s7 _ _ (P6.ne hl1) (upd_same (o:=.lst [.int 6,.int 40,.int 1001]))
    refine ⟨l1,_,_,_,rfl,rfl,SqL.of hl17,hmx,a,p,ns,mx,rfl,P7,mx1,by omega,fun start H8 st80 st81 s8 P8=>?_⟩
    have s68:Bt p H6 H8:=(((Bt.refl p H6).new hl1 _).trans s7).trans s8
    refine ⟨_,rfl,(by show 2≤sizeLine; decide),fun l2 hl2=>?_⟩
    refine ⟨_,rfl,a,p,ns,2,rfl,P8.new hl2 _,by decide,by decide,fun d3 H9 d30 d31 s9 P9=>?_⟩
    obtain ⟨mc,hmc,mc1,mc2⟩:=pick2 d30 d31
    have hl29:=s9 _ _ (P8.ne hl2) (upd_same (o:=.lst [.int 3,.int 6]))
    refine ⟨l2,_,_,_,rfl,rfl,SqL.of hl29,hmc,a,p,ns,mc,rfl,P9,mc1,by omega,fun d4 H10 d40 d41 s10 P10=>?_⟩
    refine ⟨_,_,rfl,rfl,?_⟩
    obtain ⟨n,hn⟩:∃ n:Nat,1+d4=(n:Int):=⟨(1+d4).toNat,by omega⟩
    dsimp only
    rw [hn]
    have n1:1≤n:=by omega
    have n6:n≤6:=by omega
    have s610:Bt p H6 H10:=(s68.trans ((Bt.refl p H8).new hl2 _)).trans (s9.trans s10)
    refine ⟨_,rfl,_,rfl,_,rfl,a,p,ns,style,n,rfl,P10,n1,n6,fun r H11 s11 P11 gr=>?_⟩
    have s611:=s610.trans s11
    have hn11:=s611 _ _ npn hn6
    have hb11:=s611 _ _ npb hb6
    have hat:atI ((c.map (·.name)).map V.str++[V.str z]) (i:Int)=some (.str z):=by
      refine atI_nat ?_
      have e:((c.map (·.name)).map V.str).length=i:=by rw [List.length_map,List.length_map]; exact hci
      rw [← e,List.getElem?_concat_length]
    refine ⟨_,rfl,.inl ⟨rfl,_,SqL.of hb11⟩,_,rfl,_,rfl,ln,_,_,_,rfl,rfl,SqL.of hn11,hat,_,rfl,_,rfl,_,rfl,(n:Int),rfl,by omega,by omega,fun D hD=>?_⟩
    refine comp_range (fun j ys H12=>∃ ls:List Lis,Bt p H11 H12∧PackAt K ns a p H12∧Paired (LisAt H12) ys ls∧ls.length=j∧∀ l∈ls,GoodL m i waits l) ⟨[],(Bt.refl p H11).new hD _,P11.new hD _,.nil,rfl,by simp⟩ ?_ ?_
    · rintro j ys H12 hj ⟨ls,s12,P12,pr12,hlj,gl⟩ hD12
      refine ⟨rfl,tTrue_ite ?_⟩
      refine ⟨_,rfl,_,rfl,_,rfl,_,rfl,a,p,ns,i,m,waits,rfl,P12,m1,by omega,fun v l H13 s13 P13 hl gl1=>?_⟩
      have nDp:D≠p:=P11.ne hD
      have hD13:=s13 _ _ nDp hD12
      have s13':=s12.trans s13
      have hyl:ys.length=j:=(paired_len pr12).trans hlj
      refine ⟨_,hD13,(by rw [hyl]; exact small1000 (by omega)),_,⟨ls++[l],s13'.upd' hD _,P11.later P13 s13' hD _,?_,by rw [List.length_append,hlj]; rfl,?_⟩,upd_same⟩
      · have tD:TupS H13 (upd H13 D (.lst (ys++[v]))):=tup_upd fun xs e=>by rw [hD13] at e; cases e
        exact paired_snoc (hl.mono tD) (paired_imp (fun _ _ z=>z.mono ((P12.tupS s13).trans tD)) pr12)
      · intro l' hl'
        rcases List.mem_append.mp hl' with z | z
        · exact gl l' z
        · have e:l'=l:=by simpa using z
          subst e
          exact gl1
    · rintro ys H12 ⟨ls,s12,P12,pr12,hlj,gl⟩ hD12
      have hln6:ls.length=n:=by rw [hlj]; omega
      refine ⟨D,_,rfl,.inl ⟨SqL.of hD12,fun lt hlt=>?_⟩⟩
      refine ⟨(by show 4≤sizeLine; decide),fun T hT=>?_⟩
      have u1:=same_new hlt (.tup ys)
      have u2:=u1.trans (same_new hT (.tup [.str z,.int start,rwV r,.ref lt]))
      have hb12:=s12 _ _ npb hb11
      have hb13:=u2 _ _ hb12
      have hvl:vs.length=i:=(paired_len pr3).trans hci
      refine ⟨lb,_,_,rfl,rfl,hb13,(by rw [hvl]; exact small1000 (by omega)),?_⟩
      have s012:Bt p H H12:=((s06.trans s611).trans s12)
      have s013:=s012.trans (Bt.same u2)
      have s014:=s013.upd' nlb (.lst (vs++[.ref T]))
      have P13:=P12.same u2
      have P14:=P0.later P13 s013 nlb (.lst (vs++[.ref T]))
      have hn12:=s12 _ _ npn hn11
      have t1214:TupS H12 (upd (upd (upd H12 lt (.tup ys)) T (.tup [.str z,.int start,rwV r,.ref lt])) lb (.lst (vs++[.ref T]))):=(Same.tup u2).trans (tup_upd fun xs e=>by rw [hb13] at e; cases e)
      have hT14:(upd (upd (upd H12 lt (.tup ys)) T (.tup [.str z,.int start,rwV r,.ref lt])) lb (.lst (vs++[.ref T]))) T=some (.tup [.str z,.int start,rwV r,.ref lt]):=by
        rw [upd_ne (fun e=>by rw [e,upd_same] at hb13; cases hb13)]
        exact upd_same
      have hlt14:(upd (upd (upd H12 lt (.tup ys)) T (.tup [.str z,.int start,rwV r,.ref lt])) lb (.lst (vs++[.ref T]))) lt=some (.tup ys):=by
        have h1:=(same_new hT (.tup [.str z,.int start,rwV r,.ref lt])) _ _ (upd_same (H:=H12) (a:=lt) (o:=.tup ys))
        rw [upd_ne (ne_of h1 hb13 (by intro z; cases z))]
        exact h1
      have hn14:(upd (upd (upd H12 lt (.tup ys)) T (.tup [.str z,.int start,rwV r,.ref lt])) lb (.lst (vs++[.ref T]))) ln=some (.lst ((c.map (·.name)).map V.str++[.str z])):=by
        rw [upd_ne nnb]
        exact u2 _ _ hn12
      have hb14:=upd_same (H:=upd (upd H12 lt (.tup ys)) T (.tup [.str z,.int start,rwV r,.ref lt])) (a:=lb) (o:=.lst (vs++[.ref T]))
      generalize upd (upd (upd H12 lt (.tup ys)) T (.tup [.str z,.int start,rwV r,.ref lt])) lb (.lst (vs++[.ref T]))=H14 at s014 P14 t1214 hT14 hlt14 hn14 hb14 ⊢
      have t314:TupS H3 H14:=t36.trans ((P6.tupS s611).trans ((P11.tupS s12).trans t1214))
      refine ⟨c++[⟨z,start,r,ls⟩],vs++[.ref T],_,_,_,_,rfl,s014,P14,?_,hb14,?_,?_,?_,?_,?_,?_⟩
      · rw [List.map_append,List.map_append]
        exact hn14
      · exact paired_snoc ⟨T,lt,ys,rfl,hT14,hlt14,paired_imp (fun _ _ z=>z.mono t1214) pr12⟩ (paired_imp (fun _ _ z=>z.mono t314) pr3)
      · rw [List.length_append,hci]
        rfl
      · intro k b hk
        by_cases hkc:k<c.length
        · rw [List.getElem?_append_left hkc] at hk
          exact gc3 k b hk
        · rw [List.getElem?_append_right (by omega)] at hk
          have hk0:k - c.length=0:=by
            by_cases h0:k - c.length=0
            · exact h0
            · rw [List.getElem?_eq_none (by simp only [List.length_cons,List.length_nil]; omega)] at hk
              cases hk
          rw [hk0] at hk
          have e:b=⟨z,start,r,ls⟩:=by simpa using hk.symm
          have ek:k=i:=by omega
          subst e ek
          exact ⟨by show 1≤ls.length; omega,by show ls.length≤6; omega,st80,by show start≤1000; omega,by show GoodR ls.length r; rw [hln6]; exact gr.1,gl⟩
      · rw [List.map_append,List.nodup_append]
        refine ⟨nd3,by simp,?_⟩
        intro x hx y hy
        have e:y=z:=by simpa using hy
        rintro rfl
        exact hz (e▸hx)
      · intro x hx
        rw [List.map_append] at hx
        rcases List.mem_append.mp hx with q1 | q1
        · exact l83 x q1
        · have e:x=z:=by simpa using q1
          rw [e]
          exact z8
      · intro b hb
        rcases List.mem_append.mp hb with q1 | q1
        · exact so3 b q1
        · rw [List.mem_singleton.mp q1]
          show SortR style ls.length r
          rw [hln6]
          exact gr
  · rintro σ H3 ⟨c,vs,o7,o8,o9,o10,rfl,s3,P3,hn3,hb3,pr3,hci,gc3,nd3,l83,so3⟩
    have hcm:c.length=m:=by rw [hci]; omega
    refine ⟨_,rfl,lb,_,rfl,.inl ⟨SqL.of hb3,fun T hT=>?_⟩⟩
    have u:=same_new hT (.tup vs)
    refine q (.ref T) c _ (s3.trans (Bt.same u)) (P3.same u) ⟨T,vs,rfl,upd_same,paired_imp (fun _ _ z=>z.mono (Same.tup u)) pr3⟩ (by omega) (by omega) ⟨fun k b e=>?_,nd3⟩ ⟨style,by omega,so3⟩
    rw [hcm]
    exact gc3 k b e
end
end K43
namespace K43
open PySem L2
def leO (o:Option Int) (v:Int):Bool:=match o with
  | some d=>decide (d≤v)
  | none=>false
def cnt (bs:List (Option Int)) (v:Int):Nat:=bs.countP (fun o=>leO o v)
def tot (bs:List (Option Int)):Nat:=bs.countP (fun o=>o.isSome)
def Due (bs:List (Option Int)) (n:Int):Option Int→Prop
  | none=>(tot bs:Int)<n
  | some v=>n≤(cnt bs v:Int)∧(cnt bs (v - 1):Int)<n
theorem leO_mono {o:Option Int} {v v':Int} (h:v≤v') (e:leO o v=true):leO o v'=true:=by
  cases o with
  | none=>cases e
  | some d=>exact decide_eq_true (by have:=of_decide_eq_true e; omega)
theorem cnt_mono (bs:List (Option Int)) {v v':Int} (h:v≤v'):cnt bs v≤cnt bs v':=List.countP_mono_left fun _ _ e=>leO_mono h e
theorem cnt_tot (bs:List (Option Int)) (v:Int):cnt bs v≤tot bs:=List.countP_mono_left fun o _ e=>by
  cases o with
  | none=>cases e
  | some d=>rfl
theorem due_unique {bs:List (Option Int)} {n:Int} {o o':Option Int} (h:Due bs n o) (h':Due bs n o'):o=o':=by
  cases o with
  | none =>
    cases o' with
    | none=>rfl
    | some v =>
      have h1:(tot bs:Int)<n:=h
      obtain ⟨h2,_⟩:=h'
      have:=cnt_tot bs v
      omega
  | some v =>
    cases o' with
    | none =>
      have h1:(tot bs:Int)<n:=h'
      obtain ⟨h2,_⟩:=h
      have:=cnt_tot bs v
      omega
    | some v' =>
      obtain ⟨a1,a2⟩:=h
      obtain ⟨b1,b2⟩:=h'
      rcases Int.lt_trichotomy v v' with c | c | c
      · have:=cnt_mono bs (show v≤v' - 1 by omega)
        omega
      · rw [c]
      · have:=cnt_mono bs (show v'≤v - 1 by omega)
        omega
def wants (b:Bell):Int:=match b.rule with
  | .all=>b.lis.length
  | .any=>1
  | .num n=>n
def come (before now:List (Option Int)) (l:Lis):Option Int:=((if l.back then before else now)[l.whom]?).join.map (·+l.beats)
def comesOf (b:Bell) (before now:List (Option Int)):List (Option Int):=b.lis.map (come before now)
def Fix (c:List Bell) (before now:List (Option Int)):Prop:=now.length=c.length∧∀ (k:Nat) b,c[k]?=some b→∃ o,now[k]?=some o∧Due (comesOf b before now) (wants b) o
def Slow (c:List Bell):Prop:=∀ (k:Nat) b,c[k]?=some b→∀ l∈b.lis,1≤l.beats
theorem cnt_map {α:Type} (l:List α) (f:α→Option Int) (v:Int):cnt (l.map f) v=l.countP (fun x=>leO (f x) v):=by
  unfold cnt
  rw [List.countP_map]
  rfl
theorem cnt_agree {b:Bell} {before now now':List (Option Int)} {t:Int} (hs:∀ l∈b.lis,1≤l.beats) (h:∀ (k:Nat) u,u<t→now[k]?=some (some u)→now'[k]?=some (some u)):cnt (comesOf b before now) t≤cnt (comesOf b before now') t:=by
  unfold comesOf
  rw [cnt_map,cnt_map]
  refine List.countP_mono_left fun l hl e=>?_
  unfold come at e ⊢
  cases hb:l.back with
  | true=>rw [hb] at e; exact e
  | false =>
    rw [hb] at e
    simp only [Bool.false_eq_true,if_false] at e ⊢
    cases hn:now[l.whom]? with
    | none=>rw [hn] at e; cases e
    | some o =>
      cases o with
      | none=>rw [hn] at e; cases e
      | some u =>
        rw [hn] at e
        have e1:u+l.beats≤t:=of_decide_eq_true e
        have:=hs l hl
        rw [h l.whom u (by omega) hn]
        exact decide_eq_true e1
theorem low (l:List (Option Int)):∃ B:Int,∀ v,some v∈l→B≤v:=by
  induction l with
  | nil=>exact ⟨0,fun v h=>by cases h⟩
  | cons o r ih =>
    obtain ⟨B,hB⟩:=ih
    cases o with
    | none=>exact ⟨B,fun v h=>by
        rcases List.mem_cons.mp h with z | z
        · cases z
        · exact hB v z⟩
    | some d=>exact ⟨min B d,fun v h=>by
        rcases List.mem_cons.mp h with z | z
        · have:=Option.some.inj z
          omega
        · have:=hB v z
          omega⟩
theorem fix_agree {c:List Bell} (hc:Slow c) {before now now':List (Option Int)} (f:Fix c before now) (f':Fix c before now') {B:Int} (hB:∀ v,some v∈now→B≤v) (hB':∀ v,some v∈now'→B≤v) :
    ∀ (n:Nat) (k:Nat) v,v<B+n→(now[k]?=some (some v)↔now'[k]?=some (some v)):=by
  intro n
  induction n with
  | zero =>
    intro k v hv
    refine ⟨fun e=>?_,fun e=>?_⟩
    · have:=hB v (List.mem_of_getElem? e); omega
    · have:=hB' v (List.mem_of_getElem? e); omega
  | succ n ih =>
    have one:∀ {x y:List (Option Int)},Fix c before x→Fix c before y→(∀ (k:Nat) v,v<B+n→(x[k]?=some (some v)↔y[k]?=some (some v)))→∀ (k:Nat) v,v<B+(n+1:Nat)→x[k]?=some (some v)→y[k]?=some (some v):=by
      intro x y fx fy ih k v hv e
      have hk:k<c.length:=by
        rw [← fx.1]
        exact (List.getElem?_eq_some_iff.mp e).1
      have hb:=List.getElem?_eq_getElem hk
      obtain ⟨o,ho,hd⟩:=fx.2 k _ hb
      rw [e] at ho
      cases ho
      obtain ⟨o',ho',hd'⟩:=fy.2 k _ hb
      have hs:=hc k _ hb
      have a1:=cnt_agree (before:=before) (now:=x) (now':=y) (t:=v) hs fun k u hu z=>(ih k u (by omega)).mp z
      have a2:=cnt_agree (before:=before) (now:=y) (now':=x) (t:=v) hs fun k u hu z=>(ih k u (by omega)).mpr z
      have b1:=cnt_agree (before:=before) (now:=x) (now':=y) (t:=v - 1) hs fun k u hu z=>(ih k u (by omega)).mp z
      have b2:=cnt_agree (before:=before) (now:=y) (now':=x) (t:=v - 1) hs fun k u hu z=>(ih k u (by omega)).mpr z
      obtain ⟨d1,d2⟩:=hd
      have hd2:Due (comesOf c[k] before y) (wants c[k]) (some v):=⟨by omega,by omega⟩
      rw [ho',due_unique hd' hd2]
    intro k v hv
    exact ⟨one f f' ih k v hv,one f' f (fun k v h=>(ih k v h).symm) k v hv⟩
theorem fix_unique {c:List Bell} (hc:Slow c) {before now now':List (Option Int)} (f:Fix c before now) (f':Fix c before now'):now=now':=by
  obtain ⟨B1,h1⟩:=low now
  obtain ⟨B2,h2⟩:=low now'
  have ag:=fix_agree hc f f' (B:=min B1 B2) (fun v h=>by have:=h1 v h; omega) (fun v h=>by have:=h2 v h; omega)
  have all:∀ (k:Nat) v,now[k]?=some (some v)↔now'[k]?=some (some v):=fun k v=>ag (v - min B1 B2+1).toNat k v (by omega)
  refine List.ext_getElem? fun k=>?_
  by_cases hk:k<c.length
  · have e1:=List.getElem?_eq_getElem (show k<now.length by rw [f.1]; exact hk)
    have e2:=List.getElem?_eq_getElem (show k<now'.length by rw [f'.1]; exact hk)
    cases o1:now[k]'(by rw [f.1]; exact hk) with
    | some v =>
      rw [o1] at e1
      rw [e1,(all k v).mp e1]
    | none =>
      rw [o1] at e1
      cases o2:now'[k]'(by rw [f'.1]; exact hk) with
      | none=>rw [o2] at e2; rw [e1,e2]
      | some v =>
        rw [o2] at e2
        have:=(all k v).mpr e2
        rw [e1] at this
        cases this
  · rw [List.getElem?_eq_none (by rw [f.1]; omega),List.getElem?_eq_none (by rw [f'.1]; omega)]
structure Going (c:List Bell) (before now:List (Option Int)):Prop where
  len:now.length=c.length
  found:∀ (k:Nat) b v,c[k]?=some b→now[k]?=some (some v)→Due (comesOf b before now) (wants b) (some v)
  least:∀ (j:Nat) u (k:Nat) b v,now[j]?=some (some u)→c[k]?=some b→now[k]?=some none→Due (comesOf b before now) (wants b) (some v)→u≤v
theorem going_start (c:List Bell) (before:List (Option Int)):Going c before (c.map fun _=>none) where
  len:=List.length_map _
  found:=fun k b v hb e=>by
    rw [List.getElem?_map,hb] at e
    cases e
  least:=fun j u k b v e _ _ _=>by
    rw [List.getElem?_map] at e
    cases h:c[j]? with
    | none=>rw [h] at e; cases e
    | some x=>rw [h] at e; cases e
theorem going_on {c:List Bell} (hc:Slow c) {before now:List (Option Int)} (g:Going c before now) {k:Nat} {b:Bell} {beat:Int} (hb:c[k]?=some b) (hn:now[k]?=some none) (hd:Due (comesOf b before now) (wants b) (some beat))
    (hl:∀ (j:Nat) b' v,c[j]?=some b'→now[j]?=some none→Due (comesOf b' before now) (wants b') (some v)→beat≤v):Going c before (now.set k (some beat)):=by
  have hk:k<now.length:=(List.getElem?_eq_some_iff.mp hn).1
  have old:∀ (j:Nat) u,u<beat→((now.set k (some beat))[j]?=some (some u)→now[j]?=some (some u)):=fun j u hu e=>by
    by_cases hj:j=k
    · subst hj
      rw [List.getElem?_set_self hk] at e
      have:=Option.some.inj (Option.some.inj e)
      omega
    · rw [List.getElem?_set_ne (Ne.symm hj)] at e
      exact e
  have new:∀ (j:Nat) u,(now[j]?=some (some u)→(now.set k (some beat))[j]?=some (some u)):=fun j u e=>by
    by_cases hj:j=k
    · subst hj
      rw [hn] at e
      cases e
    · rw [List.getElem?_set_ne (Ne.symm hj)]
      exact e
  have same:∀ (j:Nat) b',c[j]?=some b'→∀ t,t≤beat→cnt (comesOf b' before (now.set k (some beat))) t=cnt (comesOf b' before now) t:=fun j b' hj t ht=>by
    have a1:=cnt_agree (before:=before) (now:=now.set k (some beat)) (now':=now) (t:=t) (hc j b' hj) fun i u hu z=>old i u (by omega) z
    have a2:=cnt_agree (before:=before) (now:=now) (now':=now.set k (some beat)) (t:=t) (hc j b' hj) fun i u hu z=>new i u z
    omega
  refine ⟨by rw [List.length_set]; exact g.len,fun j b' v hj e=>?_,fun j u i b' v e hi ei hd'=>?_⟩
  · by_cases hjk:j=k
    · subst hjk
      rw [List.getElem?_set_self hk] at e
      obtain rfl:beat=v:=Option.some.inj (Option.some.inj e)
      rw [hb] at hj
      cases hj
      exact ⟨by rw [same j b hb beat (by omega)]; exact hd.1,by rw [same j b hb (beat - 1) (by omega)]; exact hd.2⟩
    · rw [List.getElem?_set_ne (Ne.symm hjk)] at e
      have h1:=g.found j b' v hj e
      have h2:=g.least j v k b beat e hb hn hd
      exact ⟨by rw [same j b' hj v (by omega)]; exact h1.1,by rw [same j b' hj (v - 1) (by omega)]; exact h1.2⟩
  · have hik:i≠k:=fun z=>by
      subst z
      rw [List.getElem?_set_self hk] at ei
      cases ei
    rw [List.getElem?_set_ne (Ne.symm hik)] at ei
    have hbv:beat≤v:=by
      refine Classical.byContradiction fun no=>?_
      have h1:Due (comesOf b' before now) (wants b') (some v):=⟨by rw [← same i b' hi v (by omega)]; exact hd'.1,by rw [← same i b' hi (v - 1) (by omega)]; exact hd'.2⟩
      have:=hl i b' v hi ei h1
      omega
    by_cases hjk:j=k
    · subst hjk
      rw [List.getElem?_set_self hk] at e
      have:=Option.some.inj (Option.some.inj e)
      omega
    · rw [List.getElem?_set_ne (Ne.symm hjk)] at e
      have:=g.least j u k b beat e hb hn hd
      omega
theorem going_end {c:List Bell} {before now:List (Option Int)} (g:Going c before now) (h:∀ (k:Nat) b,c[k]?=some b→now[k]?=some none→Due (comesOf b before now) (wants b) none):Fix c before now:=by
  refine ⟨g.len,fun k b hb=>?_⟩
  have hk:k<now.length:=by rw [g.len]; exact (List.getElem?_eq_some_iff.mp hb).1
  have e:=List.getElem?_eq_getElem hk
  cases o:now[k] with
  | none=>rw [o] at e; exact ⟨none,e,h k b hb e⟩
  | some v=>rw [o] at e; exact ⟨some v,e,g.found k b v hb e⟩
def comesL (bs:List (Option Int)):List Int:=bs.filterMap id
theorem comes_tot (bs:List (Option Int)):(comesL bs).length=tot bs:=by
  induction bs with
  | nil=>rfl
  | cons o r ih =>
    cases o with
    | none=>exact ih
    | some d =>
      show (comesL r).length+1=(some d::r).countP _
      rw [List.countP_cons,ih]
      rfl
theorem comes_cnt (bs:List (Option Int)) (v:Int):((comesL bs).filter fun d=>decide (d≤v)).length=cnt bs v:=by
  induction bs with
  | nil=>rfl
  | cons o r ih =>
    unfold cnt at ih ⊢
    cases o with
    | none=>rw [List.countP_cons]; exact ih
    | some d =>
      show ((d::comesL r).filter fun d=>decide (d≤v)).length=_
      rw [List.countP_cons,List.filter_cons]
      by_cases hd:d≤v
      · rw [if_pos (decide_eq_true hd),List.length_cons,ih]
        simp [leO,hd]
      · rw [if_neg (by simpa using hd),ih]
        simp [leO,hd]
theorem sorted_at {ns:List Int} (o:ns.Pairwise (·≤·)) {i j:Nat} (hi:i≤j) (hj:j<ns.length):ns[i]'(by omega)≤ns[j]:=by
  rcases Nat.lt_or_ge i j with h | h
  · exact List.pairwise_iff_getElem.mp o i j (by omega) hj h
  · have e:i=j:=by omega
    subst e
    exact Int.le_refl _
theorem upto_ge {ns:List Int} (o:ns.Pairwise (·≤·)) {k:Nat} (hk:k<ns.length):k+1≤(ns.filter fun d=>decide (d≤ns[k])).length:=by
  have h1:((ns.take (k+1)).filter fun d=>decide (d≤ns[k]))=ns.take (k+1):=by
    rw [List.filter_eq_self]
    intro a ha
    obtain ⟨i,hi,rfl⟩:=List.getElem_of_mem ha
    rw [List.length_take] at hi
    rw [List.getElem_take]
    exact decide_eq_true (sorted_at o (by omega) hk)
  have h2:((ns.take (k+1)++ns.drop (k+1)).filter fun d=>decide (d≤ns[k])).length=(ns.filter fun d=>decide (d≤ns[k])).length:=by
    rw [List.take_append_drop]
  rw [← h2,List.filter_append,h1,List.length_append,List.length_take]
  omega
theorem upto_le {ns:List Int} (o:ns.Pairwise (·≤·)) {k:Nat} (hk:k<ns.length) {c:Int} (hc:c<ns[k]):(ns.filter fun d=>decide (d≤c)).length≤k:=by
  have h1:((ns.drop k).filter fun d=>decide (d≤c))=[]:=by
    rw [List.filter_eq_nil_iff]
    intro a ha h
    obtain ⟨i,hi,rfl⟩:=List.getElem_of_mem ha
    rw [List.length_drop] at hi
    rw [List.getElem_drop] at h
    have h3:=sorted_at o (i:=k) (j:=k+i) (by omega) (by omega)
    have h4:=of_decide_eq_true h
    omega
  have h2:((ns.take k++ns.drop k).filter fun d=>decide (d≤c)).length=(ns.filter fun d=>decide (d≤c)).length:=by
    rw [List.take_append_drop]
  rw [← h2,List.filter_append,h1,List.append_nil]
  exact Nat.le_trans (List.length_filter_le _ _) (by rw [List.length_take]; omega)
theorem due_none {bs:List (Option Int)} {ns:List Int} {n:Int} (p:ns.Perm (comesL bs)) (h:(ns.length:Int)<n):Due bs n none:=by
  show (tot bs:Int)<n
  rw [← comes_tot,← p.length_eq]
  exact h
theorem due_some {bs:List (Option Int)} {ns:List Int} {n v:Int} (p:ns.Perm (comesL bs)) (o:ns.Pairwise (·≤·)) (h1:1≤n) (hv:ns[(n - 1).toNat]?=some v):Due bs n (some v):=by
  obtain ⟨hk,e⟩:=List.getElem?_eq_some_iff.mp hv
  subst e
  have a:=upto_ge o hk
  have b:=upto_le o hk (c:=ns[(n - 1).toNat] - 1) (by omega)
  have ea:(ns.filter fun d=>decide (d≤ns[(n - 1).toNat])).length=cnt bs ns[(n - 1).toNat]:=by rw [← comes_cnt]; exact (p.filter _).length_eq
  have eb:(ns.filter fun d=>decide (d≤ns[(n - 1).toNat] - 1)).length=cnt bs (ns[(n - 1).toNat] - 1):=by rw [← comes_cnt]; exact (p.filter _).length_eq
  exact ⟨by omega,by omega⟩
end K43
namespace K43
open PySem L2
def oV:Option Int→V
  | none=>.non
  | some i=>.int i
theorem at_o {bs:List (Option Int)} {i:Nat} {y:V} (h:(bs.map oV)[i]?=some y):∃ o,y=oV o∧bs[i]?=some o:=by
  rw [List.getElem?_map] at h
  cases e:bs[i]? with
  | none=>rw [e] at h; cases h
  | some z=>rw [e] at h; exact ⟨z,(Option.some.inj h).symm,rfl⟩
theorem comes_snocN (l:List (Option Int)):comesL (l++[none])=comesL l:=by
  unfold comesL
  rw [List.filterMap_append]
  simp
theorem comes_snocS (l:List (Option Int)) (i:Int):comesL (l++[some i])=comesL l++[i]:=by
  unfold comesL
  rw [List.filterMap_append]
  simp
theorem comes_len (l:List (Option Int)):(comesL l).length≤l.length:=List.length_filterMap_le _ _
def RuleAt (K:PySem.W.Frag) (ff fw:Addr) (H:Hp) (x:Addr) (n:Int):Prop:=∃ C dx,H x=some (.ins C dx [("need",.int n)])∧Cls K C∧NoAttr K C "need"∧Meth K C "falls" ff∧Meth K C "wants" fw
theorem RuleAt.same {K:PySem.W.Frag} {ff fw:Addr} {H H':Hp} {x:Addr} {n:Int} (r:RuleAt K ff fw H x n) (s:Same H H'):RuleAt K ff fw H' x n:=by
  obtain ⟨C,dx,h,r⟩:=r
  exact ⟨C,dx,s _ _ h,r⟩
structure Own (K:PySem.W.Frag) (C fi ff fw:Addr):Prop where
  cl:Cls K C
  nN:NoAttr K C "need"
  mks:Mk K C fi
  fl:Meth K C "falls" ff
  w:Meth K C "wants" fw
section
variable {P:Program} {w:World} {K:PySem.W.Frag} {mg:Str→Option Value} {base:Heap} {f:Addr} {fd:FuncData}
def sp_whole:Sp:=fun vs H Q _=>∃ i:Int,vs=[.int i]∧Q (.bl true) H
theorem sc_is_whole:FnScope ["thing"] ["thing"] (defScope s_is_whole):=⟨rfl,rfl,rfl,by decide +kernel,rfl,by decide +kernel,by decide +kernel⟩
theorem ok_is_whole (F:Fun K "is_whole" "is_whole" s_is_whole f fd) (B:Blt mg):FnOk P w K mg base CX0 1 f fd ["thing"] sp_whole:=by
  refine F.ok sc_is_whole (fun vs H Q E h=>?_) (fun cdv A outer s H vs Q E hr h=>?_)
  · obtain ⟨i,rfl,_⟩:=h
    rfl
  obtain ⟨i,rfl,q⟩:=h
  refine ⟨_,(pss_one (ps_ret (pe_and (pe_callB (call_isT "int") rfl B.isinstance_ PyProof.Rows.boot_isinstance (pa_cons (pv 0) (pa_cons (pe_bltn (v:=.ty "int") rfl B.int_ PyProof.Rows.boot_int rfl) pa_nil))) (pe_one (pe_not (pe_callB (call_isT "bool") rfl B.isinstance_ PyProof.Rows.boot_isinstance (pa_cons (pv 0) (pa_cons (pe_bltn (v:=.ty "bool") rfl B.bool_ PyProof.Rows.boot_bool rfl) pa_nil)))))))),?_⟩
  refine ⟨_,rfl,_,_,_,rfl,.int i,kit_ii K,_,rfl,iteT ?_⟩
  refine ⟨_,rfl,_,_,_,rfl,.int i,kit_ib K,_,rfl,?_⟩
  exact q
def sp_init (K:PySem.W.Frag):Sp:=fun vs H Q _=>∃ (p C dx:Addr) (v:V),vs=[.ref p,v]∧H p=some (.ins C dx [])∧Cls K C∧NoAttr K C "need"∧Q .non (upd H p (.ins C dx [("need",v)]))
def sp_init1 (K:PySem.W.Frag):Sp:=fun vs H Q _=>∃ (p C dx:Addr),vs=[.ref p]∧H p=some (.ins C dx [])∧Cls K C∧NoAttr K C "need"∧Q .non (upd H p (.ins C dx [("need",.int 1)]))
theorem sc_Rinit:FnScope ["self","need"] ["self","need"] (defScope s_Rinit):=⟨rfl,rfl,rfl,by decide +kernel,rfl,by decide +kernel,by decide +kernel⟩
theorem ok_Rinit (F:Fun K "__init__" "Rule.__init__" s_Rinit f fd):FnOk P w K mg base CX0 1 f fd ["self","need"] (sp_init K):=by
  refine F.ok sc_Rinit (fun vs H Q E h=>?_) (fun cdv A outer s H vs Q E hr h=>?_)
  · obtain ⟨p,C,dx,v,rfl,_⟩:=h
    rfl
  obtain ⟨p,C,dx,v,rfl,hp,cl,na,q⟩:=h
  refine ⟨_,(pss_one (ps_fld (pv 0) (pv 1) rfl)),?_⟩
  exact ⟨_,rfl,_,rfl,p,C,dx,[],rfl,hp,cl,na,(by show 0<1000; decide),q⟩
theorem sc_Ainit:FnScope ["self","many"] ["self","many"] (defScope s_Ainit):=⟨rfl,rfl,rfl,by decide +kernel,rfl,by decide +kernel,by decide +kernel⟩
theorem ok_Ainit {R g:Addr} {gd:FuncData} (F:Fun K "__init__" "All.__init__" s_Ainit f fd) (mR:mg "Rule"=some (.ref R)) (c:ClsFn K R "__init__" g) (G:FnOk P w K mg base CX0 1 g gd ["self","need"] (sp_init K)) (b:Binds K gd ["self","need"] []) :
    FnOk P w K mg base CX0 2 f fd ["self","many"] (sp_init K):=by
  refine F.ok sc_Ainit (fun vs H Q E h=>?_) (fun cdv A outer s H vs Q E hr h=>?_)
  · obtain ⟨p,C,dx,v,rfl,_⟩:=h
    rfl
  obtain ⟨p,C,dx,v,rfl,hp,cl,na,q⟩:=h
  refine ⟨_,(pss_one (ps_expr (pe_clsfn rfl mR c G hr b .nil pass0 (pa_cons (pv 0) (pa_cons (pv 1) pa_nil))))),?_⟩
  exact ⟨_,rfl,_,rfl,p,C,dx,v,rfl,hp,cl,na,q⟩
theorem sc_Sinit:FnScope ["self","need"] ["self","need"] (defScope s_Sinit):=⟨rfl,rfl,rfl,by decide +kernel,rfl,by decide +kernel,by decide +kernel⟩
theorem ok_Sinit {R g:Addr} {gd:FuncData} (F:Fun K "__init__" "Some.__init__" s_Sinit f fd) (mR:mg "Rule"=some (.ref R)) (c:ClsFn K R "__init__" g) (G:FnOk P w K mg base CX0 1 g gd ["self","need"] (sp_init K)) (b:Binds K gd ["self","need"] []) :
    FnOk P w K mg base CX0 2 f fd ["self","need"] (sp_init K):=by
  refine F.ok sc_Sinit (fun vs H Q E h=>?_) (fun cdv A outer s H vs Q E hr h=>?_)
  · obtain ⟨p,C,dx,v,rfl,_⟩:=h
    rfl
  obtain ⟨p,C,dx,v,rfl,hp,cl,na,q⟩:=h
  refine ⟨_,(pss_one (ps_expr (pe_clsfn rfl mR c G hr b .nil pass0 (pa_cons (pv 0) (pa_cons (pv 1) pa_nil))))),?_⟩
  exact ⟨_,rfl,_,rfl,p,C,dx,v,rfl,hp,cl,na,q⟩
theorem sc_Yinit:FnScope ["self"] ["self"] (defScope s_Yinit):=⟨rfl,rfl,rfl,by decide +kernel,rfl,by decide +kernel,by decide +kernel⟩
theorem ok_Yinit {R g:Addr} {gd:FuncData} (F:Fun K "__init__" "Any.__init__" s_Yinit f fd) (mR:mg "Rule"=some (.ref R)) (c:ClsFn K R "__init__" g) (G:FnOk P w K mg base CX0 1 g gd ["self","need"] (sp_init K)) (b:Binds K gd ["self","need"] []) :
    FnOk P w K mg base CX0 2 f fd ["self"] (sp_init1 K):=by
  refine F.ok sc_Yinit (fun vs H Q E h=>?_) (fun cdv A outer s H vs Q E hr h=>?_)
  · obtain ⟨p,C,dx,rfl,_⟩:=h
    rfl
  obtain ⟨p,C,dx,rfl,hp,cl,na,q⟩:=h
  refine ⟨_,(pss_one (ps_expr (pe_clsfn rfl mR c G hr b .nil pass0 (pa_cons (pv 0) (pa_cons pe_int pa_nil))))),?_⟩
  exact ⟨_,rfl,p,C,dx,.int 1,rfl,hp,cl,na,q⟩
def sp_falls (K:PySem.W.Frag):Sp:=fun vs H Q _=>∃ (x b C dx:Addr) (n:Int) (bs:List (Option Int)),vs=[.ref x,.ref b]∧H x=some (.ins C dx [("need",.int n)])∧Cls K C∧NoAttr K C "need"∧H b=some (.lst (bs.map oV))∧bs.length≤8∧1≤n∧
  ∀ (H':Hp) (o:Option Int),Same H H'→Due bs n o→Q (oV o) H'
theorem sc_falls:FnScope ["self","beats","come"] ["self","beats"] (defScope s_falls):=⟨rfl,rfl,rfl,by decide +kernel,rfl,by decide +kernel,by decide +kernel⟩
theorem ok_falls (F:Fun K "falls" "Rule.falls" s_falls f fd) (B:Blt mg):FnOk P w K mg base CX0 1 f fd ["self","beats"] (sp_falls K):=by
  refine F.ok sc_falls (fun vs H Q E h=>?_) (fun cdv A outer s H vs Q E hr h=>?_)
  · obtain ⟨x,b,C,dx,n,bs,rfl,_⟩:=h
    rfl
  obtain ⟨x,b,C,dx,n,bs,rfl,hx,cl,na,hb,hl8,h1,q⟩:=h
  refine ⟨_,(pss_cons (ps_set (i:=2) sc_falls.nd rfl (Or.inl rfl) (pe_callB call_sorted rfl B.sorted_ PyProof.Rows.boot_sorted (pa_cons (pe_comp ["beat"] [] [] rfl (pi_list (pv 1)) (fun _ _ _ _ _=>pg_name (i:=0) (show List.Nodup [("beat":Str)] by decide +kernel) rfl (Or.inl rfl)) (fun _ _ _ _ _=>pts_one (pt_cmpR op_notN (pv 0) pe_non (nomark _))) (fun _ _ _ _ _=>pv 0)) pa_nil)))
    (pss_cons (ps_if (pt_cmpR op_lt (pe_callB call_len_seq rfl B.len_ PySem.boot_len (pa_cons (pv 2) pa_nil)) (pe_fld (pv 0) rfl) (nomark _))
    (pss_one (ps_ret pe_non))
    pss_nil)
    (pss_one (ps_ret (pe_ix ix_list (pv 2) (pe_op op_sub (pe_fld (pv 0) rfl) pe_int) (fun _ _=>rfl)))))),?_⟩
  refine ⟨_,rfl,b,rfl,⟨_,SqL.of hb⟩,fun D hD=>?_⟩
  have hlm:(bs.map oV).length=bs.length:=List.length_map _
  refine comp_list (K:=K) (a:=b) (xs:=bs.map oV) (fun i ys H2=>Same H H2∧ys=(comesL (bs.take i)).map V.int) ⟨same_new hD _,rfl⟩ (fun i ys H2 _ ⟨s2,_⟩=>SqL.of (s2 _ _ hb)) ?_ ?_
  · rintro i y ys H2 hi ⟨s2,rfl⟩ hD2
    obtain ⟨o,rfl,ho⟩:=at_o hi
    have hil:i<bs.length:=(List.getElem?_eq_some_iff.mp ho).1
    refine ⟨rfl,_,rfl,rfl,_,rfl,?_⟩
    cases o with
    | none =>
      refine iteF ⟨_,⟨s2,rfl⟩,?_⟩
      rw [take_snoc ho,comes_snocN]
      exact hD2
    | some z =>
      refine iteT ⟨_,rfl,_,hD2,?_,_,⟨s2.upd hD _,rfl⟩,?_⟩
      · rw [List.length_map]
        have:=comes_len (bs.take i)
        rw [List.length_take] at this
        exact small1000 (by omega)
      · rw [take_snoc ho,comes_snocS,List.map_append]
        exact upd_same
  · rintro ys H2 ⟨s2,rfl⟩ hD2
    rw [hlm,List.take_length] at hD2
    have hcl:(comesL bs).length≤8:=Nat.le_trans (comes_len bs) hl8
    refine ⟨D,comesL bs,rfl,SqL.of hD2,by omega,fun l ns hl p o=>?_⟩
    have s3:Same H (upd H2 l (.lst (ns.map V.int))):=s2.trans (same_new hl _)
    have hx3:=s3 _ _ hx
    have hl3:(upd H2 l (.lst (ns.map V.int))) l=some (.lst (ns.map V.int)):=upd_same
    have hlen:(ns.map V.int).length=ns.length:=List.length_map _
    refine ⟨_,rfl,l,_,rfl,.inl (SqL.of hl3),_,rfl,x,C,dx,_,_,rfl,hx3,cl,na,rfl,_,_,rfl,rfl,_,rfl,?_⟩
    refine ite2 (fun c=>?_) (fun c=>?_)
    · have c':(((ns.map V.int).length:Nat):Int)<n:=of_decide_eq_true c
      rw [hlen] at c'
      exact q _ none s3 (due_none p c')
    · have c':¬ (((ns.map V.int).length:Nat):Int)<n:=of_decide_eq_false (Bool.eq_false_iff.mpr c)
      rw [hlen] at c'
      have hk:(n - 1).toNat<ns.length:=by omega
      have en:n - 1=(((n - 1).toNat:Nat):Int):=by omega
      have hv:ns[(n - 1).toNat]?=some ns[(n - 1).toNat]:=List.getElem?_eq_getElem hk
      have hat:atI (ns.map V.int) (n - 1)=some (.int ns[(n - 1).toNat]):=by
        have:=at_map hv
        rw [← en] at this
        exact this
      refine ⟨_,rfl,_,rfl,x,C,dx,_,_,rfl,hx3,cl,na,rfl,_,_,rfl,rfl,l,_,_,_,rfl,rfl,SqL.of hl3,hat,?_⟩
      exact q _ (some _) s3 (due_some p o h1 hv)
theorem ne_any_all:¬ (V.str ("any":Str)=V.str ("all":Str)):=by
  intro h
  injection h with h
  exact absurd h (by decide +kernel)
theorem made_same {H:Hp} {x dx C:Addr} {l1 l2:List (Str×V)} (nx:H x=none) (ndx:H dx=none):Same H (upd (upd (upd H dx (.own x)) x (.ins C dx l1)) x (.ins C dx l2)):=fun b o e=>by
  rw [upd_ne (ne_of_none e nx),upd_ne (ne_of_none e nx),upd_ne (ne_of_none e ndx)]
  exact e
def sp_text (K:PySem.W.Frag) (ff fw:Addr):Sp:=fun vs H Q _=>∃ (t:Str) (many n:Int),vs=[.str t,.int many]∧(t="all"∧n=many∨t="any"∧n=1)∧∀ x H',Same H H'→RuleAt K ff fw H' x n→Q (.ref x) H'
theorem sc_text:FnScope ["text","many"] ["text","many"] (defScope s_text):=⟨rfl,rfl,rfl,by decide +kernel,rfl,by decide +kernel,by decide +kernel⟩
theorem ok_text {A Y fA fY ff fw:Addr} {dA dY:FuncData} (F:Fun K "rule_of_text" "rule_of_text" s_text f fd) (mA:mg "All"=some (.ref A)) (mY:mg "Any"=some (.ref Y)) (oA:Own K A fA ff fw) (oY:Own K Y fY ff fw)
    (GA:FnOk P w K mg base CX0 2 fA dA ["self","many"] (sp_init K)) (bA:Binds K dA ["self","many"] []) (GY:FnOk P w K mg base CX0 2 fY dY ["self"] (sp_init1 K)) (bY:Binds K dY ["self"] []) :
    FnOk P w K mg base CX0 4 f fd ["text","many"] (sp_text K ff fw):=by
  refine F.ok sc_text (fun vs H Q E h=>?_) (fun cdv A' outer s H vs Q E hr h=>?_)
  · obtain ⟨t,many,n,rfl,_⟩:=h
    rfl
  obtain ⟨t,many,n,rfl,hw,q⟩:=h
  refine ⟨_,(pss_cons (ps_if (pt_cmpR op_eq (pv 0) pe_str (nomark _))
    (pss_one (ps_ret (pe_make oA.mks GA hr rfl mA bA .nil pass0 (pa_cons (pv 1) pa_nil))))
    pss_nil)
    (pss_cons (ps_if (pt_cmpR op_eq (pv 0) pe_str (nomark _))
    (pss_one (ps_ret (pe_make0 oY.mks GY hr rfl mY bY .nil pass0)))
    pss_nil)
    pss_never)),?_⟩
  refine ⟨_,rfl,rfl,_,rfl,?_⟩
  rcases hw with ⟨rfl,rfl⟩ | ⟨rfl,rfl⟩
  · refine ite2 (fun _=>?_) (fun c=>absurd (decide_eq_true rfl) c)
    refine ⟨_,rfl,fun x dx nx ndx ne=>⟨x,A,dx,_,rfl,upd_same,oA.cl,oA.nN,rfl,?_⟩⟩
    exact q x _ (made_same nx ndx) ⟨A,dx,upd_same,oA.cl,oA.nN,oA.fl,oA.w⟩
  · refine ite2 (fun c=>absurd (of_decide_eq_true c) ne_any_all) (fun _=>?_)
    refine ⟨_,rfl,rfl,_,rfl,?_⟩
    refine ite2 (fun _=>?_) (fun c=>absurd (decide_eq_true rfl) c)
    refine fun x dx nx ndx ne=>⟨x,Y,dx,rfl,upd_same,oY.cl,oY.nN,rfl,?_⟩
    exact q x _ (made_same nx ndx) ⟨Y,dx,upd_same,oY.cl,oY.nN,oY.fl,oY.w⟩
def sp_rule (K:PySem.W.Frag) (ff fw:Addr):Sp:=fun vs H Q _=>∃ (wd:V) (many n:Int),vs=[wd,.int many]∧(wd=.str "all"∧n=many∨wd=.str "any"∧n=1∨wd=.int n∧1≤n∧n≤many)∧∀ x H',Same H H'→RuleAt K ff fw H' x n→Q (.ref x) H'
theorem sc_rule_of:FnScope ["word","many"] ["word","many"] (defScope s_rule_of):=⟨rfl,rfl,rfl,by decide +kernel,rfl,by decide +kernel,by decide +kernel⟩
theorem ok_rule_of {S fS ff fw:Addr} {dS:FuncData} (F:Fun K "rule_of" "rule_of" s_rule_of f fd) (B:Blt mg) (mS:mg "Some"=some (.ref S)) (oS:Own K S fS ff fw) (GS:FnOk P w K mg base CX0 2 fS dS ["self","need"] (sp_init K)) (bS:Binds K dS ["self","need"] [])
    (C_text:Cal P w K mg base 4 "rule_of_text" ["text","many"] (sp_text K ff fw)) (C_whole:Cal P w K mg base 1 "is_whole" ["thing"] sp_whole):FnOk P w K mg base CX0 5 f fd ["word","many"] (sp_rule K ff fw):=by
  refine F.ok sc_rule_of (fun vs H Q E h=>?_) (fun cdv A' outer s H vs Q E hr h=>?_)
  · obtain ⟨wd,many,n,rfl,_⟩:=h
    rfl
  obtain ⟨wd,many,n,rfl,hw,q⟩:=h
  have hr3:Room 3 _:=hr.mono (by decide)
  refine ⟨_,(pss_cons (ps_if (pt_val (pe_callB (call_isT "str") rfl B.isinstance_ PyProof.Rows.boot_isinstance (pa_cons (pv 0) (pa_cons (pe_bltn (v:=.ty "str") rfl B.str_ PyProof.Rows.boot_str rfl) pa_nil))))
    (pss_one (ps_ret (pe_fn C_text hr (by decide) rfl (pa_cons (pv 0) (pa_cons (pv 1) pa_nil)))))
    pss_nil)
    (pss_cons (ps_if (PW.pt (pw_and (pt_val (pe_fn C_whole hr (by decide) rfl (pa_cons (pv 0) pa_nil))) (pw_and1 (pt_chain op_le op_le pe_int (pv 0) (pv 1)))))
    (pss_one (ps_ret (pe_make oS.mks GS hr3 rfl mS bS .nil pass0 (pa_cons (pv 0) pa_nil))))
    pss_nil)
    pss_never)),?_⟩
  rcases hw with ⟨rfl,rfl⟩ | ⟨rfl,rfl⟩ | ⟨rfl,h1,h2⟩
  · refine ⟨_,rfl,_,_,_,rfl,.str _,kit_ss K,_,rfl,iteT ?_⟩
    exact ⟨_,rfl,_,rfl,"all",_,_,rfl,.inl ⟨rfl,rfl⟩,q⟩
  · refine ⟨_,rfl,_,_,_,rfl,.str _,kit_ss K,_,rfl,iteT ?_⟩
    exact ⟨_,rfl,_,rfl,"any",_,_,rfl,.inr ⟨rfl,rfl⟩,q⟩
  · refine ⟨_,rfl,_,_,_,rfl,.int _,kit_is K,_,rfl,iteF ?_⟩
    refine ⟨_,rfl,_,rfl,_,rfl,iteT ?_⟩
    refine ⟨_,rfl,_,_,rfl,rfl,_,rfl,?_⟩
    rw [decide_eq_true h1]
    refine iteT ⟨_,rfl,_,_,rfl,rfl,_,rfl,?_⟩
    rw [decide_eq_true h2]
    refine iteT ?_
    refine ⟨_,rfl,fun x dx nx ndx ne=>⟨x,S,dx,_,rfl,upd_same,oS.cl,oS.nN,rfl,?_⟩⟩
    exact q x _ (made_same nx ndx) ⟨S,dx,upd_same,oS.cl,oS.nN,oS.fl,oS.w⟩
end
end K43
namespace K43
open PySem L2
section
variable {P:Program} {w:World} {K:PySem.W.Frag} {mg:Str→Option Value} {base:Heap} {f:Addr} {fd:FuncData}
def sp_bellrule (K:PySem.W.Frag) (ff fw:Addr):Sp:=fun vs H Q _=>∃ (v:V) (b:Bell),vs=[v]∧BellAt H v b∧GoodR b.lis.length b.rule∧∀ x H',Same H H'→RuleAt K ff fw H' x (wants b)→Q (.ref x) H'
theorem sc_rule_of_bell:FnScope ["bell"] ["bell"] (defScope s_rule_of_bell):=⟨rfl,rfl,rfl,by decide +kernel,rfl,by decide +kernel,by decide +kernel⟩
theorem ok_rule_of_bell {ff fw:Addr} (F:Fun K "rule_of_bell" "rule_of_bell" s_rule_of_bell f fd) (B:Blt mg) (C_rule_of:Cal P w K mg base 5 "rule_of" ["word","many"] (sp_rule K ff fw)):FnOk P w K mg base CX0 6 f fd ["bell"] (sp_bellrule K ff fw):=by
  refine F.ok sc_rule_of_bell (fun vs H Q E h=>?_) (fun cdv A outer s H vs Q E hr h=>?_)
  · obtain ⟨v,b,rfl,_⟩:=h
    rfl
  obtain ⟨v,b,rfl,⟨a,t,ls,rfl,ha,ht,pr⟩,gr,q⟩:=h
  refine ⟨_,(pss_one (ps_ret (pe_fn C_rule_of hr (by decide) rfl (pa_cons (pe_ix ix_tup (pv 0) pe_int (fun _ _=>rfl)) (pa_cons (pe_callB call_len_seq rfl B.len_ PySem.boot_len (pa_cons (pe_ix ix_tup (pv 0) pe_int (fun _ _=>rfl)) pa_nil)) pa_nil))))),?_⟩
  refine ⟨_,rfl,a,_,_,_,rfl,rfl,SqT.of ha,rfl,_,rfl,a,_,_,_,rfl,rfl,SqT.of ha,rfl,t,_,rfl,.inr (SqT.of ht),rwV b.rule,_,wants b,rfl,?_,q⟩
  have hl:=paired_len pr
  rw [hl]
  unfold wants
  cases hr:b.rule with
  | all=>exact .inl ⟨rfl,rfl⟩
  | any=>exact .inr (.inl ⟨rfl,rfl⟩)
  | num n =>
    rw [hr] at gr
    exact .inr (.inr ⟨rfl,gr.1,gr.2⟩)
def sp_comes:Sp:=fun vs H Q _=>∃ (v:V) (l:Lis) (p r:Addr) (before now:List (Option Int)),vs=[v,.ref p,.ref r]∧LisAt H v l∧H p=some (.lst (before.map oV))∧H r=some (.lst (now.map oV))∧l.whom<before.length∧l.whom<now.length∧Q (oV (come before now l)) H
theorem at_oV {bs:List (Option Int)} {i:Nat} {o:Option Int} (h:bs[i]?=some o):atI (bs.map oV) (i:Int)=some (oV o):=atI_nat (by rw [List.getElem?_map,h]; rfl)
theorem sc_comes:FnScope ["listening","before","now","stroke"] ["listening","before","now"] (defScope s_comes):=⟨rfl,rfl,rfl,by decide +kernel,rfl,by decide +kernel,by decide +kernel⟩
theorem ok_comes (F:Fun K "listening_comes" "listening_comes" s_comes f fd):FnOk P w K mg base CX0 1 f fd ["listening","before","now"] sp_comes:=by
  refine F.ok sc_comes (fun vs H Q E h=>?_) (fun cdv A outer s H vs Q E hr h=>?_)
  · obtain ⟨v,l,p,r,before,now,rfl,_⟩:=h
    rfl
  obtain ⟨v,l,p,r,before,now,rfl,⟨a,rfl,ha⟩,hp,hr',h1,h2,q⟩:=h
  refine ⟨_,(pss_cons (ps_set (i:=3) sc_comes.nd rfl (Or.inl rfl) (pe_ifExp (pt_cmpR op_eq (pe_ix ix_tup (pv 0) pe_int (fun _ _=>rfl)) pe_int (nomark _)) (pe_ix ix_list (pv 1) (pe_ix ix_tup (pv 0) pe_int (fun _ _=>rfl)) (fun _ _=>rfl)) (pe_ix ix_list (pv 2) (pe_ix ix_tup (pv 0) pe_int (fun _ _=>rfl)) (fun _ _=>rfl))))
    (pss_one (ps_ret (pe_ifExp (pt_cmpR op_isN (pv 3) pe_non (nomark _)) pe_non (pe_op op_add (pv 3) (pe_ix ix_tup (pv 0) pe_int (fun _ _=>rfl))))))),?_⟩
  refine ⟨_,rfl,a,_,_,_,rfl,rfl,SqT.of ha,rfl,rfl,_,rfl,?_⟩
  have e1:=List.getElem?_eq_getElem h1
  have e2:=List.getElem?_eq_getElem h2
  have hx:=SqT.of (K:=K) ha
  cases hb:l.back with
  | true =>
    refine ite2 (fun _=>?_) (fun c=>absurd rfl c)
    refine ⟨_,rfl,_,rfl,a,_,_,_,rfl,rfl,hx,rfl,p,_,_,_,rfl,rfl,SqL.of hp,at_oV e1,?_⟩
    have hc:come before now l=(before[l.whom]).map (·+l.beats):=by
      unfold come
      rw [hb,if_pos rfl,e1]
      rfl
    rw [hc] at q
    cases ho:before[l.whom] with
    | none =>
      rw [ho] at q
      exact ⟨_,rfl,rfl,_,rfl,iteT q⟩
    | some i =>
      rw [ho] at q
      exact ⟨_,rfl,rfl,_,rfl,iteF ⟨_,rfl,_,rfl,a,_,_,_,rfl,rfl,hx,rfl,_,_,rfl,rfl,q⟩⟩
  | false =>
    refine ite2 (fun c=>absurd c (by decide)) (fun _=>?_)
    refine ⟨_,rfl,_,rfl,a,_,_,_,rfl,rfl,hx,rfl,r,_,_,_,rfl,rfl,SqL.of hr',at_oV e2,?_⟩
    have hc:come before now l=(now[l.whom]).map (·+l.beats):=by
      unfold come
      rw [hb,if_neg (by decide),e2]
      rfl
    rw [hc] at q
    cases ho:now[l.whom] with
    | none =>
      rw [ho] at q
      exact ⟨_,rfl,rfl,_,rfl,iteT q⟩
    | some i =>
      rw [ho] at q
      exact ⟨_,rfl,rfl,_,rfl,iteF ⟨_,rfl,_,rfl,a,_,_,_,rfl,rfl,hx,rfl,_,_,rfl,rfl,q⟩⟩
end
end K43
namespace K43
open PySem L2
def RuleV (K:PySem.W.Frag) (ff fw:Addr) (H:Hp) (v:V) (b:Bell):Prop:=∃ x,v=.ref x∧RuleAt K ff fw H x (wants b)
def RulesAt (K:PySem.W.Frag) (ff fw:Addr) (H:Hp) (r:Addr) (c:List Bell):Prop:=∃ rs,H r=some (.lst rs)∧Paired (RuleV K ff fw H) rs c
theorem RuleV.same {K:PySem.W.Frag} {ff fw:Addr} {H H':Hp} {v:V} {b:Bell} (s:Same H H') (h:RuleV K ff fw H v b):RuleV K ff fw H' v b:=by
  obtain ⟨x,e,q⟩:=h
  exact ⟨x,e,q.same s⟩
theorem RulesAt.same {K:PySem.W.Frag} {ff fw:Addr} {H H':Hp} {r:Addr} {c:List Bell} (s:Same H H') (h:RulesAt K ff fw H r c):RulesAt K ff fw H' r c:=by
  obtain ⟨rs,e,q⟩:=h
  exact ⟨rs,s _ _ e,paired_imp (fun _ _ z=>z.same s) q⟩
def Fine (c:List Bell):Prop:=c.length≤6∧∀ (k:Nat) b,c[k]?=some b→1≤b.lis.length∧b.lis.length≤8∧GoodR b.lis.length b.rule∧∀ l∈b.lis,l.whom<c.length∧1≤l.beats
theorem Fine.slow {c:List Bell} (h:Fine c):Slow c:=fun k b hb l hl=>((h.2 k b hb).2.2.2 l hl).2
theorem wants_pos {b:Bell} (h1:1≤b.lis.length) (h:GoodR b.lis.length b.rule):1≤wants b:=by
  unfold wants
  cases hr:b.rule with
  | all=>show (1:Int)≤(b.lis.length:Int); omega
  | any=>exact Int.le_refl 1
  | num n=>rw [hr] at h; exact h.1
def Best (c:List Bell) (before now:List (Option Int)) (H:Hp) (i:Nat) (v:V):Prop :=
  (v=.non∧∀ (k:Nat) b,k<i→c[k]?=some b→now[k]?=some none→Due (comesOf b before now) (wants b) none)∨
  ∃ (T:Addr) (beat:Int) (k:Nat) (b:Bell),v=.ref T∧H T=some (.tup [.int beat,.int (k:Int)])∧c[k]?=some b∧now[k]?=some none∧Due (comesOf b before now) (wants b) (some beat)∧
    ∀ (j:Nat) b' u,j<i→c[j]?=some b'→now[j]?=some none→Due (comesOf b' before now) (wants b') (some u)→beat≤u
theorem Best.same {c:List Bell} {before now:List (Option Int)} {H H':Hp} {i:Nat} {v:V} (s:Same H H') (h:Best c before now H i v):Best c before now H' i v:=by
  rcases h with h | ⟨T,beat,k,b,e,hT,r⟩
  · exact .inl h
  · exact .inr ⟨T,beat,k,b,e,s _ _ hT,r⟩
theorem Best.skip {c:List Bell} {before now:List (Option Int)} {H:Hp} {i:Nat} {v:V} {u:Int} (h:Best c before now H i v) (hn:now[i]?=some (some u)):Best c before now H (i+1) v:=by
  rcases h with ⟨e,h⟩ | ⟨T,beat,k,b,e,hT,h1,h2,h3,h4⟩
  · refine .inl ⟨e,fun k b hk hb hz=>?_⟩
    rcases Nat.lt_or_ge k i with c1 | c1
    · exact h k b c1 hb hz
    · have ek:k=i:=by omega
      rw [ek,hn] at hz
      cases hz
  · refine .inr ⟨T,beat,k,b,e,hT,h1,h2,h3,fun j b' u' hj hb hz hd=>?_⟩
    rcases Nat.lt_or_ge j i with c1 | c1
    · exact h4 j b' u' c1 hb hz hd
    · have ek:j=i:=by omega
      rw [ek,hn] at hz
      cases hz
theorem Best.late {c:List Bell} {before now:List (Option Int)} {H:Hp} {i:Nat} {v:V} {b:Bell} (h:Best c before now H i v) (hb:c[i]?=some b) (hd:Due (comesOf b before now) (wants b) none):Best c before now H (i+1) v:=by
  rcases h with ⟨e,h⟩ | ⟨T,beat,k,b1,e,hT,h1,h2,h3,h4⟩
  · refine .inl ⟨e,fun k b1 hk hb1 hz=>?_⟩
    rcases Nat.lt_or_ge k i with c1 | c1
    · exact h k b1 c1 hb1 hz
    · obtain rfl:k=i:=by omega
      rw [hb] at hb1
      cases hb1
      exact hd
  · refine .inr ⟨T,beat,k,b1,e,hT,h1,h2,h3,fun j b' u' hj hb1 hz hd1=>?_⟩
    rcases Nat.lt_or_ge j i with c1 | c1
    · exact h4 j b' u' c1 hb1 hz hd1
    · obtain rfl:j=i:=by omega
      rw [hb] at hb1
      cases hb1
      cases due_unique hd hd1
theorem Best.take {c:List Bell} {before now:List (Option Int)} {H:Hp} {i:Nat} {b:Bell} {u:Int} {T:Addr} (h:∀ (j:Nat) b' v,j<i→c[j]?=some b'→now[j]?=some none→Due (comesOf b' before now) (wants b') (some v)→u≤v) (hT:H T=some (.tup [.int u,.int (i:Int)]))
    (hb:c[i]?=some b) (hn:now[i]?=some none) (hd:Due (comesOf b before now) (wants b) (some u)):Best c before now H (i+1) (.ref T):=by
  refine .inr ⟨T,u,i,b,rfl,hT,hb,hn,hd,fun j b' v hj hb' hz hd'=>?_⟩
  rcases Nat.lt_or_ge j i with c1 | c1
  · exact h j b' v c1 hb' hz hd'
  · obtain rfl:j=i:=by omega
    rw [hb] at hb'
    cases hb'
    have:=Option.some.inj (due_unique hd hd')
    omega
section
variable {P:Program} {w:World} {K:PySem.W.Frag} {mg:Str→Option Value} {base:Heap} {f:Addr} {fd:FuncData}
def sp_found (K:PySem.W.Frag) (ff fw:Addr):Sp:=fun vs H Q _=>∃ (ch:V) (c:List Bell) (r p n:Addr) (before now:List (Option Int)),vs=[ch,.ref r,.ref p,.ref n]∧ChoirAt H ch c∧Fine c∧RulesAt K ff fw H r c∧H p=some (.lst (before.map oV))∧H n=some (.lst (now.map oV))∧before.length=c.length∧now.length=c.length∧
  ∀ (H':Hp) (v:V),Same H H'→Best c before now H' c.length v→Q v H'
theorem sc_found:FnScope ["choir","rules","before","now","best","number","bell","beat"] ["choir","rules","before","now"] (defScope s_found):=⟨rfl,rfl,rfl,by decide +kernel,rfl,by decide +kernel,by decide +kernel⟩
theorem ok_found {ff fw:Addr} {df:FuncData} (F:Fun K "next_found" "next_found" s_found f fd) (B:Blt mg) (C_comes:Cal P w K mg base 1 "listening_comes" ["listening","before","now"] sp_comes) (GF:FnOk P w K mg base CX0 1 ff df ["self","beats"] (sp_falls K)) (bF:Binds K df ["self","beats"] []):FnOk P w K mg base CX0 2 f fd ["choir","rules","before","now"] (sp_found K ff fw):=by
  refine F.ok sc_found (fun vs H Q E h=>?_) (fun cdv A outer s H vs Q E hr h=>?_)
  · obtain ⟨ch,c,r,p,n,before,now,rfl,_⟩:=h
    rfl
  obtain ⟨ch,c,r,p,n,before,now,rfl,⟨a,bs,rfl,ha,prb⟩,fc,⟨rs,hR,prr⟩,hp,hn,lb,ln,q⟩:=h
  have hr1:Room 1 _:=hr.mono (by decide)
  refine ⟨_,(pss_cons (ps_set (i:=4) sc_found.nd rfl (Or.inl rfl) pe_non)
    (pss_cons (ps_for PassesOwn.never rfl (pi_enumT rfl B.enumerate_ (pa_cons (pv 0) pa_nil)) (pg_tup rfl (pgs_cons (pg_name (i:=5) sc_found.nd rfl (Or.inl rfl)) (pgs_cons (pg_name (i:=6) sc_found.nd rfl (Or.inl rfl)) pgs_nil)))
    (pss_one (ps_if (pt_cmpR op_isN (pe_ix ix_list (pv 3) (pv 5) (fun _ _=>rfl)) pe_non (nomark _))
    (pss_cons (ps_set (i:=7) sc_found.nd rfl (Or.inl rfl) (pe_methD (pe_ix ix_list (pv 1) (pv 5) (fun _ _=>rfl)) GF hr1 bF .nil pass0 (pa_cons (pe_comp ["listening"] ["before","now"] [2,3] rfl (pi_tup (pe_ix ix_tup (pv 6) pe_int (fun _ _=>rfl))) (fun _ _ _ _ _=>(pg_name (i:=0) (show List.Nodup [("listening":Str),("before":Str),("now":Str)] by decide +kernel) rfl (Or.inl rfl))) (fun _ _ _ _ _=>pts_nil) (fun _ _ _ _ _=>(pe_fn C_comes hr (by decide) rfl (pa_cons (pv 0) (pa_cons (pv 1) (pa_cons (pv 2) pa_nil)))))) pa_nil)))
    (pss_one (ps_if (PW.pt (pw_and (pt_cmpR op_notN (pv 7) pe_non (nomark _)) (pw_and1 (PW.pt (pw_or (pt_cmpR op_isN (pv 4) pe_non (nomark _)) (pw_or1 (pt_cmpR op_lt (pv 7) (pe_ix ix_tup (pv 4) pe_int (fun _ _=>rfl)) (nomark _))))))))
    (pss_one (ps_set (i:=4) sc_found.nd rfl (Or.inl rfl) (pe_tup (pa_cons (pv 7) (pa_cons (pv 5) pa_nil)))))
    pss_nil)))
    pss_nil)))
    (pss_one (ps_ret (pv 4))))),?_⟩
  have hbl:=paired_len prb
  refine ⟨_,rfl,a,rfl,⟨_,SqT.of ha⟩,for_enumT (K:=K) (a:=a) (xs:=bs) (fun i σ H2=>∃ (v:V) (o5 o6 o7:Option V),σ=[some (.ref a),some (.ref r),some (.ref p),some (.ref n),some v,o5,o6,o7]∧Same H H2∧Best c before now H2 i v)
    ⟨.non,none,none,none,rfl,.refl H,.inl ⟨rfl,fun k b hk=>absurd hk (Nat.not_lt_zero k)⟩⟩ (fun i σ H2 _ ⟨_,_,_,_,_,s2,_⟩=>SqT.of (s2 _ _ ha)) ?_ ?_⟩
  · rintro i y σ H2 T hi ⟨v,o5,o6,o7,rfl,s2,hbest⟩ hT
    obtain ⟨b,hb,⟨x,t,ls,rfl,hx,ht,prl⟩⟩:=paired_at prb hi
    have hic:i<c.length:=(List.getElem?_eq_some_iff.mp hb).1
    obtain ⟨rv,hrv,⟨ro,rfl,hro⟩⟩:=paired_at' prr hb
    have s3:Same H2 (upd H2 T (.tup [.int (i:Int),.ref x])):=same_new hT _
    have s23:=s2.trans s3
    have eT:(upd H2 T (.tup [.int (i:Int),.ref x])) T=some (.tup [.int (i:Int),.ref x]):=upd_same
    refine ⟨T,_,rfl,SqT.of eT,rfl,_,_,rfl,_,_,rfl,rfl,?_⟩
    have hbest3:=hbest.same s3
    generalize upd H2 T (.tup [.int (i:Int),.ref x])=H3 at s3 s23 eT hbest3 ⊢
    have en:=List.getElem?_eq_getElem (show i<now.length by omega)
    refine ⟨_,rfl,_,rfl,n,_,_,_,rfl,rfl,SqL.of (s23 _ _ hn),at_oV en,rfl,_,rfl,?_⟩
    cases ho:now[i]'(by omega) with
    | some u =>
      rw [ho] at en
      exact iteF ⟨v,_,_,_,rfl,s23,hbest3.skip en⟩
    | none =>
      rw [ho] at en
      refine iteT ?_
      obtain ⟨C,dx,hro',cl,na,mt,_⟩:=hro.same s23
      obtain ⟨g1,g8,gr,gl⟩:=fc.2 i b hb
      refine ⟨_,rfl,_,rfl,r,_,_,_,rfl,rfl,SqL.of (s23 _ _ hR),atI_nat hrv,C,ro,dx,_,rfl,hro',cl,mt,rfl,?_⟩
      refine ⟨_,rfl,x,_,_,_,rfl,rfl,SqT.of (s23 _ _ hx),rfl,t,rfl,⟨_,SqT.of (s23 _ _ ht)⟩,fun D hD=>?_⟩
      have hll:=paired_len prl
      refine comp_tup (K:=K) (a:=t) (xs:=ls) (fun j ys H4=>Same H3 H4∧ys=((b.lis.take j).map (come before now)).map oV) ⟨same_new hD _,rfl⟩ (fun j ys H4 _ ⟨z,_⟩=>SqT.of (z _ _ (s23 _ _ ht))) ?_ ?_
      · rintro j y ys H4 hj ⟨s4,rfl⟩ hD4
        obtain ⟨l,hl,hla⟩:=paired_at prl hj
        have s04:=s23.trans s4
        obtain ⟨w1,w2⟩:=gl l (List.mem_of_getElem? hl)
        refine ⟨rfl,tTrue_ite ?_⟩
        refine ⟨_,rfl,_,rfl,_,rfl,y,l,p,n,before,now,rfl,hla.mono (Same.tup s04),s04 _ _ hp,s04 _ _ hn,by omega,by omega,?_⟩
        refine ⟨_,hD4,?_,_,⟨s4.upd hD _,rfl⟩,?_⟩
        · rw [List.length_map,List.length_map,List.length_take]
          exact small1000 (by omega)
        · rw [take_snoc hl,List.map_append,List.map_append]
          exact upd_same
      · rintro ys H4 ⟨s4,rfl⟩ hD4
        rw [hll,List.take_length] at hD4
        have s04:=s23.trans s4
        refine ⟨ro,D,C,dx,wants b,b.lis.map (come before now),rfl,s4 _ _ hro',cl,na,hD4,by rw [List.length_map]; exact g8,wants_pos g1 gr,fun H5 o s5 hd=>?_⟩
        have s35:=s4.trans s5
        have s05:=s23.trans s35
        have hbest5:=hbest3.same s35
        cases o with
        | none=>exact ⟨_,rfl,rfl,_,rfl,iteF (iteF ⟨v,_,_,_,rfl,s05,hbest5.late hb hd⟩)⟩
        | some u =>
          refine ⟨_,rfl,rfl,_,rfl,iteT ?_⟩
          rcases hbest5 with ⟨rfl,hno⟩ | ⟨T2,beat,k,b2,rfl,hT2,h1,h2,h3,h4⟩
          · refine ⟨_,rfl,rfl,_,rfl,iteT (iteT ?_)⟩
            refine ⟨_,rfl,_,rfl,(by show 2≤sizeLine; decide),fun l hl=>?_⟩
            refine ⟨_,_,_,_,rfl,s05.trans (same_new hl _),Best.take (fun j b' z hj hb' hz hd'=>?_) upd_same hb en hd⟩
            cases due_unique (hno j b' hj hb' hz) hd'
          · refine ⟨_,rfl,rfl,_,rfl,iteF ?_⟩
            refine ⟨_,rfl,_,rfl,T2,_,_,_,rfl,rfl,SqT.of hT2,rfl,_,_,rfl,rfl,_,rfl,?_⟩
            refine ite2 (fun cc=>?_) (fun cc=>?_)
            · have hlt:u<beat:=of_decide_eq_true cc
              refine ⟨_,rfl,_,rfl,(by show 2≤sizeLine; decide),fun l hl=>?_⟩
              refine ⟨_,_,_,_,rfl,s05.trans (same_new hl _),Best.take (fun j b' z hj hb' hz hd'=>?_) upd_same hb en hd⟩
              have:=h4 j b' z hj hb' hz hd'
              omega
            · have hge:¬ u<beat:=of_decide_eq_false (Bool.eq_false_iff.mpr cc)
              refine ⟨_,_,_,_,rfl,s05,.inr ⟨T2,beat,k,b2,rfl,hT2,h1,h2,h3,fun j b' z hj hb' hz hd'=>?_⟩⟩
              rcases Nat.lt_or_ge j i with c1 | c1
              · exact h4 j b' z c1 hb' hz hd'
              · obtain rfl:j=i:=by omega
                rw [hb] at hb'
                cases hb'
                have:=Option.some.inj (due_unique hd hd')
                omega
  · rintro σ H2 ⟨v,o5,o6,o7,rfl,s2,hbest⟩
    rw [hbl] at hbest
    exact ⟨_,rfl,q H2 v s2 hbest⟩
end
end K43
namespace K43
open PySem L2
def isNon:V→Bool
  | .non=>true
  | _=>false
theorem countNon (now:List (Option Int)):(now.map oV).countP isNon=now.countP (·.isNone):=by
  rw [List.countP_map]
  refine List.countP_congr fun o _=>?_
  cases o <;> rfl
theorem count_set {now:List (Option Int)} {k:Nat} {u:Int} (h:now[k]?=some none):(now.set k (some u)).countP (·.isNone)<now.countP (·.isNone):=by
  induction now generalizing k with
  | nil=>cases h
  | cons o r ih =>
    cases k with
    | zero =>
      have e:o=none:=by simpa using h
      subst e
      simp
    | succ k =>
      have:=ih (k:=k) (by simpa using h)
      simp only [List.set_cons_succ,List.countP_cons]
      omega
theorem set_oV (now:List (Option Int)) (k:Nat) (u:Int):(now.map oV).set k (.int u)=(now.set k (some u)).map oV:=by
  rw [List.map_set]
  rfl
def left (n:Addr) (H:Hp):Nat:=match H n with
  | some (.lst xs)=>xs.countP isNon
  | _=>0
theorem left_at {n:Addr} {H:Hp} {now:List (Option Int)} (h:H n=some (.lst (now.map oV))):left n H=now.countP (·.isNone):=by
  unfold left
  rw [h]
  exact countNon now
section
variable {P:Program} {w:World} {K:PySem.W.Frag} {mg:Str→Option Value} {base:Heap} {f:Addr} {fd:FuncData}
def sp_behind (K:PySem.W.Frag) (ff fw:Addr):Sp:=fun vs H Q _=>∃ (ch:V) (c:List Bell) (r p:Addr) (before:List (Option Int)),vs=[ch,.ref r,.ref p]∧ChoirAt H ch c∧Fine c∧RulesAt K ff fw H r c∧H p=some (.lst (before.map oV))∧before.length=c.length∧
  ∀ (H':Hp) (n:Addr) (now:List (Option Int)),Same H H'→H n=none→H' n=some (.lst (now.map oV))→Fix c before now→Q (.ref n) H'
theorem sc_behind:FnScope ["choir","rules","before","now","found"] ["choir","rules","before"] (defScope s_behind):=⟨rfl,rfl,rfl,by decide +kernel,rfl,by decide +kernel,by decide +kernel⟩
theorem ok_behind {ff fw:Addr} (F:Fun K "strokes_behind" "strokes_behind" s_behind f fd) (C_found:Cal P w K mg base 2 "next_found" ["choir","rules","before","now"] (sp_found K ff fw)):FnOk P w K mg base CX0 3 f fd ["choir","rules","before"] (sp_behind K ff fw):=by
  refine F.ok sc_behind (fun vs H Q E h=>?_) (fun cdv A outer s H vs Q E hr h=>?_)
  · obtain ⟨ch,c,r,p,before,rfl,_⟩:=h
    rfl
  obtain ⟨ch,c,r,p,before,rfl,hch,fc,hru,hp,lb,q⟩:=h
  obtain ⟨a,bs,rfl,ha,prb⟩:=id hch
  refine ⟨_,(pss_cons (ps_setComp (i:=3) ["bell"] [] [] rfl sc_behind.nd rfl (Or.inl rfl) (pi_tup (pv 0)) (fun _ _ _ _ _=>(pg_name (i:=0) (show List.Nodup [("bell":Str)] by decide +kernel) rfl (Or.inl rfl))) (fun _ _ _ _ _=>pts_nil) (fun _ _ _ _ _=>pe_non))
    (pss_cons (ps_set (i:=4) sc_behind.nd rfl (Or.inl rfl) (pe_fn C_found hr (by decide) rfl (pa_cons (pv 0) (pa_cons (pv 1) (pa_cons (pv 2) (pa_cons (pv 3) pa_nil))))))
    (pss_cons (ps_while PassesOwn.never (pt_cmpR op_notN (pv 4) pe_non (nomark _))
    (pss_cons (ps_asg (pe_ix ix_tup (pv 4) pe_int (fun _ _=>rfl)) (pg_sub (pv 3) (pe_ix ix_tup (pv 4) pe_int (fun _ _=>rfl)) set_list))
    (pss_one (ps_set (i:=4) sc_behind.nd rfl (Or.inl rfl) (pe_fn C_found hr (by decide) rfl (pa_cons (pv 0) (pa_cons (pv 1) (pa_cons (pv 2) (pa_cons (pv 3) pa_nil)))))))))
    (pss_one (ps_ret (pv 3)))))),?_⟩
  have hbl:=paired_len prb
  refine ⟨_,rfl,a,rfl,⟨_,SqT.of ha⟩,fun n hn=>?_⟩
  refine comp_tup (K:=K) (a:=a) (xs:=bs) (fun j ys H2=>Same H H2∧ys=((c.take j).map fun _=>none).map oV) ⟨same_new hn _,rfl⟩ (fun j ys H2 _ ⟨z,_⟩=>SqT.of (z _ _ ha)) ?_ ?_
  · rintro j y ys H2 hj ⟨s2,rfl⟩ hD
    obtain ⟨b,hb,_⟩:=paired_at prb hj
    have hj6:j<c.length:=(List.getElem?_eq_some_iff.mp hb).1
    have:=fc.1
    refine ⟨rfl,tTrue_ite ?_⟩
    refine ⟨_,hD,?_,_,⟨s2.upd hn _,rfl⟩,?_⟩
    · rw [List.length_map,List.length_map,List.length_take]
      exact small1000 (by omega)
    · rw [take_snoc hb,List.map_append,List.map_append]
      exact upd_same
  · rintro ys H2 ⟨s2,rfl⟩ hD
    rw [hbl,List.take_length] at hD
    refine ⟨_,rfl,_,rfl,_,rfl,_,rfl,.ref a,c,r,p,n,before,c.map fun _=>none,rfl,hch.mono (Same.tup s2),fc,hru.same s2,s2 _ _ hp,hD,lb,List.length_map _,fun H3 v s3 hbest=>?_⟩
    refine while_by (fun σ H4=>∃ (v:V) (now:List (Option Int)),σ=[some (.ref a),some (.ref r),some (.ref p),some (.ref n),some v]∧Same H H4∧H4 n=some (.lst (now.map oV))∧Going c before now∧Best c before now H4 c.length v) (fun _ H4=>left n H4) ⟨v,_,rfl,s2.trans s3,s3 _ _ hD,going_start c before,hbest⟩ ?_ ?_
    · rintro σ H4 ⟨v,now,rfl,s4,hn4,go,hbest⟩
      rcases hbest with ⟨rfl,hno⟩ | ⟨T,beat,k,b,rfl,hT,hb,hk,hd,hl⟩
      · refine ⟨_,rfl,rfl,_,rfl,iteF ?_⟩
        exact ⟨_,rfl,q H4 n now s4 hn hn4 (going_end go fun k b hb hz=>hno k b (List.getElem?_eq_some_iff.mp hb).1 hb hz)⟩
      · have hkc:k<c.length:=(List.getElem?_eq_some_iff.mp hb).1
        have hkn:k<now.length:=(List.getElem?_eq_some_iff.mp hk).1
        refine ⟨_,rfl,rfl,_,rfl,iteT ?_⟩
        refine ⟨_,rfl,T,_,_,_,rfl,rfl,SqT.of hT,rfl,_,rfl,_,rfl,T,_,_,_,rfl,rfl,SqT.of hT,rfl,n,_,_,k,rfl,rfl,hn4,?_,?_⟩
        · unfold ixN
          rw [if_pos (by omega),List.length_map,if_pos (by omega),Int.toNat_natCast]
        rw [set_oV]
        have s5:=s4.upd hn (.lst ((now.set k (some beat)).map oV))
        have hn5:=upd_same (H:=H4) (a:=n) (o:=.lst ((now.set k (some beat)).map oV))
        have go5:=going_on fc.slow go hb hk hd fun j b' u hj hz hd'=>hl j b' u (List.getElem?_eq_some_iff.mp hj).1 hj hz hd'
        have l4:=left_at hn4
        generalize upd H4 n (.lst ((now.set k (some beat)).map oV))=H5 at s5 hn5 ⊢
        refine ⟨_,rfl,_,rfl,_,rfl,_,rfl,.ref a,c,r,p,n,before,now.set k (some beat),rfl,hch.mono (Same.tup s5),fc,hru.same s5,s5 _ _ hp,hn5,lb,by rw [List.length_set]; exact go.len,fun H6 v6 s6 hbest6=>?_⟩
        refine ⟨⟨v6,_,rfl,s5.trans s6,s6 _ _ hn5,go5,hbest6⟩,?_⟩
        show left n H6<left n H4
        rw [l4,left_at (s6 _ _ hn5)]
        exact count_set hk
    · rintro σ H4 Q1 Q2 hq ⟨z1,e1,e2,z2,e3,h⟩
      exact ⟨z1,e1,e2,z2,e3,hq _ _ h⟩
end
end K43
namespace K43
open PySem L2
structure Rows (c:List Bell) (rows:List (List (Option Int))):Prop where
  first:∀ row,rows[0]?=some row→row=c.map fun b=>some b.start
  next:∀ (n:Nat) x y,rows[n]?=some x→rows[n+1]?=some y→Fix c x y
theorem Rows.len {c:List Bell} {rows:List (List (Option Int))} (h:Rows c rows):∀ (n:Nat) x,rows[n]?=some x→x.length=c.length
  | 0,x,e=>by rw [h.first x e,List.length_map]
  | n+1,x,e=>by
    have hn:n<rows.length:=by have:=(List.getElem?_eq_some_iff.mp e).1; omega
    exact (h.next n _ x (List.getElem?_eq_getElem hn) e).1
theorem Rows.snoc {c:List Bell} {rows:List (List (Option Int))} {row:List (Option Int)} (h:Rows c rows) (h0:rows=[]→row=c.map fun b=>some b.start) (h1:∀ x,rows[rows.length - 1]?=some x→0<rows.length→Fix c x row):Rows c (rows++[row]) where
  first:=fun r e=>by
    by_cases hn:rows=[]
    · subst hn
      have:row=r:=by simpa using e
      rw [← this]
      exact h0 rfl
    · have hp:0<rows.length:=List.length_pos_iff.mpr hn
      rw [List.getElem?_append_left hp] at e
      exact h.first r e
  next:=fun n x y ex ey=>by
    have hlt:=(List.getElem?_eq_some_iff.mp ey).1
    rw [List.length_append] at hlt
    have hlt':n+1<rows.length+1:=hlt
    have hn:n<rows.length:=by omega
    rw [List.getElem?_append_left hn] at ex
    by_cases hn1:n+1<rows.length
    · rw [List.getElem?_append_left hn1] at ey
      exact h.next n x y ex ey
    · have e:n+1=rows.length:=by omega
      rw [e,List.getElem?_concat_length] at ey
      cases ey
      exact h1 x (by rw [← e]; exact ex) (by omega)
def RowAt (N:Addr→Prop) (H:Hp) (v:V) (row:List (Option Int)):Prop:=∃ a,v=.ref a∧N a∧H a=some (.lst (row.map oV))
section
variable {P:Program} {w:World} {K:PySem.W.Frag} {mg:Str→Option Value} {base:Heap} {f:Addr} {fd:FuncData}
def sp_strokes:Sp:=fun vs H Q _=>∃ (ch:V) (c:List Bell) (many:Nat),vs=[ch,.int many]∧ChoirAt H ch c∧Fine c∧many≤100000∧
  ∀ (H':Hp) (t:Addr) (told:List V) (rows:List (List (Option Int))),Same H H'→H t=none→H' t=some (.lst told)→Paired (RowAt (fun a=>H a=none∧a≠t) H') told rows→rows.length=many+1→Rows c rows→Q (.ref t) H'
theorem sc_strokes:FnScope ["choir","many","rules","told","n"] ["choir","many"] (defScope s_strokes):=⟨rfl,rfl,rfl,by decide +kernel,rfl,by decide +kernel,by decide +kernel⟩
theorem RowAt.same {N:Addr→Prop} {H H':Hp} {v:V} {row:List (Option Int)} (s:Same H H') (h:RowAt N H v row):RowAt N H' v row:=by
  obtain ⟨a,e,n,q⟩:=h
  exact ⟨a,e,n,s _ _ q⟩
theorem small5 {n:Nat} (h:n≤100002):n<sizeLine:=Nat.lt_of_le_of_lt h (by decide)
theorem ok_strokes {ff fw:Addr} (F:Fun K "strokes" "strokes" s_strokes f fd) (B:Blt mg) (C_rule_of_bell:Cal P w K mg base 6 "rule_of_bell" ["bell"] (sp_bellrule K ff fw)) (C_behind:Cal P w K mg base 3 "strokes_behind" ["choir","rules","before"] (sp_behind K ff fw)):FnOk P w K mg base CX0 7 f fd ["choir","many"] sp_strokes:=by
  refine F.ok sc_strokes (fun vs H Q E h=>?_) (fun cdv A outer s H vs Q E hr h=>?_)
  · obtain ⟨ch,c,many,rfl,_⟩:=h
    rfl
  obtain ⟨ch,c,many,rfl,hch,fc,hm,q⟩:=h
  obtain ⟨a,bs,rfl,ha,prb⟩:=id hch
  refine ⟨_,(pss_cons (ps_setComp (i:=2) ["bell"] [] [] rfl sc_strokes.nd rfl (Or.inl rfl) (pi_tup (pv 0)) (fun _ _ _ _ _=>(pg_name (i:=0) (show List.Nodup [("bell":Str)] by decide +kernel) rfl (Or.inl rfl))) (fun _ _ _ _ _=>pts_nil) (fun _ _ _ _ _=>(pe_fn C_rule_of_bell hr (by decide) rfl (pa_cons (pv 0) pa_nil))))
    (pss_cons (ps_set (i:=3) sc_strokes.nd rfl (Or.inl rfl) (pe_lst pa_nil))
    (pss_cons (ps_for PassesOwn.never rfl (pi_range1 rfl B.range_ (pa_cons (pe_op op_add (pv 1) pe_int) pa_nil)) (pg_name (i:=4) sc_strokes.nd rfl (Or.inl rfl))
    (pss_one (ps_if (pt_cmpR op_eq (pv 4) pe_int (nomark _))
    (pss_one (ps_expr (pe_bm PySem.F.plainAttrs_list PySem.F.slot_list_append PySem.F.type_list_append mt_append (pv 3) (pa_cons (pe_comp ["bell"] [] [] rfl (pi_tup (pv 0)) (fun _ _ _ _ _=>(pg_name (i:=0) (show List.Nodup [("bell":Str)] by decide +kernel) rfl (Or.inl rfl))) (fun _ _ _ _ _=>pts_nil) (fun _ _ _ _ _=>(pe_ix (ix_tupC (K:=K) rfl) (pv 0) pe_int (fun _ _=>rfl)))) pa_nil))))
    (pss_one (ps_expr (pe_bm PySem.F.plainAttrs_list PySem.F.slot_list_append PySem.F.type_list_append mt_append (pv 3) (pa_cons (pe_fn C_behind hr (by decide) rfl (pa_cons (pv 0) (pa_cons (pv 2) (pa_cons (pe_ix ix_list (pv 3) (pe_op op_sub (pv 4) pe_int) (fun _ _=>rfl)) pa_nil)))) pa_nil)))))))
    (pss_one (ps_ret (pv 3)))))),?_⟩
  have hbl:=paired_len prb
  have h6:=fc.1
  refine ⟨_,rfl,a,rfl,⟨_,SqT.of ha⟩,fun r hr0=>?_⟩
  refine comp_tup (K:=K) (a:=a) (xs:=bs) (fun j ys H2=>Same H H2∧Paired (RuleV K ff fw H2) ys (c.take j)) ⟨same_new hr0 _,.nil⟩ (fun j ys H2 _ ⟨z,_⟩=>SqT.of (z _ _ ha)) ?_ ?_
  · rintro j y ys H2 hj ⟨s2,pr2⟩ hD
    obtain ⟨b,hb,hbv⟩:=paired_at prb hj
    have hj6:j<c.length:=(List.getElem?_eq_some_iff.mp hb).1
    refine ⟨rfl,tTrue_ite ?_⟩
    refine ⟨_,rfl,y,b,rfl,hbv.mono (Same.tup s2),(fc.2 j b hb).2.2.1,fun x H3 s3 hx=>?_⟩
    have hD3:=s3 _ _ hD
    refine ⟨_,hD3,?_,_,⟨(s2.trans s3).upd hr0 _,?_⟩,upd_same⟩
    · rw [paired_len pr2,List.length_take]
      exact small1000 (by omega)
    · have up:∀ (v:V) (b:Bell),RuleV K ff fw H3 v b→RuleV K ff fw (upd H3 r (.lst (ys++[.ref x]))) v b:=by
        rintro v b ⟨x,rfl,C,dx,hx,z⟩
        refine ⟨x,rfl,C,dx,?_,z⟩
        rw [upd_ne (ne_of hx hD3 (by intro z; cases z))]
        exact hx
      rw [take_snoc hb]
      exact paired_snoc (up _ _ ⟨x,rfl,hx⟩) (paired_imp (fun _ _ z=>up _ _ (z.same s3)) pr2)
  · rintro ys H2 ⟨s2,pr2⟩ hD
    rw [hbl,List.take_length] at pr2
    refine ⟨(by show 0≤sizeLine; decide),fun t ht=>?_⟩
    have nt:H t=none:=s2.free ht
    have hru2:RulesAt K ff fw H2 r c:=⟨ys,hD,pr2⟩
    have s3:Same H2 (upd H2 t (.lst [])):=same_new ht _
    have hrt:r≠t:=ne_of_none hD ht
    refine ⟨_,rfl,_,_,rfl,rfl,((many+1:Nat):Int),?_,by omega,by omega,?_⟩
    · rfl
    refine for_range (lo:=0) (n:=(((many+1:Nat):Int)).toNat) (fun i σ H3=>∃ (told:List V) (rows:List (List (Option Int))) (o4:Option V),σ=[some (.ref a),some (.int many),some (.ref r),some (.ref t),o4]∧Same H H3∧RulesAt K ff fw H3 r c∧H3 t=some (.lst told)∧
        Paired (RowAt (fun a=>H a=none∧a≠t) H3) told rows∧rows.length=i∧Rows c rows)
      ⟨[],[],none,rfl,s2.trans s3,hru2.same s3,upd_same,.nil,rfl,⟨fun _ e=>(nomatch e),fun _ _ _ e=>(nomatch e)⟩⟩ ?_ ?_
    · rintro i σ H3 hi ⟨told,rows,o4,rfl,s03,hru,ht3,prt,hri,hrows⟩
      have hti:=(paired_len prt).trans hri
      rw [Int.zero_add]
      have step:∀ (H4:Hp) (n:Addr) (now:List (Option Int)),Same H3 H4→H3 n=none→H4 n=some (.lst (now.map oV))→Rows c (rows++[now])→Same H (upd H4 t (.lst (told++[.ref n])))∧RulesAt K ff fw (upd H4 t (.lst (told++[.ref n]))) r c∧Paired (RowAt (fun a=>H a=none∧a≠t) (upd H4 t (.lst (told++[.ref n])))) (told++[.ref n]) (rows++[now]):=fun H4 n now s4 hn hn4 hrn=>by
        have hnt:n≠t:=fun e=>by rw [e,ht3] at hn; cases hn
        have ht4:=s4 _ _ ht3
        have up:∀ (v:V) (row:List (Option Int)),RowAt (fun a=>H a=none∧a≠t) H4 v row→RowAt (fun a=>H a=none∧a≠t) (upd H4 t (.lst (told++[.ref n]))) v row:=by
          rintro v row ⟨x,e,⟨x1,x2⟩,x3⟩
          exact ⟨x,e,⟨x1,x2⟩,by rw [upd_ne x2]; exact x3⟩
        refine ⟨(s03.trans s4).upd nt _,?_,paired_snoc (up _ _ ⟨n,rfl,⟨s03.free hn,hnt⟩,hn4⟩) (paired_imp (fun _ _ z=>up _ _ (z.same s4)) prt)⟩
        obtain ⟨rs,e,pr⟩:=hru.same s4
        refine ⟨rs,by rw [upd_ne hrt]; exact e,paired_imp ?_ pr⟩
        rintro v b ⟨x,rfl,C,dx,hx,z⟩
        refine ⟨x,rfl,C,dx,?_,z⟩
        rw [upd_ne (ne_of hx ht4 (by intro z; cases z))]
        exact hx
      refine ⟨_,rfl,rfl,_,rfl,?_⟩
      refine ite2 (fun cc=>?_) (fun cc=>?_)
      · have hi0:i=0:=by
          have e:V.int (i:Int)=V.int 0:=of_decide_eq_true cc
          injection e with e
          omega
        refine ⟨_,rfl,.inl ⟨rfl,_,SqL.of ht3⟩,_,rfl,a,rfl,⟨_,SqT.of (s03 _ _ ha)⟩,fun D hD=>?_⟩
        refine comp_tup (K:=K) (a:=a) (xs:=bs) (fun j ys H4=>Same H3 H4∧ys=((c.take j).map fun b=>some b.start).map oV) ⟨same_new hD _,rfl⟩ (fun j ys H4 _ ⟨z,_⟩=>SqT.of ((s03.trans z) _ _ ha)) ?_ ?_
        · rintro j y ys H4 hj ⟨s4,rfl⟩ hD4
          obtain ⟨b,hb,⟨x,tt,ls,rfl,hx,_⟩⟩:=paired_at prb hj
          have hj6:j<c.length:=(List.getElem?_eq_some_iff.mp hb).1
          refine ⟨rfl,tTrue_ite ?_⟩
          refine ⟨_,rfl,x,_,_,_,rfl,rfl,SqT.of ((s03.trans s4) _ _ hx),rfl,_,hD4,?_,_,⟨s4.upd hD _,rfl⟩,?_⟩
          · rw [List.length_map,List.length_map,List.length_take]
            exact small1000 (by omega)
          · rw [take_snoc hb,List.map_append,List.map_append]
            exact upd_same
        · rintro ys H4 ⟨s4,rfl⟩ hD4
          rw [hbl,List.take_length] at hD4
          have hr0:rows=[]:=List.eq_nil_of_length_eq_zero (by omega)
          have hrn:Rows c (rows++[c.map fun b=>some b.start]):=hrows.snoc (fun _=>rfl) (fun x _ h=>by rw [hr0] at h; cases h)
          obtain ⟨z1,z2,z3⟩:=step H4 D _ s4 hD hD4 hrn
          exact ⟨t,_,_,rfl,rfl,s4 _ _ ht3,by rw [hti]; exact small5 (by omega),_,_,_,rfl,z1,z2,upd_same,z3,by rw [List.length_append,hri]; rfl,hrn⟩
      · have hi1:1≤i:=by
          rcases Nat.eq_zero_or_pos i with e | e
          · exact absurd (by rw [e]; rfl) cc
          · exact e
        have hv:=List.getElem?_eq_getElem (show i - 1<told.length by omega)
        obtain ⟨row,hrow,⟨p,ep,_,hp3⟩⟩:=paired_at prt hv
        have hat:atI told ((i:Int) - 1)=some (.ref p):=by
          have e:(i:Int) - 1=((i - 1:Nat):Int):=by omega
          rw [e,← ep]
          exact atI_nat hv
        refine ⟨_,rfl,.inl ⟨rfl,_,SqL.of ht3⟩,_,rfl,_,rfl,_,rfl,_,rfl,_,_,rfl,rfl,t,_,_,_,rfl,rfl,SqL.of ht3,hat,.ref a,c,r,p,row,rfl,hch.mono (Same.tup s03),fc,hru,hp3,hrows.len _ _ hrow,fun H4 n now s4 hn hn4 hfix=>?_⟩
        have hrn:Rows c (rows++[now]):=hrows.snoc (fun e=>by rw [e] at hri; exact absurd hri.symm (by show ¬ i=0; omega)) (fun x hx _=>by rw [hri,hrow] at hx; cases hx; exact hfix)
        obtain ⟨z1,z2,z3⟩:=step H4 n now s4 hn hn4 hrn
        exact ⟨t,_,_,rfl,rfl,s4 _ _ ht3,by rw [hti]; exact small5 (by omega),_,_,_,rfl,z1,z2,upd_same,z3,by rw [List.length_append,hri]; rfl,hrn⟩
    · rintro σ H3 ⟨told,rows,o4,rfl,s03,hru,ht3,prt,hri,hrows⟩
      exact ⟨_,rfl,q H3 t told rows s03 nt ht3 prt (by rw [hri]; omega) hrows⟩
end
end K43
namespace K43
open PySem L2
def LQ (l0 l1:Lis):Prop:=l0.whom=l1.whom∧l0.back=l1.back∧l0.beats≤l1.beats
def Quick (c0 c1:List Bell):Prop:=∀ (k:Nat) b1,c1[k]?=some b1→∃ b0,c0[k]?=some b0∧wants b0=wants b1∧Paired LQ b0.lis b1.lis
theorem paired_self {α:Type} {F:α→α→Prop} (h:∀ x,F x x):∀ xs:List α,Paired F xs xs
  | []=>.nil
  | x::r=>.cons (h x) (paired_self h r)
theorem Quick.refl (c:List Bell):Quick c c:=fun k b hb=>⟨b,hb,rfl,paired_self (fun _=>⟨rfl,rfl,Int.le_refl _⟩) _⟩
theorem paired_count {α β:Type} {F:α→β→Prop} {p:α→Bool} {q:β→Bool}:∀ {xs:List α} {ys:List β},Paired F xs ys→(∀ x y,x∈xs→y∈ys→F x y→q y=true→p x=true)→ys.countP q≤xs.countP p
  | _,_,.nil,_=>Nat.le_refl _
  | x::xs,y::ys,.cons r t,h=>by
    have ih:=paired_count t fun a b ha hb=>h a b (List.mem_cons_of_mem _ ha) (List.mem_cons_of_mem _ hb)
    rw [List.countP_cons,List.countP_cons]
    have h1:=h x y (by simp) (by simp) r
    by_cases hq:q y=true
    · rw [if_pos hq,if_pos (h1 hq)]
      omega
    · rw [if_neg hq]
      split <;> omega
theorem tot_map {α:Type} (l:List α) (f:α→Option Int):tot (l.map f)=l.countP (fun x=>(f x).isSome):=by
  unfold tot
  rw [List.countP_map]
  rfl
theorem leO_some {o:Option Int} {v:Int} (h:leO o v=true):∃ u,o=some u∧u≤v:=by
  cases o with
  | none=>cases h
  | some u=>exact ⟨u,rfl,of_decide_eq_true h⟩
theorem come_some {before now:List (Option Int)} {l:Lis} {u:Int} (h:come before now l=some u):∃ w,(if l.back then before else now)[l.whom]?=some (some w)∧u=w+l.beats:=by
  unfold come at h
  cases e:(if l.back then before else now)[l.whom]? with
  | none=>rw [e] at h; cases h
  | some o =>
    rw [e] at h
    cases o with
    | none=>cases h
    | some w=>exact ⟨w,rfl,(Option.some.inj h).symm⟩
theorem come_of {before now:List (Option Int)} {l:Lis} {w:Int} (h:(if l.back then before else now)[l.whom]?=some (some w)):come before now l=some (w+l.beats):=by
  unfold come
  rw [h]
  rfl
theorem fix_le {c0 c1:List Bell} (hc:Slow c1) (qk:Quick c0 c1) {b0 b1 n0 n1:List (Option Int)} (h:∀ (k:Nat) u,b1[k]?=some (some u)→∃ u',b0[k]?=some (some u')∧u'≤u) (f0:Fix c0 b0 n0) (f1:Fix c1 b1 n1) :
    ∀ (k:Nat) v,n1[k]?=some (some v)→∃ v',n0[k]?=some (some v')∧v'≤v:=by
  obtain ⟨B,hB⟩:=low n1
  have all:∀ (n:Nat) (k:Nat) v,v<B+n→n1[k]?=some (some v)→∃ v',n0[k]?=some (some v')∧v'≤v:=by
    intro n
    induction n with
    | zero=>intro k v hv e; have:=hB v (List.mem_of_getElem? e); omega
    | succ n ih =>
      intro k v hv e
      have hk:k<c1.length:=by rw [← f1.1]; exact (List.getElem?_eq_some_iff.mp e).1
      have hb:=List.getElem?_eq_getElem hk
      obtain ⟨o,ho,hd⟩:=f1.2 k _ hb
      rw [e] at ho
      cases ho
      obtain ⟨bb,hb0,hw,hp⟩:=qk k _ hb
      obtain ⟨o',ho',hd'⟩:=f0.2 k _ hb0
      have cn:cnt (comesOf c1[k] b1 n1) v≤cnt (comesOf bb b0 n0) v:=by
        unfold comesOf
        rw [cnt_map,cnt_map]
        refine paired_count hp fun l0 l1 _ hl1 r hq=>?_
        obtain ⟨r1,r2,r3⟩:=r
        obtain ⟨u,eu,hu⟩:=leO_some hq
        obtain ⟨w,hw',ew⟩:=come_some eu
        have hs:=hc k _ hb l1 hl1
        have:∃ w',(if l0.back then b0 else n0)[l0.whom]?=some (some w')∧w'≤w:=by
          rw [r2,r1]
          cases hbk:l1.back with
          | true=>rw [hbk] at hw'; exact h _ _ hw'
          | false=>rw [hbk] at hw'; exact ih l1.whom w (by omega) hw'
        obtain ⟨w',e',l'⟩:=this
        rw [come_of e']
        exact decide_eq_true (by omega)
      rw [hw] at hd'
      obtain ⟨d1,d2⟩:=hd
      cases o' with
      | none =>
        have h1:(tot (comesOf bb b0 n0):Int)<wants c1[k]:=hd'
        have:=cnt_tot (comesOf bb b0 n0) v
        omega
      | some v' =>
        refine ⟨v',ho',?_⟩
        refine Classical.byContradiction fun no=>?_
        have:=cnt_mono (comesOf bb b0 n0) (show v≤v' - 1 by omega)
        have:=hd'.2
        omega
  intro k v e
  exact all (v - B+1).toNat k v (by have:=hB v (List.mem_of_getElem? e); omega) e
theorem fix_some {c:List Bell} (hc:Slow c) {b0 b1 n0 n1:List (Option Int)} (h:∀ (k:Nat) u,b1[k]?=some (some u)→∃ u',b0[k]?=some (some u')) (f0:Fix c b0 n0) (f1:Fix c b1 n1) :
    ∀ (k:Nat) v,n1[k]?=some (some v)→∃ v',n0[k]?=some (some v'):=by
  obtain ⟨B,hB⟩:=low n1
  have all:∀ (n:Nat) (k:Nat) v,v<B+n→n1[k]?=some (some v)→∃ v',n0[k]?=some (some v'):=by
    intro n
    induction n with
    | zero=>intro k v hv e; have:=hB v (List.mem_of_getElem? e); omega
    | succ n ih =>
      intro k v hv e
      have hk:k<c.length:=by rw [← f1.1]; exact (List.getElem?_eq_some_iff.mp e).1
      have hb:=List.getElem?_eq_getElem hk
      obtain ⟨o,ho,hd⟩:=f1.2 k _ hb
      rw [e] at ho
      cases ho
      obtain ⟨o',ho',hd'⟩:=f0.2 k _ hb
      cases o' with
      | some v'=>exact ⟨v',ho'⟩
      | none =>
        exfalso
        have h1:(tot (comesOf c[k] b0 n0):Int)<wants c[k]:=hd'
        have cn:cnt (comesOf c[k] b1 n1) v≤tot (comesOf c[k] b0 n0):=by
          unfold comesOf
          rw [cnt_map,tot_map]
          refine List.countP_mono_left fun l hl hq=>?_
          obtain ⟨u,eu,hu⟩:=leO_some hq
          obtain ⟨w,hw',ew⟩:=come_some eu
          have hs:=hc k _ hb l hl
          have:∃ w',(if l.back then b0 else n0)[l.whom]?=some (some w'):=by
            cases hbk:l.back with
            | true=>rw [hbk] at hw'; exact h _ _ hw'
            | false=>rw [hbk] at hw'; exact ih l.whom w (by omega) hw'
          obtain ⟨w',e'⟩:=this
          rw [come_of e']
          rfl
        have:=hd.1
        omega
  intro k v e
  exact all (v - B+1).toNat k v (by have:=hB v (List.mem_of_getElem? e); omega) e
def later (d:Int) (r:List (Option Int)):List (Option Int):=r.map (Option.map (·+d))
theorem later_at {d:Int} {r:List (Option Int)} {k:Nat}:(later d r)[k]?=(r[k]?).map (Option.map (·+d)):=List.getElem?_map ..
theorem cnt_later (xs:List (Option Int)) (d v:Int):cnt (later d xs) v=cnt xs (v - d):=by
  unfold later
  rw [cnt_map]
  unfold cnt
  refine List.countP_congr fun o _=>?_
  cases o with
  | none=>exact Iff.rfl
  | some u =>
    show decide (u+d≤v)=true↔decide (u≤v - d)=true
    rw [decide_eq_true_iff,decide_eq_true_iff]
    omega
theorem tot_later (xs:List (Option Int)) (d:Int):tot (later d xs)=tot xs:=by
  unfold later
  rw [tot_map]
  unfold tot
  refine List.countP_congr fun o _=>?_
  cases o <;> exact Iff.rfl
theorem comes_later (b:Bell) (d:Int) (b0 n0:List (Option Int)):comesOf b (later d b0) (later d n0)=later d (comesOf b b0 n0):=by
  unfold comesOf later
  rw [List.map_map]
  refine List.map_congr_left fun l _=>?_
  show come (later d b0) (later d n0) l=(come b0 n0 l).map (·+d)
  unfold come
  have j:∀ o:Option (Option Int),Option.map (·+l.beats) (Option.map (Option.map (·+d)) o).join=Option.map (·+d) (Option.map (·+l.beats) o.join):=fun o=>by
    cases o with
    | none=>rfl
    | some o =>
      cases o with
      | none=>rfl
      | some u =>
        show some (u+d+l.beats)=some (u+l.beats+d)
        rw [Int.add_right_comm]
  cases l.back
  · simp only [Bool.false_eq_true,if_false,later_at]
    exact j _
  · simp only [if_true,later_at]
    exact j _
theorem due_later {xs:List (Option Int)} {n d:Int} {o:Option Int} (h:Due xs n o):Due (later d xs) n (o.map (·+d)):=by
  cases o with
  | none=>show (tot (later d xs):Int)<n; rw [tot_later]; exact h
  | some v =>
    refine ⟨?_,?_⟩
    · rw [cnt_later,show v+d - d=v by omega]; exact h.1
    · rw [cnt_later,show v+d - 1 - d=v - 1 by omega]; exact h.2
theorem fix_later {c:List Bell} {b0 n0:List (Option Int)} (d:Int) (f:Fix c b0 n0):Fix c (later d b0) (later d n0):=by
  refine ⟨by unfold later; rw [List.length_map]; exact f.1,fun k b hb=>?_⟩
  obtain ⟨o,ho,hd⟩:=f.2 k b hb
  refine ⟨o.map (·+d),by rw [later_at,ho]; rfl,?_⟩
  rw [comes_later]
  exact due_later hd
structure Btw (lo hi:Int) (r r':List (Option Int)):Prop where
  len:r.length=r'.length
  le:∀ (k:Nat) v,r'[k]?=some (some v)→∃ u,r[k]?=some (some u)∧u+lo≤v
  ge:∀ (k:Nat) u,r[k]?=some (some u)→∃ v,r'[k]?=some (some v)∧v≤u+hi
theorem later_some {d:Int} {r:List (Option Int)} {k:Nat} {v:Int}:(later d r)[k]?=some (some v)↔∃ u,r[k]?=some (some u)∧v=u+d:=by
  rw [later_at]
  cases e:r[k]? with
  | none=>exact ⟨fun h=>(nomatch h),fun ⟨u,h,_⟩=>(nomatch h)⟩
  | some o =>
    cases o with
    | none=>exact ⟨fun h=>(nomatch h),fun ⟨u,h,_⟩=>(nomatch h)⟩
    | some u=>exact ⟨fun h=>⟨u,rfl,(Option.some.inj (Option.some.inj h)).symm⟩,fun ⟨u',h,hv⟩=>by
        have:=Option.some.inj (Option.some.inj h)
        subst this hv
        rfl⟩
theorem btw_step {c:List Bell} (hc:Slow c) {lo hi:Int} {b0 b1 n0 n1:List (Option Int)} (h:Btw lo hi b0 b1) (f0:Fix c b0 n0) (f1:Fix c b1 n1):Btw lo hi n0 n1 where
  len:=by rw [f0.1,f1.1]
  le:=fun k v e=>by
    obtain ⟨w,hw,hv⟩:=fix_le hc (Quick.refl c) (b0:=later lo b0) (n0:=later lo n0) (fun k u hu=>by
      obtain ⟨w,hw,hl⟩:=h.le k u hu
      exact ⟨w+lo,later_some.mpr ⟨w,hw,rfl⟩,hl⟩) (fix_later lo f0) f1 k v e
    obtain ⟨u,hu,e'⟩:=later_some.mp hw
    exact ⟨u,hu,by omega⟩
  ge:=fun k u e=>by
    obtain ⟨w,hw,hv⟩:=fix_le hc (Quick.refl c) (b1:=later hi b0) (n1:=later hi n0) (fun k u hu=>by
      obtain ⟨w,hw,rfl⟩:=later_some.mp hu
      exact h.ge k w hw) f1 (fix_later hi f0) k (u+hi) (later_some.mpr ⟨u,e,rfl⟩)
    exact ⟨w,hw,hv⟩
theorem rows_btw {c c':List Bell} (hc:Slow c) (hf:∀ x y,Fix c' x y→Fix c x y) {lo hi:Int} {rows rows':List (List (Option Int))} (h:Rows c rows) (h':Rows c' rows') (h0:Btw lo hi (c.map fun b=>some b.start) (c'.map fun b=>some b.start)) :
    ∀ (n:Nat) x y,rows[n]?=some x→rows'[n]?=some y→Btw lo hi x y:=by
  intro n
  induction n with
  | zero=>intro x y ex ey; rw [h.first x ex,h'.first y ey]; exact h0
  | succ n ih =>
    intro x y ex ey
    have hn:n<rows.length:=by have:=(List.getElem?_eq_some_iff.mp ex).1; omega
    have hn':n<rows'.length:=by have:=(List.getElem?_eq_some_iff.mp ey).1; omega
    have e1:=List.getElem?_eq_getElem hn
    have e2:=List.getElem?_eq_getElem hn'
    exact btw_step hc (ih _ _ e1 e2) (h.next n _ x e1 ex) (hf _ _ (h'.next n _ y e2 ey))
end K43
namespace L2
open PySem PySem.Spec PyProof.Rows
theorem pg_tupC {X:Cx} {K:PySem.W.Frag} {es:List Expr} {k:Nat} {t:TGs} {n:Nat} {pos:Pos} (hK:X.K=K) (hc:X.calm=true) (h:PGs X es t) (hn:(assignEach es X.env).length=n:=by rfl) (hst:(assignEach es X.env).findIdx? (·.1)=none:=by rfl):PG X (.Tuple es k pos) (gTup K n t):=hK▸pg_tup hc h hn hst
end L2
namespace K43
open PySem L2
abbrev starts (c:List Bell):List (Option Int):=c.map fun b=>some b.start
def waitsUp (c:List Bell) (now:List (Option Int)) (j:Nat):List Str:=(((c.zip now).take j).filter fun z=>z.2.isNone).map (·.1.name)
abbrev waitsOf (c:List Bell) (now:List (Option Int)):List Str:=waitsUp c now c.length
theorem zip_at {c:List Bell} {now:List (Option Int)} {j:Nat} {b:Bell} {o:Option Int} (h1:c[j]?=some b) (h2:now[j]?=some o):(c.zip now)[j]?=some (b,o):=by
  rw [List.getElem?_zip_eq_some]
  exact ⟨h1,h2⟩
theorem waitsUp_snoc {c:List Bell} {now:List (Option Int)} {j:Nat} {b:Bell} {o:Option Int} (h1:c[j]?=some b) (h2:now[j]?=some o):waitsUp c now (j+1)=waitsUp c now j++(if o.isNone=true then [b.name] else []):=by
  unfold waitsUp
  rw [take_snoc (zip_at h1 h2),List.filter_append,List.map_append]
  congr 1
  cases o <;> rfl
theorem waitsUp_len (c:List Bell) (now:List (Option Int)) (j:Nat):(waitsUp c now j).length≤c.length:=by
  unfold waitsUp
  rw [List.length_map]
  refine Nat.le_trans (List.length_filter_le _ _) ?_
  rw [List.length_take,List.length_zip]
  omega
section
variable {P:Program} {w:World} {K:PySem.W.Frag} {mg:Str→Option Value} {base:Heap} {f:Addr} {fd:FuncData}
def sp_waiting:Sp:=fun vs H Q _=>∃ (ch:V) (c:List Bell),vs=[ch]∧ChoirAt H ch c∧Fine c∧∀ (H':Hp) (l:Addr) (now:List (Option Int)),Same H H'→H l=none→H' l=some (.lst ((waitsOf c now).map V.str))→Fix c (starts c) now→Q (.ref l) H'
theorem sc_waiting:FnScope ["choir"] ["choir"] (defScope s_waiting):=⟨rfl,rfl,rfl,by decide +kernel,rfl,by decide +kernel,by decide +kernel⟩
theorem ok_waiting (F:Fun K "waiting" "waiting" s_waiting f fd) (B:Blt mg) (C_strokes:Cal P w K mg base 7 "strokes" ["choir","many"] sp_strokes):FnOk P w K mg base CX0 8 f fd ["choir"] sp_waiting:=by
  refine F.ok sc_waiting (fun vs H Q E h=>?_) (fun cdv A outer s H vs Q E hr h=>?_)
  · obtain ⟨ch,c,rfl,_⟩:=h
    rfl
  obtain ⟨ch,c,rfl,hch,fc,q⟩:=h
  refine ⟨_,(pss_one (ps_ret (pe_comp ["bell","beat"] [] [] rfl (pi_zip true false rfl B.zip_ (pa_cons (pv 0) (pa_cons (pe_ix ix_list (pe_fn C_strokes hr (by decide) rfl (pa_cons (pv 0) (pa_cons pe_int pa_nil))) pe_int (fun _ _=>rfl)) pa_nil))) (fun _ _ _ _ _=>(pg_tupC (n:=2) (K:=K) rfl rfl (pgs_cons (pg_name (i:=0) (show List.Nodup [("bell":Str),("beat":Str)] by decide +kernel) rfl (Or.inl rfl)) (pgs_cons (pg_name (i:=1) (show List.Nodup [("bell":Str),("beat":Str)] by decide +kernel) rfl (Or.inl rfl)) pgs_nil)))) (fun _ _ _ _ _=>(pts_one (pt_cmpR op_isN (pv 1) pe_non (nomark _)))) (fun _ _ _ _ _=>(pe_ix (ix_tupC (K:=K) rfl) (pv 0) pe_int (fun _ _=>rfl)))))),?_⟩
  refine ⟨_,rfl,_,rfl,ch,c,1,rfl,hch,fc,by omega,fun H1 t told rows s1 ht ht1 prt hlr hrows=>?_⟩
  have h0:=List.getElem?_eq_getElem (show 0<rows.length by omega)
  have h1:=List.getElem?_eq_getElem (show 1<rows.length by omega)
  obtain ⟨v1,hv1,p1,rfl,⟨np1,npt⟩,hp1⟩:=paired_at' prt h1
  have fx:=hrows.next 0 _ _ h0 h1
  rw [hrows.first _ h0] at fx
  generalize rows[1]=now at h1 hp1 fx
  obtain ⟨x,bs,rfl,hx1,prb⟩:=hch.mono (Same.tup s1)
  refine ⟨t,_,_,_,rfl,rfl,SqL.of ht1,atI_nat (j:=1) hv1,x,p1,rfl,⟨_,SqT.of hx1⟩,⟨_,SqL.of hp1⟩,fun D hD=>?_⟩
  have hbl:=paired_len prb
  have hnl:=fx.1
  have h6:=fc.1
  refine comp_zip (K:=K) (t1:=true) (t2:=false) (a:=x) (b:=p1) (xs:=bs) (ys:=now.map oV) (fun j zs H2=>Same H1 H2∧zs=(waitsUp c now j).map V.str) ⟨same_new hD _,rfl⟩ (fun j zs H2 _ ⟨z,_⟩=>⟨SqT.of (z _ _ hx1),SqL.of (z _ _ hp1)⟩) ?_ ?_
  · rintro j y y' zs H2 T hj hj' ⟨s2,rfl⟩ hD2 hT
    obtain ⟨b,hb,⟨z,tt,ls,rfl,hz,_⟩⟩:=paired_at prb hj
    obtain ⟨o,rfl,ho⟩:=at_o hj'
    have s3:=same_new hT (.tup [.ref z,oV o])
    have eT:(upd H2 T (.tup [.ref z,oV o])) T=some (.tup [.ref z,oV o]):=upd_same
    refine ⟨T,_,rfl,SqT.of eT,rfl,_,_,rfl,_,_,rfl,rfl,?_⟩
    have hD3:=s3 _ _ hD2
    have s13:=s2.trans s3
    generalize upd H2 T (.tup [.ref z,oV o])=H3 at s3 eT hD3 s13 ⊢
    refine ⟨rfl,_,rfl,rfl,_,rfl,?_⟩
    cases o with
    | some u =>
      refine iteF ⟨_,⟨s13,rfl⟩,?_⟩
      rw [waitsUp_snoc hb ho]
      show H3 D=some (HO.lst ((waitsUp c now j++[]).map V.str))
      rw [List.append_nil]
      exact hD3
    | none =>
      refine iteT ⟨_,rfl,z,_,_,_,rfl,rfl,SqT.of (s13 _ _ hz),rfl,_,hD3,?_,_,⟨s13.upd hD _,rfl⟩,?_⟩
      · rw [List.length_map]
        have:=waitsUp_len c now j
        exact small1000 (by omega)
      · rw [waitsUp_snoc hb ho,List.map_append]
        exact upd_same
  · rintro zs H2 ⟨s2,rfl⟩ hD2
    rw [List.length_map,hnl,hbl,Nat.min_self] at hD2
    exact q H2 D now (s1.trans s2) (s1.free hD) hD2 fx
end
end K43
namespace K43
open PySem L2
theorem high (l:List (Option Int)):∃ B:Int,∀ v,some v∈l→v≤B:=by
  induction l with
  | nil=>exact ⟨0,fun v h=>by cases h⟩
  | cons o r ih =>
    obtain ⟨B,hB⟩:=ih
    cases o with
    | none=>exact ⟨B,fun v h=>by
        rcases List.mem_cons.mp h with z | z
        · cases z
        · exact hB v z⟩
    | some d=>exact ⟨max B d,fun v h=>by
        rcases List.mem_cons.mp h with z | z
        · have:=Option.some.inj z
          omega
        · have:=hB v z
          omega⟩
theorem due_exists (bs:List (Option Int)) {n:Int} (hn:1≤n):∃ o,Due bs n o:=by
  by_cases ht:(tot bs:Int)<n
  · exact ⟨none,ht⟩
  obtain ⟨B,hB⟩:=low bs
  obtain ⟨T,hT⟩:=high bs
  have c0:cnt bs (B - 1)=0:=List.countP_eq_zero.mpr fun o ho z=>by
    cases o with
    | none=>cases z
    | some d =>
      have h1:d≤B - 1:=of_decide_eq_true z
      have:=hB d ho
      omega
  have c1:cnt bs T=tot bs:=by
    refine Nat.le_antisymm (cnt_tot bs T) (List.countP_mono_left fun o ho z=>?_)
    cases o with
    | none=>cases z
    | some d=>exact decide_eq_true (hT d ho)
  have go:∀ m:Nat,n≤(cnt bs (B - 1+m):Int)→∃ v,Due bs n (some v):=by
    intro m
    induction m with
    | zero=>intro h; rw [show B - 1+((0:Nat):Int)=B - 1 by omega,c0] at h; omega
    | succ m ih =>
      intro h
      by_cases h':n≤(cnt bs (B - 1+m):Int)
      · exact ih h'
      · exact ⟨B - 1+(m+1:Nat),h,by rw [show B - 1+((m+1:Nat):Int) - 1=B - 1+m by omega]; omega⟩
  obtain ⟨v,hv⟩:=go (T - B+1).toNat (by
    have:=cnt_mono bs (show T≤B - 1+((T - B+1).toNat:Int) by omega)
    omega)
  exact ⟨some v,hv⟩
def Wanted (c:List Bell):Prop:=∀ (k:Nat) b,c[k]?=some b→1≤wants b
theorem least_of {p:Nat→Int→Prop} (hu:∀ k v v',p k v→p k v'→v=v'):∀ m:Nat,(∃ k v,k<m∧p k v)→∃ k v,k<m∧p k v∧∀ k' v',k'<m→p k' v'→v≤v'
  | 0,⟨_,_,h,_⟩=>absurd h (Nat.not_lt_zero _)
  | m+1,h=>by
    by_cases h1:∃ k v,k<m∧p k v
    · obtain ⟨k,v,hk,hp,hl⟩:=least_of hu m h1
      by_cases h2:∃ v',p m v'∧v'<v
      · obtain ⟨v',hv',hlt⟩:=h2
        refine ⟨m,v',by omega,hv',fun k2 v2 hk2 hp2=>?_⟩
        rcases Nat.lt_or_ge k2 m with z | z
        · have:=hl k2 v2 z hp2; omega
        · have e:k2=m:=by omega
          subst e
          rw [hu k2 v' v2 hv' hp2]
          exact Int.le_refl _
      · refine ⟨k,v,by omega,hp,fun k2 v2 hk2 hp2=>?_⟩
        rcases Nat.lt_or_ge k2 m with z | z
        · exact hl k2 v2 z hp2
        · have e:k2=m:=by omega
          subst e
          exact Int.not_lt.mp fun z=>h2 ⟨v2,hp2,z⟩
    · obtain ⟨k,v,hk,hp⟩:=h
      have e:k=m:=by
        rcases Nat.lt_or_ge k m with z | z
        · exact absurd ⟨k,v,z,hp⟩ h1
        · omega
      subst e
      refine ⟨k,v,by omega,hp,fun k2 v2 hk2 hp2=>?_⟩
      rcases Nat.lt_or_ge k2 k with z | z
      · exact absurd ⟨k2,v2,z,hp2⟩ h1
      · have e:k2=k:=by omega
        subst e
        rw [hu k2 v v2 hp hp2]
        exact Int.le_refl _
theorem nones_set {now:List (Option Int)} {k:Nat} {v:Int} (h:now[k]?=some none):(now.set k (some v)).countP (fun o=>o.isNone)+1=now.countP (fun o=>o.isNone):=by
  induction now generalizing k with
  | nil=>cases h
  | cons o r ih =>
    cases k with
    | zero =>
      have e:o=none:=by simpa using h
      subst e
      rw [List.set_cons_zero,List.countP_cons,List.countP_cons]
      rfl
    | succ k =>
      have:=ih (k:=k) (by simpa using h)
      rw [List.set_cons_succ,List.countP_cons,List.countP_cons]
      omega
theorem fix_exists {c:List Bell} (hc:Slow c) (hw:Wanted c) (before:List (Option Int)):∃ now,Fix c before now:=by
  have go:∀ (m:Nat) (now:List (Option Int)),now.countP (fun o=>o.isNone)=m→Going c before now→∃ now,Fix c before now:=by
    intro m
    induction m with
    | zero =>
      intro now h0 g
      refine ⟨now,going_end g fun k b _ hn=>?_⟩
      exact absurd rfl (List.countP_eq_zero.mp h0 none (List.mem_of_getElem? hn))
    | succ m ih =>
      intro now hm g
      let p:Nat→Int→Prop:=fun k v=>∃ b,c[k]?=some b∧now[k]?=some none∧Due (comesOf b before now) (wants b) (some v)
      by_cases hp:∃ k v,k<c.length∧p k v
      · obtain ⟨k,v,hk,⟨b,hb,hn,hd⟩,hl⟩:=least_of (p:=p) (fun k v v' ⟨b,hb,_,h1⟩ ⟨b',hb',_,h2⟩=>by
          rw [hb] at hb'
          cases hb'
          exact Option.some.inj (due_unique h1 h2)) c.length hp
        refine ih (now.set k (some v)) ?_ (going_on hc g hb hn hd fun j b' v' hj hjn hd'=>hl j v' (List.getElem?_eq_some_iff.mp hj).1 ⟨b',hj,hjn,hd'⟩)
        have:=nones_set (v:=v) hn
        omega
      · refine ⟨now,going_end g fun k b hb hn=>?_⟩
        obtain ⟨o,ho⟩:=due_exists (comesOf b before now) (hw k b hb)
        cases o with
        | none=>exact ho
        | some v=>exact absurd ⟨k,v,(List.getElem?_eq_some_iff.mp hb).1,b,hb,hn,ho⟩ hp
  exact go _ _ rfl (going_start c before)
def NW (c:List Bell):Prop:=∃ rank:Nat→Nat,∀ (k:Nat) b,c[k]?=some b→1≤wants b∧wants b≤b.lis.length∧∀ l∈b.lis,l.whom<c.length∧1≤l.beats∧(l.back=false→rank l.whom<rank k)
theorem NW.slow {c:List Bell} (h:NW c):Slow c:=fun k b hb l hl=>by
  obtain ⟨r,h⟩:=h
  exact ((h k b hb).2.2 l hl).2.1
theorem NW.wanted {c:List Bell} (h:NW c):Wanted c:=fun k b hb=>by
  obtain ⟨r,h⟩:=h
  exact (h k b hb).1
theorem nw_all {c:List Bell} (h:NW c) {before now:List (Option Int)} (hb:∀ k,k<c.length→∃ v,before[k]?=some (some v)) (f:Fix c before now):∀ k,k<c.length→∃ v,now[k]?=some (some v):=by
  obtain ⟨rank,h⟩:=h
  have go:∀ (m:Nat) (k:Nat),rank k<m→k<c.length→∃ v,now[k]?=some (some v):=by
    intro m
    induction m with
    | zero=>intro k hk; omega
    | succ m ih =>
      intro k hr hk
      have e:=List.getElem?_eq_getElem hk
      obtain ⟨o,ho,hd⟩:=f.2 k _ e
      cases o with
      | some v=>exact ⟨v,ho⟩
      | none =>
        exfalso
        have h1:(tot (comesOf c[k] before now):Int)<wants c[k]:=hd
        obtain ⟨w1,w2,w3⟩:=h k _ e
        have:tot (comesOf c[k] before now)=c[k].lis.length:=by
          unfold comesOf
          rw [tot_map]
          refine List.countP_eq_length.mpr fun l hl=>?_
          obtain ⟨l1,l2,l3⟩:=w3 l hl
          have:∃ v,(if l.back then before else now)[l.whom]?=some (some v):=by
            cases hbk:l.back with
            | true=>exact hb _ l1
            | false=>exact ih l.whom (by have:=l3 hbk; omega) l1
          obtain ⟨v,hv⟩:=this
          rw [come_of hv]
          rfl
        omega
  exact fun k hk=>go (rank k+1) k (by omega) hk
theorem all_some:∀ {l:List (Option Int)},(∀ k,k<l.length→∃ v,l[k]?=some (some v))→∃ r:List Int,l=r.map some
  | [],_=>⟨[],rfl⟩
  | o::l,h=>by
    obtain ⟨v,hv⟩:=h 0 (by simp)
    have e:o=some v:=by simpa using hv
    obtain ⟨r,hr⟩:=all_some (l:=l) fun k hk=>by
      obtain ⟨u,hu⟩:=h (k+1) (by simpa using hk)
      exact ⟨u,by simpa using hu⟩
    exact ⟨v::r,by rw [e,hr]; rfl⟩
theorem some_all {r:List Int} {k:Nat} (h:k<r.length):∃ v,(r.map some)[k]?=some (some v):=⟨r[k],by rw [List.getElem?_map,List.getElem?_eq_getElem h]; rfl⟩
structure SeqR (c:List Bell) (R:Nat→List Int):Prop where
  first:R 0=c.map (·.start)
  next:∀ n,Fix c ((R n).map some) ((R (n+1)).map some)
theorem SeqR.len {c:List Bell} {R:Nat→List Int} (h:SeqR c R) (n:Nat):(R n).length=c.length:=by
  cases n with
  | zero=>rw [h.first,List.length_map]
  | succ n=>have:=(h.next n).1; rwa [List.length_map] at this
theorem next_row {c:List Bell} (h:NW c) (r:List Int) (hl:r.length=c.length):∃ r':List Int,r'.length=c.length∧Fix c (r.map some) (r'.map some):=by
  obtain ⟨now,f⟩:=fix_exists h.slow h.wanted (r.map some)
  obtain ⟨r',hr'⟩:=all_some fun k hk=>nw_all h (fun k hk=>some_all (by omega)) f k (by rw [← f.1]; exact hk)
  subst hr'
  exact ⟨r',by have:=f.1; rwa [List.length_map] at this,f⟩
theorem seq_exists {c:List Bell} (h:NW c):∃ R,SeqR c R:=by
  have nx:∀ r:{ r:List Int // r.length=c.length },∃ r':{ r:List Int // r.length=c.length },Fix c (r.1.map some) (r'.1.map some):=fun r=>by
    obtain ⟨r',h1,h2⟩:=next_row h r.1 r.2
    exact ⟨⟨r',h1⟩,h2⟩
  let S:Nat→{ r:List Int // r.length=c.length }:=fun n=>Nat.rec ⟨c.map (·.start),List.length_map _⟩ (fun _ r=>Classical.choose (nx r)) n
  exact ⟨fun n=>(S n).1,rfl,fun n=>Classical.choose_spec (nx (S n))⟩
theorem seq_rows {c:List Bell} (hc:Slow c) {R:Nat→List Int} (h:SeqR c R) {rows:List (List (Option Int))} (hr:Rows c rows):∀ (n:Nat) row,rows[n]?=some row→row=(R n).map some:=by
  intro n
  induction n with
  | zero =>
    intro row e
    rw [hr.first row e,h.first,List.map_map]
    rfl
  | succ n ih =>
    intro row e
    have hn:n<rows.length:=by have:=(List.getElem?_eq_some_iff.mp e).1; omega
    have e0:=List.getElem?_eq_getElem hn
    have f:=hr.next n _ row e0 e
    rw [ih _ e0] at f
    exact fix_unique hc f (h.next n)
def Sh (R:Nat→List Int) (f l:Nat) (d:Int):Prop:=R l=(R f).map (·+d)
theorem Sh.trans {R:Nat→List Int} {a b e:Nat} {x y:Int} (h:Sh R a b x) (h':Sh R b e y):Sh R a e (x+y):=by
  unfold Sh at h h' ⊢
  rw [h',h,List.map_map]
  exact List.map_congr_left fun v _=>by show v+x+y=v+(x+y); omega
theorem Sh.refl (R:Nat→List Int) (a:Nat):Sh R a a 0:=by
  unfold Sh
  have e:(fun v:Int=>v+0)=id:=funext fun v=>Int.add_zero v
  rw [e,List.map_id]
theorem later_map (r:List Int) (d:Int):later d (r.map some)=(r.map (·+d)).map some:=by
  unfold later
  rw [List.map_map,List.map_map]
  rfl
theorem map_some_inj {x y:List Int} (h:x.map some=y.map some):x=y:=List.map_inj_right (fun _ _ e=>Option.some.inj e) |>.mp h
theorem Sh.on {c:List Bell} (hc:Slow c) {R:Nat→List Int} (s:SeqR c R) {f l:Nat} {d:Int} (h:Sh R f l d):Sh R (f+1) (l+1) d:=by
  have f1:=fix_later d (s.next f)
  rw [later_map,later_map] at f1
  have f2:=s.next l
  rw [show R l=(R f).map (·+d) from h] at f2
  exact map_some_inj (fix_unique hc f2 f1)
theorem Sh.far {c:List Bell} (hc:Slow c) {R:Nat→List Int} (s:SeqR c R) {f l:Nat} {d:Int} (h:Sh R f l d):∀ t,Sh R (f+t) (l+t) d
  | 0=>h
  | t+1=>(Sh.far hc s h t).on hc s
theorem Sh.times {c:List Bell} (hc:Slow c) {R:Nat→List Int} (s:SeqR c R) {f p:Nat} {d:Int} (h:Sh R f (f+p) d):∀ t:Nat,Sh R f (f+t * p) (t * d)
  | 0=>by
    rw [Nat.zero_mul,show ((0:Nat):Int) * d=0 by simp]
    exact Sh.refl R f
  | t+1=>by
    have a:=Sh.times hc s h t
    have b:=Sh.far hc s h (t * p)
    have e:=a.trans b
    rw [show f+p+t * p=f+(t+1) * p by rw [Nat.succ_mul]; omega,show (t:Int) * d+d=((t+1:Nat):Int) * d by rw [Int.natCast_add,Int.add_mul]; simp] at e
    exact e
def NoSh (R:Nat→List Int) (f l:Nat):Prop:=∀ d,¬ Sh R f l d
def RoundIs (R:Nat→List Int) (most:Nat):Option (Nat×Nat×Int)→Prop
  | none=>∀ f l,f<l→l≤most→NoSh R f l
  | some (f,p,d)=>1≤p∧f+p≤most∧Sh R f (f+p) d∧(∀ f' l,f'<f→f'<l→l≤most→NoSh R f' l)∧∀ l,f<l→l<f+p→NoSh R f l
end K43
namespace K43
open PySem L2
end K43
namespace K43
open PySem L2
structure GoodN (c:List Bell):Prop where
  c1:1≤c.length
  c6:c.length≤6
  b:∀ (k:Nat) b,c[k]?=some b→1≤b.lis.length∧b.lis.length≤6∧0≤b.start∧b.start≤1000∧GoodR b.lis.length b.rule∧∀ l∈b.lis,l.whom<c.length∧1≤l.beats∧l.beats≤1000
  rk:∃ rank:Nat→Nat,∀ (k:Nat) b,c[k]?=some b→∀ l∈b.lis,l.back=false→rank l.whom<rank k
def tRot (at_ m:Nat) (b:Bell):Bell:={ b with lis:=b.lis.map fun l=>{ l with whom:=(l.whom+m - at_) % m } }
def rotC (at_:Nat) (c:List Bell):List Bell:=(c.drop at_++c.take at_).map (tRot at_ c.length)
theorem rot_len (at_:Nat) (c:List Bell):(rotC at_ c).length=c.length:=by
  unfold rotC
  rw [List.length_map,List.length_append,List.length_drop,List.length_take]
  omega
theorem cut_at {α:Type} {at_ k:Nat} {c:List α} {x:α} (h:at_<c.length) (e:(c.drop at_++c.take at_)[k]?=some x):c[(k+at_) % c.length]?=some x:=by
  have hk:k<c.length:=by
    have:=(List.getElem?_eq_some_iff.mp e).1
    rw [List.length_append,List.length_drop,List.length_take] at this
    omega
  by_cases h1:k<c.length - at_
  · rw [List.getElem?_append_left (by rw [List.length_drop]; exact h1),List.getElem?_drop] at e
    rw [Nat.mod_eq_of_lt (by omega),Nat.add_comm]
    exact e
  · rw [List.getElem?_append_right (by rw [List.length_drop]; omega),List.length_drop,List.getElem?_take] at e
    split at e
    · have:(k+at_) % c.length=k - (c.length - at_):=by
        rw [Nat.mod_eq_sub_mod (by omega),Nat.mod_eq_of_lt (by omega)]
        omega
      rw [this]
      exact e
    · cases e
theorem turn_back {w m a:Nat} (hw:w<m) (ha:a<m):((w+m - a) % m+a) % m=w:=by
  by_cases h:a≤w
  · have:(w+m - a) % m=w - a:=by
      rw [show w+m - a=(w - a)+m by omega,Nat.add_mod_right,Nat.mod_eq_of_lt (by omega)]
    rw [this,show w - a+a=w by omega,Nat.mod_eq_of_lt hw]
  · have:(w+m - a) % m=w+m - a:=Nat.mod_eq_of_lt (by omega)
    rw [this,show w+m - a+a=w+m by omega,Nat.add_mod_right,Nat.mod_eq_of_lt hw]
theorem rot_inv {at_ k:Nat} {c:List Bell} {b:Bell} (h:at_<c.length) (e:(rotC at_ c)[k]?=some b):∃ b0,c[(k+at_) % c.length]?=some b0∧b=tRot at_ c.length b0:=by
  unfold rotC at e
  rw [List.getElem?_map] at e
  cases e1:(c.drop at_++c.take at_)[k]? with
  | none=>rw [e1] at e; cases e
  | some b0=>rw [e1] at e; exact ⟨b0,cut_at h e1,(Option.some.inj e).symm⟩
theorem GoodN.rot {c:List Bell} (g:GoodN c) {at_:Nat} (h:at_<c.length):GoodN (rotC at_ c) where
  c1:=by rw [rot_len]; exact g.c1
  c6:=by rw [rot_len]; exact g.c6
  b:=fun k b e=>by
    obtain ⟨b0,e0,rfl⟩:=rot_inv h e
    obtain ⟨h1,h2,h3,h4,h5,h6⟩:=g.b _ b0 e0
    have el:(tRot at_ c.length b0).lis.length=b0.lis.length:=List.length_map _
    refine ⟨by rw [el]; exact h1,by rw [el]; exact h2,h3,h4,by rw [el]; exact h5,fun l hl=>?_⟩
    obtain ⟨l0,hl0,rfl⟩:=List.mem_map.mp hl
    obtain ⟨z1,z2,z3⟩:=h6 l0 hl0
    exact ⟨by rw [rot_len]; exact Nat.mod_lt _ (by omega),z2,z3⟩
  rk:=by
    obtain ⟨rank,hr⟩:=g.rk
    refine ⟨fun k=>rank ((k+at_) % c.length),fun k b e l hl hb=>?_⟩
    obtain ⟨b0,e0,rfl⟩:=rot_inv h e
    obtain ⟨l0,hl0,rfl⟩:=List.mem_map.mp hl
    have hw:=((g.b _ b0 e0).2.2.2.2.2 l0 hl0).1
    have:=hr _ b0 e0 l0 hl0 hb
    show rank (((l0.whom+c.length - at_) % c.length+at_) % c.length)<rank ((k+at_) % c.length)
    rw [turn_back hw h]
    exact this
def ringL (k m:Nat):List Lis→List Lis
  | []=>[]
  | l::r=>⟨(k+1) % m,l.beats,true⟩::r
def ringB (k m:Nat) (b:Bell):Bell:={ b with lis:=ringL k m b.lis }
def ringC (c:List Bell):List Bell:=c.mapIdx fun k b=>ringB k c.length b
theorem ringL_len (k m:Nat) (ls:List Lis):(ringL k m ls).length=ls.length:=by cases ls <;> rfl
theorem ring_inv {c:List Bell} {k:Nat} {b:Bell} (e:(ringC c)[k]?=some b):∃ b0,c[k]?=some b0∧b=ringB k c.length b0:=by
  unfold ringC at e
  rw [List.getElem?_mapIdx] at e
  cases e1:c[k]? with
  | none=>rw [e1] at e; cases e
  | some b0=>rw [e1] at e; exact ⟨b0,rfl,(Option.some.inj e).symm⟩
theorem ring_mem {k m:Nat} {ls:List Lis} {l:Lis} (h:l∈ringL k m ls):l∈ls∨∃ l0∈ls,l=⟨(k+1) % m,l0.beats,true⟩:=by
  cases ls with
  | nil=>cases h
  | cons l0 r =>
    rcases List.mem_cons.mp h with z | z
    · exact .inr ⟨l0,by simp,z⟩
    · exact .inl (List.mem_cons_of_mem _ z)
theorem ring_len (c:List Bell):(ringC c).length=c.length:=List.length_mapIdx
theorem GoodN.ring {c:List Bell} (g:GoodN c):GoodN (ringC c) where
  c1:=by rw [ring_len]; exact g.c1
  c6:=by rw [ring_len]; exact g.c6
  b:=fun k b e=>by
    obtain ⟨b0,e0,rfl⟩:=ring_inv e
    obtain ⟨h1,h2,h3,h4,h5,h6⟩:=g.b _ b0 e0
    have el:(ringB k c.length b0).lis.length=b0.lis.length:=ringL_len _ _ _
    refine ⟨by rw [el]; exact h1,by rw [el]; exact h2,h3,h4,by rw [el]; exact h5,fun l hl=>?_⟩
    rw [ring_len]
    rcases ring_mem hl with z | ⟨l0,z,rfl⟩
    · exact h6 l z
    · obtain ⟨_,z2,z3⟩:=h6 l0 z
      exact ⟨Nat.mod_lt _ (by have:=g.c1; omega),z2,z3⟩
  rk:=by
    obtain ⟨rank,hr⟩:=g.rk
    refine ⟨rank,fun k b e l hl hb=>?_⟩
    obtain ⟨b0,e0,rfl⟩:=ring_inv e
    rcases ring_mem hl with z | ⟨l0,z,rfl⟩
    · exact hr k b0 e0 l z hb
    · cases hb
theorem wants_le' {b:Bell} (h1:1≤b.lis.length) (h:GoodR b.lis.length b.rule):1≤wants b∧wants b≤b.lis.length:=by
  unfold wants
  cases hr:b.rule with
  | all=>exact ⟨by show (1:Int)≤(b.lis.length:Int); omega,Int.le_refl _⟩
  | any=>exact ⟨Int.le_refl _,by show (1:Int)≤(b.lis.length:Int); omega⟩
  | num n=>rw [hr] at h; exact h
theorem GoodN.nw {c:List Bell} (g:GoodN c):NW c:=by
  obtain ⟨rank,hr⟩:=g.rk
  refine ⟨rank,fun k b e=>?_⟩
  obtain ⟨h1,h2,h3,h4,h5,h6⟩:=g.b _ b e
  obtain ⟨w1,w2⟩:=wants_le' h1 h5
  exact ⟨w1,w2,fun l hl=>⟨(h6 l hl).1,(h6 l hl).2.1,hr k b e l hl⟩⟩
theorem emod_next (i m:Nat):((i:Int)+1) % (m:Int)=(((i+1) % m:Nat):Int):=by
  rw [Int.natCast_emod,Int.natCast_add]
  rfl
theorem emod_turn {w a m:Nat} (h:a≤m):((w:Int) - a) % (m:Int)=(((w+m - a) % m:Nat):Int):=by
  rw [Int.natCast_emod,show ((w+m - a:Nat):Int)=(w:Int) - a+m by omega,Int.add_emod_right]
theorem rot_at {at_ k:Nat} {c:List Bell} {b:Bell} (e:(c.drop at_++c.take at_)[k]?=some b):(rotC at_ c)[k]?=some (tRot at_ c.length b):=by
  unfold rotC
  rw [List.getElem?_map,e]
  rfl
theorem paired_app {α β:Type} {F:α→β→Prop}:∀ {xs xs':List α} {ys ys':List β},Paired F xs ys→Paired F xs' ys'→Paired F (xs++xs') (ys++ys')
  | _,_,_,_,.nil,h=>h
  | _,_,_,_,.cons r t,h=>.cons r (paired_app t h)
theorem paired_drop {α β:Type} {F:α→β→Prop}:∀ (n:Nat) {xs:List α} {ys:List β},Paired F xs ys→Paired F (xs.drop n) (ys.drop n)
  | 0,_,_,h=>h
  | _+1,_,_,.nil=>.nil
  | n+1,_,_,.cons _ t=>paired_drop n t
theorem paired_take {α β:Type} {F:α→β→Prop}:∀ (n:Nat) {xs:List α} {ys:List β},Paired F xs ys→Paired F (xs.take n) (ys.take n)
  | 0,_,_,_=>.nil
  | _+1,_,_,.nil=>.nil
  | n+1,_,_,.cons r t=>.cons r (paired_take n t)
end K43
namespace K43
open PySem L2
theorem goodN_of {c:List Bell} (h:GoodC false c) (h1:1≤c.length) (h6:c.length≤6):GoodN c where
  c1:=h1
  c6:=h6
  b:=fun k b e=>by
    have g:=h.1 k b e
    exact ⟨g.n1,g.n6,g.s0,g.s1,g.r,fun l hl=>⟨(g.l l hl).1,(g.l l hl).2.1,(g.l l hl).2.2.1⟩⟩
  rk:=⟨fun k=>k,fun k b e l hl hb=>((h.1 k b e).l l hl).2.2.2 rfl hb⟩
theorem GoodN.fine {c:List Bell} (g:GoodN c):Fine c:=⟨g.c6,fun k b e=>by
  obtain ⟨h1,h2,h3,h4,h5,h6⟩:=g.b k b e
  exact ⟨h1,by omega,h5,fun l hl=>⟨(h6 l hl).1,(h6 l hl).2.1⟩⟩⟩
section
variable {P:Program} {w:World} {K:PySem.W.Frag} {mg:Str→Option Value} {base:Heap} {f:Addr} {fd:FuncData}
def sp_about (_:PySem.W.Frag):Sp:=fun vs H Q _=>∃ (ch:V) (c:List Bell),vs=[ch]∧ChoirAt H ch c∧GoodN c∧∀ v H',Same H H'→ChoirAt H' v (ringC c)→Q v H'
theorem sc_about:FnScope ["_law_choir_here","_law_bells","_law_k","_law_ring","_law_name_here","_law_start","_law_rule_here","_law_listenings"] ["_law_choir_here"] (defScope s_about):=⟨rfl,rfl,rfl,by decide +kernel,rfl,by decide +kernel,by decide +kernel⟩
theorem ringC_at {c:List Bell} {k:Nat} {b:Bell} (e:c[k]?=some b):(ringC c)[k]?=some (ringB k c.length b):=by
  unfold ringC
  rw [List.getElem?_mapIdx,e]
  rfl
theorem cut_from1 (x:V) (xs:List V):cutV (x::xs) (some 1) none=xs:=by
  unfold cutV
  have e:HT.sIx (x::xs).length 0 (some 1)=1:=by
    have:=HT.sIx_nat (x::xs).length 0 1
    rw [List.length_cons] at this ⊢
    exact this.trans (by omega)
  rw [e,HT.sIx_none]
  simp
theorem ok_about (F:Fun K "_law_about" "_law_about" s_about f fd) (B:Blt mg):FnOk P w K mg base CX0 1 f fd ["_law_choir_here"] (sp_about K):=by
  refine F.ok sc_about (fun vs H Q E h=>?_) (fun cdv A outer s H vs Q E hr h=>?_)
  · obtain ⟨ch,c,rfl,_⟩:=h
    rfl
  obtain ⟨ch,c,rfl,⟨a,bs,rfl,ha,prb⟩,g,q⟩:=h
  refine ⟨_,(pss_cons (ps_set (i:=1) sc_about.nd rfl (Or.inl rfl) (pe_lst pa_nil))
    (pss_cons (ps_for PassesOwn.never rfl (pi_range1 rfl B.range_ (pa_cons (pe_callB call_len_seq rfl B.len_ PySem.boot_len (pa_cons (pv 0) pa_nil)) pa_nil)) (pg_name (i:=2) sc_about.nd rfl (Or.inl rfl))
    (pss_cons (ps_asg (pe_ix ix_tup (pv 0) (pv 2) (fun _ _=>rfl)) (pg_tup rfl (pgs_cons (pg_name (i:=4) sc_about.nd rfl (Or.inl rfl)) (pgs_cons (pg_name (i:=5) sc_about.nd rfl (Or.inl rfl)) (pgs_cons (pg_name (i:=6) sc_about.nd rfl (Or.inl rfl)) (pgs_cons (pg_name (i:=7) sc_about.nd rfl (Or.inl rfl)) pgs_nil))))))
    (pss_cons (ps_set (i:=3) sc_about.nd rfl (Or.inl rfl) (pe_tup (pa_cons (pe_op op_mod (pe_op op_add (pv 2) pe_int) (pe_callB call_len_seq rfl B.len_ PySem.boot_len (pa_cons (pv 0) pa_nil))) (pa_cons (pe_ix ix_tup (pe_ix ix_tup (pv 7) pe_int (fun _ _=>rfl)) pe_int (fun _ _=>rfl)) (pa_cons pe_int pa_nil)))))
    (pss_one (ps_expr (pe_bm PySem.F.plainAttrs_list PySem.F.slot_list_append PySem.F.type_list_append mt_append (pv 1) (pa_cons (pe_tup (pa_cons (pv 4) (pa_cons (pv 5) (pa_cons (pv 6) (pa_cons (pe_op op_catS (pe_tup (pa_cons (pv 3) pa_nil)) (pe_slice sl_tupS (pv 7) (po_some pe_int) po_none)) pa_nil))))) pa_nil)))))))
    (pss_one (ps_ret (pe_callTy call_tuple_of rfl B.tuple_ PyProof.Rows.boot_tuple (pa_cons (pv 1) pa_nil)))))),?_⟩
  have hbl:=paired_len prb
  have c6:=g.c6
  refine ⟨(by show 0≤sizeLine; decide),fun l hl=>?_⟩
  have s1:Same H (upd H l (.lst [])):=same_new hl _
  refine ⟨_,rfl,a,_,rfl,.inr (SqT.of (s1 _ _ ha)),(bs.length:Int),rfl,by omega,by omega,?_⟩
  refine for_range (lo:=0) (n:=((bs.length:Nat):Int).toNat) (fun i σ H2=>∃ (vs:List V) (o2 o3 o4 o5 o6 o7:Option V),σ=[some (.ref a),some (.ref l),o2,o3,o4,o5,o6,o7]∧Same H H2∧H2 l=some (.lst vs)∧Paired (BellAt H2) vs ((ringC c).take i))
    ⟨[],none,none,none,none,none,none,rfl,s1,upd_same,.nil⟩ ?_ ?_
  · rintro i σ H2 hi ⟨vs,o2,o3,o4,o5,o6,o7,rfl,s2,hl2,pr2⟩
    have hic:i<c.length:=by omega
    rw [Int.zero_add]
    have hb:=List.getElem?_eq_getElem hic
    obtain ⟨v,hv,hbv⟩:=paired_at' prb hb
    have gb:=g.b i _ hb
    generalize c[i]=b at hb hbv gb
    obtain ⟨x,t,ls,rfl,hx,ht,prl⟩:=id hbv
    have ha2:=s2 _ _ ha
    have ht2:=s2 _ _ ht
    obtain ⟨name,start,rule,lis⟩:=b
    obtain ⟨l0,lr,rfl⟩:∃ l0 lr,lis=l0::lr:=by
      cases lis with
      | nil=>exact absurd gb.1 (by show ¬ 1≤0; omega)
      | cons l0 lr=>exact ⟨l0,lr,rfl⟩
    obtain ⟨lv,lvs,rfl,hlv,prl'⟩:∃ lv lvs,ls=lv::lvs∧LisAt H lv l0∧Paired (LisAt H) lvs lr:=by
      cases prl with
      | cons r t=>exact ⟨_,_,rfl,r,t⟩
    obtain ⟨la,rfl,hla⟩:=id hlv
    refine ⟨_,rfl,_,rfl,a,_,_,_,rfl,rfl,SqT.of ha2,atI_nat hv,x,_,rfl,SqT.of (s2 _ _ hx),rfl,_,_,rfl,_,_,rfl,_,_,rfl,_,_,rfl,rfl,?_⟩
    refine ⟨_,rfl,_,_,rfl,rfl,_,rfl,a,_,rfl,.inr (SqT.of ha2),_,_,rfl,rfl,(by show (0:Int)<(bs.length:Int); omega),_,rfl,t,_,_,_,rfl,rfl,SqT.of ht2,atI_nat (j:=0) rfl,la,_,_,_,rfl,rfl,SqT.of (s2 _ _ hla),atI_nat (j:=1) rfl,(by show 3≤sizeLine; decide),fun T1 hT1=>?_⟩
    have em:((i:Int)+1) % ((bs.length:Nat):Int)=(((i+1) % c.length:Nat):Int):=by rw [hbl]; exact emod_next i c.length
    have s3:=s2.trans (same_new hT1 (.tup [.int (((i:Int)+1) % ((bs.length:Nat):Int)),.int l0.beats,.int 1]))
    have hT13:(upd H2 T1 (.tup [.int (((i:Int)+1) % ((bs.length:Nat):Int)),.int l0.beats,.int 1])) T1=some (.tup (lisV ⟨(i+1) % c.length,l0.beats,true⟩)):=by rw [em]; exact upd_same
    have hl3:=(same_new hT1 (.tup [.int (((i:Int)+1) % ((bs.length:Nat):Int)),.int l0.beats,.int 1])) _ _ hl2
    have pr3:Paired (BellAt (upd H2 T1 (.tup [.int (((i:Int)+1) % ((bs.length:Nat):Int)),.int l0.beats,.int 1]))) vs ((ringC c).take i):=paired_imp (fun _ _ z=>z.mono (Same.tup (same_new hT1 _))) pr2
    generalize upd H2 T1 (.tup [.int (((i:Int)+1) % ((bs.length:Nat):Int)),.int l0.beats,.int 1])=H3 at s3 hT13 hl3 pr3 ⊢
    refine ⟨_,rfl,.inl ⟨rfl,_,SqL.of hl3⟩,_,rfl,_,rfl,_,rfl,_,rfl,(by show 1≤sizeLine; decide),fun T2 hT2=>?_⟩
    have s4:=same_new hT2 (.tup [.ref T1])
    have hT24:=upd_same (H:=H3) (a:=T2) (o:=.tup [.ref T1])
    generalize upd H3 T2 (.tup [.ref T1])=H4 at s4 hT24 ⊢
    refine ⟨_,rfl,1,rfl,t,_,rfl,s4 _ _ (s3 _ _ ht),fun p H5 s5 hp=>?_⟩
    rw [cut_from1] at hp
    have h6:lvs.length≤6:=by
      have e1:=paired_len prl'
      have e2:=gb.2.1
      simp only [List.length_cons] at e2
      omega
    refine ⟨T2,p,_,_,rfl,rfl,s5 _ _ hT24,hp,(by intro z; cases z),by show 1+lvs.length≤sizeLine; exact Nat.le_of_lt (small1000 (by omega)),fun p2 H6 s6 hp2=>?_⟩
    refine ⟨(by show 4≤sizeLine; decide),fun T3 hT3=>?_⟩
    have s36:Same H3 H6:=(s4.trans s5).trans s6
    have hl6:=s36 _ _ hl3
    have s7:=same_new hT3 (.tup [.str name,.int start,rwV rule,.ref p2])
    have hl7:=s7 _ _ hl6
    refine ⟨l,_,_,rfl,rfl,hl7,by rw [paired_len pr3,List.length_take]; exact small1000 (by omega),?_⟩
    have t8:TupS (upd H6 T3 (.tup [.str name,.int start,rwV rule,.ref p2])) (upd (upd H6 T3 (.tup [.str name,.int start,rwV rule,.ref p2])) l (.lst (vs++[.ref T3]))):=tup_upd fun xs e=>by rw [hl7] at e; cases e
    refine ⟨_,_,_,_,_,_,_,rfl,(s3.trans (s36.trans s7)).upd hl _,upd_same,?_⟩
    have t38:TupS H3 (upd (upd H6 T3 (.tup [.str name,.int start,rwV rule,.ref p2])) l (.lst (vs++[.ref T3]))):=(Same.tup (s36.trans s7)).trans t8
    rw [take_snoc (ringC_at hb)]
    refine paired_snoc ?_ (paired_imp (fun _ _ z=>z.mono t38) pr3)
    refine ⟨T3,p2,_,rfl,t8 _ _ upd_same,t8 _ _ (s7 _ _ hp2),?_⟩
    exact .cons ⟨T1,rfl,t38 _ _ hT13⟩ (paired_imp (fun _ _ z=>(z.mono (Same.tup s3)).mono t38) prl')
  · rintro σ H2 ⟨vs,o2,o3,o4,o5,o6,o7,rfl,s2,hl2,pr2⟩
    rw [List.take_of_length_le (by rw [ring_len]; omega)] at pr2
    refine ⟨_,rfl,l,_,rfl,.inl ⟨SqL.of hl2,fun T hT=>?_⟩⟩
    have u:=same_new hT (.tup vs)
    exact q (.ref T) _ (s2.trans u) ⟨T,vs,rfl,upd_same,paired_imp (fun _ _ z=>z.mono (Same.tup u)) pr2⟩
end
end K43
namespace K43
open PySem L2
theorem cut_from {xs:List V} {k:Nat} (h:k≤xs.length):cutV xs (some (k:Int)) none=xs.drop k:=by
  unfold cutV
  rw [HT.sIx_nat,HT.sIx_none,Nat.min_eq_left h,List.take_of_length_le (by rw [List.length_drop]; exact Nat.le_refl _)]
theorem cut_to {xs:List V} {k:Nat} (h:k≤xs.length):cutV xs none (some (k:Int))=xs.take k:=by
  unfold cutV
  rw [HT.sIx_nat,HT.sIx_none,Nat.min_eq_left h,List.drop_zero,Nat.sub_zero]
section
variable {P:Program} {w:World} {K:PySem.W.Frag} {mg:Str→Option Value} {base:Heap} {f:Addr} {fd:FuncData}
def sp_turned (_:PySem.W.Frag):Sp:=fun vs H Q _=>∃ (ch:V) (c:List Bell) (at_:Nat),vs=[ch,.int at_]∧ChoirAt H ch c∧GoodN c∧at_<c.length∧∀ v H',Same H H'→ChoirAt H' v (rotC at_ c)→Q v H'
theorem sc_turned:FnScope ["_law_choir_here","_law_at","_law_many","_law_bells","_law_bell","_law_others","_law_whom","_law_beats","_law_back","_law_number"] ["_law_choir_here","_law_at"] (defScope s_turned):=⟨rfl,rfl,rfl,by decide +kernel,rfl,by decide +kernel,by decide +kernel⟩
theorem ok_turned (F:Fun K "_law_turned" "_law_turned" s_turned f fd) (B:Blt mg):FnOk P w K mg base CX0 1 f fd ["_law_choir_here","_law_at"] (sp_turned K):=by
  refine F.ok sc_turned (fun vs H Q E h=>?_) (fun cdv A outer s H vs Q E hr h=>?_)
  · obtain ⟨ch,c,at_,rfl,_⟩:=h
    rfl
  obtain ⟨ch,c,at_,rfl,⟨a,bs,rfl,ha,prb⟩,g,hat,q⟩:=h
  refine ⟨_,(pss_cons (ps_set (i:=2) sc_turned.nd rfl (Or.inl rfl) (pe_callB call_len_seq rfl B.len_ PySem.boot_len (pa_cons (pv 0) pa_nil)))
    (pss_cons (ps_set (i:=3) sc_turned.nd rfl (Or.inl rfl) (pe_lst pa_nil))
    (pss_cons (ps_for PassesOwn.never rfl (pi_tup (pe_op op_catS (pe_slice sl_tupS (pv 0) (po_some (pv 1)) po_none) (pe_slice sl_tupS (pv 0) po_none (po_some (pv 1))))) (pg_name (i:=4) sc_turned.nd rfl (Or.inl rfl))
    (pss_cons (ps_set (i:=5) sc_turned.nd rfl (Or.inl rfl) (pe_lst pa_nil))
    (pss_cons (ps_for PassesOwn.never rfl (pi_tup (pe_ix ix_tup (pv 4) pe_int (fun _ _=>rfl))) (pg_tup rfl (pgs_cons (pg_name (i:=6) sc_turned.nd rfl (Or.inl rfl)) (pgs_cons (pg_name (i:=7) sc_turned.nd rfl (Or.inl rfl)) (pgs_cons (pg_name (i:=8) sc_turned.nd rfl (Or.inl rfl)) pgs_nil))))
    (pss_cons (ps_set (i:=9) sc_turned.nd rfl (Or.inl rfl) (pe_op op_mod (pe_op op_sub (pv 6) (pv 1)) (pv 2)))
    (pss_one (ps_expr (pe_bm PySem.F.plainAttrs_list PySem.F.slot_list_append PySem.F.type_list_append mt_append (pv 5) (pa_cons (pe_tup (pa_cons (pv 9) (pa_cons (pv 7) (pa_cons (pv 8) pa_nil)))) pa_nil))))))
    (pss_one (ps_expr (pe_bm PySem.F.plainAttrs_list PySem.F.slot_list_append PySem.F.type_list_append mt_append (pv 3) (pa_cons (pe_op op_catS (pe_slice sl_tupS (pv 4) po_none (po_some pe_int)) (pe_tup (pa_cons (pe_callTy call_tuple_of rfl B.tuple_ PyProof.Rows.boot_tuple (pa_cons (pv 5) pa_nil)) pa_nil))) pa_nil)))))))
    (pss_one (ps_ret (pe_callTy call_tuple_of rfl B.tuple_ PyProof.Rows.boot_tuple (pa_cons (pv 3) pa_nil))))))),?_⟩
  have hbl:=paired_len prb
  have c6:=g.c6
  refine ⟨_,rfl,a,_,rfl,.inr (SqT.of ha),?_⟩
  refine ⟨(by show 0≤sizeLine; decide),fun l hl=>?_⟩
  have s1:Same H (upd H l (.lst [])):=same_new hl _
  have hl1:=upd_same (H:=H) (a:=l) (o:=.lst [])
  generalize upd H l (.lst [])=H1 at s1 hl1 ⊢
  refine ⟨_,rfl,_,rfl,(at_:Int),rfl,a,_,rfl,s1 _ _ ha,fun p1 H2 s2 hp1=>?_⟩
  refine ⟨_,rfl,_,rfl,(at_:Int),rfl,a,_,rfl,s2 _ _ (s1 _ _ ha),fun p2 H3 s3 hp2=>?_⟩
  rw [cut_from (by omega)] at hp1
  rw [cut_to (by omega)] at hp2
  refine ⟨p1,p2,_,_,rfl,rfl,s3 _ _ hp1,hp2,?_,?_,fun p H4 s4 hp=>?_⟩
  · intro z
    have:=congrArg List.length z
    rw [List.length_drop,List.length_nil] at this
    omega
  · rw [List.length_drop,List.length_take]
    exact Nat.le_of_lt (small1000 (by omega))
  have s14:=(s2.trans s3).trans s4
  have s04:=s1.trans s14
  have hl4:=s14 _ _ hl1
  have prI:Paired (BellAt H4) (bs.drop at_++bs.take at_) (c.drop at_++c.take at_):=paired_imp (fun _ _ z=>z.mono (Same.tup s04)) (paired_app (paired_drop at_ prb) (paired_take at_ prb))
  generalize bs.drop at_++bs.take at_=items at hp prI
  have hil:=paired_len prI
  have hcl:(c.drop at_++c.take at_).length=c.length:=by rw [List.length_append,List.length_drop,List.length_take]; omega
  refine ⟨p,rfl,⟨_,SqT.of hp⟩,?_⟩
  clear s2 s3 s4 hp1 hp2 prb
  refine for_tup (K:=K) (a:=p) (xs:=items) (fun i σ H5=>∃ (vs:List V) (o4 o5 o6 o7 o8 o9:Option V),σ=[some (.ref a),some (.int at_),some (.int bs.length),some (.ref l),o4,o5,o6,o7,o8,o9]∧Same H H5∧TupS H4 H5∧H5 l=some (.lst vs)∧Paired (BellAt H5) vs ((rotC at_ c).take i))
    ⟨[],none,none,none,none,none,none,rfl,s04,TupS.refl H4,hl4,.nil⟩ (fun j σ H5 _ ⟨_,_,_,_,_,_,_,_,_,z,_⟩=>SqT.of (z _ _ hp)) ?_ ?_
  · rintro i y σ H5 hy ⟨vs,o4,o5,o6,o7,o8,o9,rfl,s5,t5,hl5,pr5⟩
    obtain ⟨b,hb,hbv⟩:=paired_at prI hy
    have hic:i<c.length:=by have:=(List.getElem?_eq_some_iff.mp hb).1; omega
    have gb:=g.b _ b (cut_at hat hb)
    obtain ⟨x,t,ls,rfl,hx,ht,prl⟩:=hbv.mono t5
    have hll:=paired_len prl
    refine ⟨(by show 0≤sizeLine; decide),fun l2 hl2=>?_⟩
    have n2:H l2=none:=s5.free hl2
    have nl:l≠l2:=fun e=>by rw [← e,hl5] at hl2; cases hl2
    have s6:=same_new hl2 (.lst [])
    have hl26:=upd_same (H:=H5) (a:=l2) (o:=.lst [])
    generalize upd H5 l2 (.lst [])=H6 at s6 hl26 ⊢
    refine ⟨_,rfl,x,_,_,_,rfl,rfl,SqT.of (s6 _ _ hx),atI_nat (j:=3) rfl,t,rfl,⟨_,SqT.of (s6 _ _ ht)⟩,?_⟩
    refine for_tup (K:=K) (a:=t) (xs:=ls) (fun j σ H7=>∃ (xs:List V) (o6 o7 o8 o9:Option V),σ=[some (.ref a),some (.int at_),some (.int bs.length),some (.ref l),some (.ref x),some (.ref l2),o6,o7,o8,o9]∧Same H H7∧TupS H6 H7∧H7 l=some (.lst vs)∧H7 l2=some (.lst xs)∧Paired (LisAt H7) xs ((tRot at_ c.length b).lis.take j))
      ⟨[],_,_,_,_,rfl,s5.trans s6,TupS.refl H6,s6 _ _ hl5,hl26,.nil⟩ (fun j σ H7 _ ⟨_,_,_,_,_,_,_,z,_⟩=>SqT.of (z _ _ (s6 _ _ ht))) ?_ ?_
    · rintro j y σ H7 hy ⟨xs,o6,o7,o8,o9,rfl,s7,t7,hl7,hl27,pr7⟩
      obtain ⟨li,hli,hlv⟩:=paired_at prl hy
      have hj6:j<b.lis.length:=(List.getElem?_eq_some_iff.mp hli).1
      obtain ⟨la,rfl,hla⟩:=(hlv.mono (Same.tup s6)).mono t7
      refine ⟨la,_,rfl,SqT.of hla,rfl,_,_,rfl,_,_,rfl,_,_,rfl,rfl,?_⟩
      refine ⟨_,rfl,_,rfl,_,_,rfl,rfl,_,rfl,_,_,rfl,rfl,(by show (0:Int)<(bs.length:Int); omega),?_⟩
      have em:((li.whom:Int) - at_) % ((bs.length:Nat):Int)=(((li.whom+c.length - at_) % c.length:Nat):Int):=by rw [hbl]; exact emod_turn (by omega)
      refine ⟨_,rfl,.inl ⟨rfl,_,SqL.of hl27⟩,_,rfl,_,rfl,_,rfl,(by show 3≤sizeLine; decide),fun T hT=>?_⟩
      have s8:=same_new hT (.tup [.int (((li.whom:Int) - at_) % ((bs.length:Nat):Int)),.int li.beats,.int (if li.back then 1 else 0)])
      have hT8:(upd H7 T (.tup [.int (((li.whom:Int) - at_) % ((bs.length:Nat):Int)),.int li.beats,.int (if li.back then 1 else 0)])) T=some (.tup (lisV { li with whom:=(li.whom+c.length - at_) % c.length })):=by rw [em]; exact upd_same
      generalize upd H7 T (.tup [.int (((li.whom:Int) - at_) % ((bs.length:Nat):Int)),.int li.beats,.int (if li.back then 1 else 0)])=H8 at s8 hT8 ⊢
      have hl28:=s8 _ _ hl27
      have hl8:=s8 _ _ hl7
      have hxl:xs.length=j:=by
        rw [paired_len pr7,List.length_take]
        show min j (b.lis.map _).length=j
        rw [List.length_map]
        omega
      refine ⟨l2,_,_,rfl,rfl,hl28,by rw [hxl]; have:=gb.2.1; exact small1000 (by omega),?_⟩
      have t9:TupS H8 (upd H8 l2 (.lst (xs++[.ref T]))):=tup_upd fun ys e=>by rw [hl28] at e; cases e
      refine ⟨_,_,_,_,_,rfl,(s7.trans s8).upd n2 _,(t7.trans (Same.tup s8)).trans t9,by rw [upd_ne nl]; exact hl8,upd_same,?_⟩
      have er:(tRot at_ c.length b).lis[j]?=some { li with whom:=(li.whom+c.length - at_) % c.length }:=by
        show (b.lis.map _)[j]?=_
        rw [List.getElem?_map,hli]
        rfl
      rw [take_snoc er]
      exact paired_snoc ⟨T,rfl,t9 _ _ hT8⟩ (paired_imp (fun _ _ z=>(z.mono (Same.tup s8)).mono t9) pr7)
    · rintro σ H7 ⟨xs,o6,o7,o8,o9,rfl,s7,t7,hl7,hl27,pr7⟩
      have t57:=(Same.tup s6).trans t7
      rw [List.take_of_length_le (by show (b.lis.map _).length≤_; rw [List.length_map]; omega)] at pr7
      refine ⟨_,rfl,.inl ⟨rfl,_,SqL.of hl7⟩,_,rfl,3,rfl,x,_,rfl,t57 _ _ hx,fun p3 H8 s8 hp3=>?_⟩
      refine ⟨_,rfl,l2,_,rfl,.inl ⟨SqL.of (s8 _ _ hl27),fun T2 hT2=>?_⟩⟩
      have s9:=same_new hT2 (.tup xs)
      have hT29:=upd_same (H:=H8) (a:=T2) (o:=.tup xs)
      generalize upd H8 T2 (.tup xs)=H9 at s9 hT29 ⊢
      refine ⟨(by show 1≤sizeLine; decide),fun T3 hT3=>?_⟩
      have s10:=same_new hT3 (.tup [.ref T2])
      have hT310:=upd_same (H:=H9) (a:=T3) (o:=.tup [.ref T2])
      generalize upd H9 T3 (.tup [.ref T2])=H10 at s10 hT310 ⊢
      refine ⟨p3,T3,[.str b.name,.int b.start,rwV b.rule],_,rfl,rfl,s10 _ _ (s9 _ _ hp3),hT310,(by intro z; cases z),(by show 4≤sizeLine; decide),fun p4 H11 s11 hp4=>?_⟩
      have s711:=((s8.trans s9).trans s10).trans s11
      have hl11:=s711 _ _ hl7
      refine ⟨l,_,_,rfl,rfl,hl11,by rw [paired_len pr5,List.length_take]; exact small1000 (by omega),?_⟩
      have t12:TupS H11 (upd H11 l (.lst (vs++[.ref p4]))):=tup_upd fun ys e=>by rw [hl11] at e; cases e
      have t512:=(t57.trans (Same.tup s711)).trans t12
      refine ⟨_,_,_,_,_,_,_,rfl,(s7.trans s711).upd hl _,t5.trans t512,upd_same,?_⟩
      rw [take_snoc (rot_at hb)]
      refine paired_snoc ?_ (paired_imp (fun _ _ z=>z.mono t512) pr5)
      exact ⟨p4,T2,xs,rfl,t12 _ _ hp4,t12 _ _ (s11 _ _ (s10 _ _ hT29)),paired_imp (fun _ _ z=>(z.mono (Same.tup s711)).mono t12) pr7⟩
  · rintro σ H5 ⟨vs,o4,o5,o6,o7,o8,o9,rfl,s5,t5,hl5,pr5⟩
    rw [List.take_of_length_le (by rw [rot_len]; omega)] at pr5
    refine ⟨_,rfl,l,_,rfl,.inl ⟨SqL.of hl5,fun T hT=>?_⟩⟩
    have u:=same_new hT (.tup vs)
    exact q (.ref T) _ (s5.trans u) ⟨T,vs,rfl,upd_same,paired_imp (fun _ _ z=>z.mono (Same.tup u)) pr5⟩
theorem SortC.rot {so:Int} {c:List Bell} (h:SortC so c) (at_:Nat):SortC so (rotC at_ c):=fun b hb=>by
  unfold rotC at hb
  obtain ⟨b0,hb0,rfl⟩:=List.mem_map.mp hb
  have z:=h b0 (by
    rcases List.mem_append.mp hb0 with y | y
    · exact List.mem_of_mem_drop y
    · exact List.mem_of_mem_take y)
  show SortR so (b0.lis.map _).length b0.rule
  rw [List.length_map]
  exact z
theorem SortC.ring {so:Int} {c:List Bell} (h:SortC so c):SortC so (ringC c):=fun b hb=>by
  obtain ⟨k,hk⟩:=List.getElem?_of_mem hb
  obtain ⟨b0,hb0,rfl⟩:=ring_inv hk
  show SortR so (ringL k c.length b0.lis).length b0.rule
  rw [ringL_len]
  exact h b0 (List.mem_of_getElem? hb0)
def sp_going (K:PySem.W.Frag):Sp:=fun vs H Q _=>∃ (a p:Addr) (ns:List Int),vs=[.ref p]∧PackAt K ns a p H∧∀ v c H',Bt p H H'→PackAt K ns a p H'→ChoirAt H' v c→GoodN c→(∃ so:Int,(so=0∨so=1)∧SortC so c)→Q v H'
theorem sc_going:FnScope ["_law_pack_here","_law_choir_here"] ["_law_pack_here"] (defScope s_going):=⟨rfl,rfl,rfl,by decide +kernel,rfl,by decide +kernel,by decide +kernel⟩
theorem ok_going (F:Fun K "_law_going" "_law_going" s_going f fd) (B:Blt mg) (C_draw:Cal P w K mg base 1 "_law_draw" ["_law_pack_here","_law_many"] (sp_draw K)) (C_next:Cal P w K mg base 2 "_law_next" ["_law_pack_here"] (sp_next K)) (C_choir:Cal P w K mg base 3 "_law_choir" ["_law_pack_here","_law_most","_law_waits"] (sp_choir K))
    (C_turned:Cal P w K mg base 1 "_law_turned" ["_law_choir_here","_law_at"] (sp_turned K)) (C_about:Cal P w K mg base 1 "_law_about" ["_law_choir_here"] (sp_about K)):FnOk P w K mg base CX0 4 f fd ["_law_pack_here"] (sp_going K):=by
  refine F.ok sc_going (fun vs H Q E h=>?_) (fun cdv A outer s H vs Q E hr h=>?_)
  · obtain ⟨a,p,ns,rfl,_⟩:=h
    rfl
  obtain ⟨a,p,ns,rfl,P0,q⟩:=h
  refine ⟨_,(pss_cons (ps_set (i:=1) sc_going.nd rfl (Or.inl rfl) (pe_fn C_choir hr (by decide) rfl (pa_cons (pv 0) (pa_cons pe_int (pa_cons pe_bl pa_nil)))))
    (pss_cons (ps_expr (pe_fn C_next hr (by decide) rfl (pa_cons (pv 0) pa_nil)))
    (pss_cons (ps_set (i:=1) sc_going.nd rfl (Or.inl rfl) (pe_fn C_turned hr (by decide) rfl (pa_cons (pv 1) (pa_cons (pe_fn C_draw hr (by decide) rfl (pa_cons (pv 0) (pa_cons (pe_callB call_len_seq rfl B.len_ PySem.boot_len (pa_cons (pv 1) pa_nil)) pa_nil))) pa_nil))))
    (pss_cons (ps_if (pt_cmpR op_eq (pe_fn C_draw hr (by decide) rfl (pa_cons (pv 0) (pa_cons pe_int pa_nil))) pe_int (nomark _))
    (pss_one (ps_ret (pe_fn C_about hr (by decide) rfl (pa_cons (pv 1) pa_nil))))
    pss_nil)
    (pss_one (ps_ret (pv 1))))))),?_⟩
  refine ⟨_,rfl,a,p,ns,6,false,rfl,P0,by decide,by decide,fun ch c H1 s1 P1 hch c1 cm gc ⟨so,so01,sc⟩=>?_⟩
  have g:GoodN c:=goodN_of gc c1 cm
  refine ⟨_,rfl,a,p,ns,rfl,P1,fun H2 s2 P2=>?_⟩
  obtain ⟨x,bs,rfl,hx,prb⟩:=hch.mono (P1.tupS s2)
  have hbl:=paired_len prb
  refine ⟨_,rfl,_,rfl,_,rfl,x,_,rfl,.inr (SqT.of hx),a,p,ns,(bs.length:Int),rfl,P2,by omega,by omega,fun d H3 d0 d1 s3 P3=>?_⟩
  obtain ⟨at_,rfl⟩:∃ n:Nat,d=(n:Int):=⟨d.toNat,by omega⟩
  have hch3:ChoirAt H3 (.ref x) c:=(hch.mono (P1.tupS s2)).mono (P2.tupS s3)
  have hat:at_<c.length:=by omega
  refine ⟨.ref x,c,at_,rfl,hch3,g,hat,fun v H4 s4 hv=>?_⟩
  have P4:=P3.same s4
  refine ⟨_,rfl,a,p,ns,2,rfl,P4,by decide,by decide,fun d2 H5 e0 e1 s5 P5=>?_⟩
  have st:Bt p H H5:=(((s1.trans s2).trans s3).trans (Bt.same s4)).trans s5
  have hv5:=hv.mono (P4.tupS s5)
  refine ⟨rfl,_,rfl,?_⟩
  refine ite2 (fun _=>?_) (fun _=>?_)
  · refine ⟨_,rfl,v,_,rfl,hv5,g.rot hat,fun v2 H6 s6 hv2=>?_⟩
    exact q v2 _ H6 (st.trans (Bt.same s6)) (P5.same s6) hv2 (g.rot hat).ring ⟨so,so01,(sc.rot at_).ring⟩
  · exact ⟨_,rfl,q v _ H5 st P5 hv5 (g.rot hat) ⟨so,so01,sc.rot at_⟩⟩
end
end K43
namespace K43
open PySem L2
def whoms (c:List Bell) (i:Nat):List Nat:=((c[i]?).map fun b=>b.lis.map (·.whom)).getD []
theorem whoms_at {c:List Bell} {i:Nat} {b:Bell} (h:c[i]?=some b):whoms c i=b.lis.map (·.whom):=by unfold whoms; rw [h]; rfl
inductive Hr (c:List Bell) (b:Nat):Nat→Prop
  | one {k:Nat}:k∈whoms c b→Hr c b k
  | more {j k:Nat}:Hr c b j→k∈whoms c j→Hr c b k
structure FineW (c:List Bell):Prop where
  l6:c.length≤6
  lt:∀ i,∀ k∈whoms c i,k<c.length
theorem Hr.lt {c:List Bell} (fw:FineW c) {b k:Nat} (h:Hr c b k):k<c.length:=by
  cases h with
  | one h=>exact fw.lt _ _ h
  | more _ h=>exact fw.lt _ _ h
structure HJ (c:List Bell) (b a j:Nat) (F st:List Nat):Prop where
  nd:F.Nodup
  hr:∀ k∈F,Hr c b k
  sk:∀ k∈st,k=b∨k∈F
  ha:a=b∨a∈F
  cl:∀ x,(x=b∨x∈F)→x∈st∨x=a∨∀ k∈whoms c x,k∈F
  pr:∀ k∈(whoms c a).take j,k∈F
structure HI (c:List Bell) (b:Nat) (F st:List Nat):Prop where
  nd:F.Nodup
  hr:∀ k∈F,Hr c b k
  sk:∀ k∈st,k=b∨k∈F
  cl:∀ x,(x=b∨x∈F)→x∈st∨∀ k∈whoms c x,k∈F
theorem hi_start (c:List Bell) (b:Nat):HI c b [] [b] :=
  ⟨List.nodup_nil,fun k h=>(nomatch h),fun k h=>.inl (List.mem_singleton.mp h),fun x h=>.inl (by
    rcases h with rfl | h
    · exact List.mem_singleton.mpr rfl
    · cases h)⟩
theorem hi_pop {c:List Bell} {b a:Nat} {F st:List Nat} (h:HI c b F (st++[a])):HJ c b a 0 F st :=
  ⟨h.nd,h.hr,fun k hk=>h.sk k (List.mem_append_left _ hk),h.sk a (List.mem_append_right _ (List.mem_singleton.mpr rfl)),fun x hx=>by
    rcases h.cl x hx with z | z
    · rcases List.mem_append.mp z with z | z
      · exact .inl z
      · exact .inr (.inl (List.mem_singleton.mp z))
    · exact .inr (.inr z),fun k hk=>by rw [List.take_zero] at hk; cases hk⟩
theorem hj_end {c:List Bell} {b a:Nat} {F st:List Nat} (h:HJ c b a (whoms c a).length F st):HI c b F st :=
  ⟨h.nd,h.hr,h.sk,fun x hx=>by
    rcases h.cl x hx with z | rfl | z
    · exact .inl z
    · exact .inr fun k hk=>h.pr k (by rw [List.take_length]; exact hk)
    · exact .inr z⟩
theorem take_succ_at {l:List Nat} {j k:Nat} (h:l[j]?=some k):l.take (j+1)=l.take j++[k]:=by rw [List.take_add_one,h]; rfl
theorem hj_old {c:List Bell} {b a j k:Nat} {F st:List Nat} (h:HJ c b a j F st) (hk:(whoms c a)[j]?=some k) (hF:k∈F):HJ c b a (j+1) F st :=
  ⟨h.nd,h.hr,h.sk,h.ha,h.cl,fun x hx=>by
    rw [take_succ_at hk] at hx
    rcases List.mem_append.mp hx with z | z
    · exact h.pr x z
    · rw [List.mem_singleton.mp z]; exact hF⟩
theorem hj_new {c:List Bell} {b a j k:Nat} {F st:List Nat} (h:HJ c b a j F st) (hk:(whoms c a)[j]?=some k) (hF:k∉F):HJ c b a (j+1) (F++[k]) (st++[k]):=by
  have hm:k∈whoms c a:=List.mem_of_getElem? hk
  refine ⟨?_,fun x hx=>?_,fun x hx=>?_,?_,fun x hx=>?_,fun x hx=>?_⟩
  · rw [List.nodup_append]
    refine ⟨h.nd,List.nodup_cons.mpr ⟨(nomatch ·),List.nodup_nil⟩,fun x hx y hy e=>?_⟩
    rw [List.mem_singleton.mp hy] at e
    exact hF (e▸hx)
  · rcases List.mem_append.mp hx with z | z
    · exact h.hr x z
    · rw [List.mem_singleton.mp z]
      rcases h.ha with e | e
      · rw [e] at hm; exact .one hm
      · exact .more (h.hr _ e) hm
  · rcases List.mem_append.mp hx with z | z
    · rcases h.sk x z with e | e
      · exact .inl e
      · exact .inr (List.mem_append_left _ e)
    · exact .inr (List.mem_append_right _ z)
  · exact h.ha.imp_right fun z=>List.mem_append_left _ z
  · by_cases e:x=k
    · exact .inl (List.mem_append_right _ (List.mem_singleton.mpr e))
    · have hx':x=b∨x∈F:=by
        rcases hx with z | z
        · exact .inl z
        · rcases List.mem_append.mp z with z | z
          · exact .inr z
          · exact absurd (List.mem_singleton.mp z) e
      rcases h.cl x hx' with z | z | z
      · exact .inl (List.mem_append_left _ z)
      · exact .inr (.inl z)
      · exact .inr (.inr fun y hy=>List.mem_append_left _ (z y hy))
  · rw [take_succ_at hk] at hx
    rcases List.mem_append.mp hx with z | z
    · exact List.mem_append_left _ (h.pr x z)
    · exact List.mem_append_right _ z
theorem hi_end {c:List Bell} {b:Nat} {F:List Nat} (h:HI c b F []) {k:Nat}:k∈F↔Hr c b k:=by
  refine ⟨h.hr k,fun r=>?_⟩
  induction r with
  | one hk =>
    rcases h.cl b (.inl rfl) with z | z
    · cases z
    · exact z _ hk
  | more _ hk ih =>
    rcases h.cl _ (.inr ih) with z | z
    · cases z
    · exact z _ hk
theorem nodup_lt:∀ (n:Nat) (F:List Nat),F.Nodup→(∀ k∈F,k<n)→F.length≤n:=fun n F nd lt=>by
  have z:=List.Nodup.length_le_of_subset nd (l₂:=List.range n) fun k hk=>List.mem_range.mpr (lt k hk)
  rwa [List.length_range] at z
def HearsIs (c:List Bell) (b:Nat) (R:List Nat):Prop:=R.Pairwise (·<·)∧∀ k,k∈R↔Hr c b k
theorem HearsIs.len {c:List Bell} (fw:FineW c) {b:Nat} {R:List Nat} (h:HearsIs c b R):R.length≤6 :=
  Nat.le_trans (nodup_lt c.length R (h.1.imp Nat.ne_of_lt) fun k hk=>((h.2 k).mp hk).lt fw) fw.l6
def fK (F:List Nat):List (Key×V):=F.map fun k:Nat=>(Sum.inl (k:Int),V.bl true)
theorem fK_len (F:List Nat):(fK F).length=F.length:=by unfold fK; rw [List.length_map]
theorem fK_keys (F:List Nat):(fK F).map (·.1)=(F.map fun k:Nat=>(k:Int)).map Sum.inl:=by unfold fK; rw [List.map_map,List.map_map]; rfl
theorem fK_old {F:List Nat} {k:Nat} (h:k∈F):(valV (fK F) (Sum.inl (k:Int))).isSome=true:=by
  unfold valV fK
  rw [Option.isSome_map,List.find?_isSome]
  exact ⟨_,List.mem_map.mpr ⟨k,h,rfl⟩,by simp⟩
theorem fK_new {F:List Nat} {k:Nat} (h:k∉F):valV (fK F) (Sum.inl (k:Int))=none:=by
  unfold valV fK
  rw [Option.map_eq_none_iff,List.find?_eq_none]
  intro x hx z
  obtain ⟨y,hy,rfl⟩:=List.mem_map.mp hx
  have z':(Sum.inl (y:Int):Key)=Sum.inl (k:Int):=of_decide_eq_true z
  have e:(y:Int)=(k:Int):=Sum.inl.inj z'
  exact h (by have:y=k:=by omega
              exact this▸hy)
theorem fK_put {F:List Nat} {k:Nat} (h:k∉F):putK (fK F) (Sum.inl (k:Int)) (V.bl true)=fK (F++[k]):=by
  unfold putK
  rw [if_neg]
  · unfold fK; rw [List.map_append]; rfl
  · intro z
    obtain ⟨x,hx,e⟩:=List.any_eq_true.mp z
    unfold fK at hx
    obtain ⟨y,hy,rfl⟩:=List.mem_map.mp hx
    have e':(Sum.inl (y:Int):Key)=Sum.inl (k:Int):=of_decide_eq_true e
    have e2:(y:Int)=(k:Int):=Sum.inl.inj e'
    exact h (by have:y=k:=by omega
                exact this▸hy)
def hmu (D S:Addr) (H:Hp):Nat:=match H D,H S with
  | some (.dK kvs),some (.lst xs)=>2 * (6 - kvs.length)+xs.length
  | _,_=>0
theorem hmu_at {D S:Addr} {H:Hp} {F st:List Nat} (h1:H D=some (.dK (fK F))) (h2:H S=some (.lst (nV st))):hmu D S H=2 * (6 - F.length)+st.length:=by
  unfold hmu; rw [h1,h2]; dsimp only; rw [fK_len]; unfold nV; rw [List.length_map]
theorem nV_at {st:List Nat} {i k:Nat} (h:st[i]?=some k):(nV st)[i]?=some (V.int (k:Int)):=by unfold nV; rw [List.getElem?_map,h]; rfl
theorem nV_len (st:List Nat):(nV st).length=st.length:=by unfold nV; rw [List.length_map]
theorem nV_app (a:List Nat) (k:Nat):nV a++[V.int (k:Int)]=nV (a++[k]):=by unfold nV; rw [List.map_append]; rfl
theorem nV_drop (a:List Nat) (k:Nat):(nV (a++[k])).dropLast=nV a:=by rw [← nV_app,List.dropLast_concat]
section
variable {P:Program} {w:World} {K:PySem.W.Frag} {mg:Str→Option Value} {base:Heap} {f:Addr} {fd:FuncData}
def sp_hears:Sp:=fun vs H Q _=>∃ (ch:V) (c:List Bell) (b:Nat),vs=[ch,.int (b:Int)]∧ChoirAt H ch c∧FineW c∧b<c.length∧∀ (H':Hp) (l:Addr) (R:List Nat),Same H H'→H l=none→H' l=some (.lst (nV R))→HearsIs c b R→Q (.ref l) H'
theorem sc_hears:FnScope ["choir","bell","found","still_to_ask","asked","listening"] ["choir","bell"] (defScope s_hears):=⟨rfl,rfl,rfl,by decide +kernel,rfl,by decide +kernel,by decide +kernel⟩
theorem ok_hears (Fu:Fun K "hears" "hears" s_hears f fd) (B:Blt mg):FnOk P w K mg base CX0 1 f fd ["choir","bell"] sp_hears:=by
  refine Fu.ok sc_hears (fun vs H Q E h=>?_) (fun cdv A outer s H vs Q E hr h=>?_)
  · obtain ⟨ch,c,b,rfl,_⟩:=h
    rfl
  obtain ⟨ch,c,b,rfl,hch,fw,hb,q⟩:=h
  have hu:=hu_of hr
  refine ⟨_,(pss_cons (ps_set (i:=2) sc_hears.nd rfl (Or.inl rfl) pe_dnewK)
    (pss_cons (ps_set (i:=3) sc_hears.nd rfl (Or.inl rfl) (pe_lst (pa_cons (pv 1) pa_nil)))
    (pss_cons (ps_while PassesOwn.never (pt_cmpR op_gt (pe_callB call_len_seq rfl B.len_ PySem.boot_len (pa_cons (pv 3) pa_nil)) pe_int (nomark _))
    (pss_cons (ps_set (i:=4) sc_hears.nd rfl (Or.inl rfl) (pe_bm0 PySem.F.plainAttrs_list PySem.F.slot_list_pop PySem.F.type_list_pop mt_pop (pv 3)))
    (pss_one (ps_for PassesOwn.never rfl (pi_tup (pe_ix ix_tup (pe_ix ix_tup (pv 0) (pv 4) (fun _ _=>rfl)) pe_int (fun _ _=>rfl))) (pg_name (i:=5) sc_hears.nd rfl (Or.inl rfl))
    (pss_one (ps_if (pt_cmp (pc_dnotin hu (pe_ix ix_tup (pv 5) pe_int (fun _ _=>rfl)) (pv 2)))
    (pss_cons (ps_dput hu (pv 2) (pe_ix ix_tup (pv 5) pe_int (fun _ _=>rfl)) pe_bl rfl)
    (pss_one (ps_expr (pe_bm PySem.F.plainAttrs_list PySem.F.slot_list_append PySem.F.type_list_append mt_append (pv 3) (pa_cons (pe_ix ix_tup (pv 5) pe_int (fun _ _=>rfl)) pa_nil)))))
    pss_nil))))))
    (pss_one (ps_ret (pe_callB (call_sortedD rfl) rfl B.sorted_ PyProof.Rows.boot_sorted (pa_cons (pv 2) pa_nil))))))),?_⟩
  obtain ⟨a,vs,rfl,ha,prc⟩:=id hch
  intro D hD
  refine ⟨_,rfl,(by show 1≤sizeLine; decide),fun S hS=>?_⟩
  have s1:=same_new hD (.dK [])
  have hSD:S≠D:=fun z=>by rw [z,upd_same] at hS; cases hS
  have hS0:H S=none:=s1.free hS
  have s2:Same H (upd (upd H D (.dK [])) S (.lst [.int (b:Int)])):=s1.upd hS0 _
  refine while_by (fun σ H4=>∃ (o4 o5:Option V) (F st:List Nat),σ=[some (.ref a),some (.int (b:Int)),some (.ref D),some (.ref S),o4,o5]∧Same H H4∧H4 D=some (.dK (fK F))∧H4 S=some (.lst (nV st))∧HI c b F st∧2 * (6 - F.length)+st.length≤13) (fun _ H4=>hmu D S H4)
    ⟨none,none,[],[b],rfl,s2,by rw [upd_ne (Ne.symm hSD),upd_same]; rfl,upd_same,hi_start c b,by show 2 * (6 - 0)+1≤13; decide⟩ ?_ ?_
  · rintro σ H4 ⟨o4,o5,F,st,rfl,s4,hD4,hS4,hi,mb⟩
    refine ⟨_,rfl,S,_,rfl,.inl (SqL.of hS4),_,_,rfl,rfl,_,rfl,?_⟩
    rw [nV_len]
    refine ite2 (fun z=>?_) (fun z=>?_)
    · have hpos:0<st.length:=by have z':((0:Int)<(st.length:Int)):=of_decide_eq_true z; omega
      obtain ⟨st',x,rfl⟩:∃ st' x,st=st'++[x]:=⟨st.dropLast,st.getLast (List.ne_nil_of_length_pos hpos),(List.dropLast_concat_getLast _).symm⟩
      have hj:=hi_pop hi
      have hx:x<c.length:=by
        rcases hj.ha with e | e
        · rw [e]; exact hb
        · exact (hj.hr x e).lt fw
      refine ⟨_,rfl,.inl ⟨rfl,_,SqL.of hS4⟩,S,_,.int (x:Int),rfl,rfl,hS4,nV_at (by rw [nV_len,List.length_append,List.length_singleton,Nat.add_sub_cancel,List.getElem?_append_right (Nat.le_refl _),Nat.sub_self]; rfl),?_⟩
      rw [nV_drop]
      have s5:=s4.upd hS0 (.lst (nV st'))
      have hD5:(upd H4 S (.lst (nV st'))) D=some (.dK (fK F)):=by rw [upd_ne (Ne.symm hSD)]; exact hD4
      have hS5:(upd H4 S (.lst (nV st'))) S=some (.lst (nV st')):=upd_same
      have hm0:=hmu_at hD4 hS4
      generalize upd H4 S (.lst (nV st'))=H5 at s5 hD5 hS5 ⊢
      obtain ⟨bl,hbl⟩:∃ bl,c[x]?=some bl:=⟨c[x],List.getElem?_eq_getElem hx⟩
      obtain ⟨bv,hbv,p,t,ls,rfl,hp,ht,prl⟩:=paired_at' prc hbl
      have hw:=whoms_at hbl
      refine ⟨_,rfl,_,rfl,a,_,_,_,rfl,rfl,SqT.of (s5 _ _ ha),atI_nat hbv,p,_,_,_,rfl,rfl,SqT.of (s5 _ _ hp),rfl,t,rfl,⟨_,SqT.of (s5 _ _ ht)⟩,?_⟩
      refine for_tup (K:=K) (a:=t) (xs:=ls) (fun j σ H6=>∃ (o5:Option V) (F st:List Nat),σ=[some (.ref a),some (.int (b:Int)),some (.ref D),some (.ref S),some (.int (x:Int)),o5]∧Same H H6∧H6 D=some (.dK (fK F))∧H6 S=some (.lst (nV st))∧HJ c b x j F st∧2 * (6 - F.length)+st.length<hmu D S H4)
        ⟨_,F,st',rfl,s5,hD5,hS5,hj,by rw [hm0,List.length_append,List.length_singleton]; omega⟩ (fun j σ H6 _ ⟨_,_,_,_,z,_⟩=>SqT.of (z _ _ ht)) ?_ ?_
      · rintro j y σ H6 hy ⟨o5,F,st,rfl,s6,hD6,hS6,hj6,mu6⟩
        obtain ⟨l,hl,z,rfl,hz⟩:=paired_at prl hy
        have hk:(whoms c x)[j]?=some l.whom:=by rw [hw,List.getElem?_map,hl]; rfl
        have hzz:=SqT.of (K:=K) (s6 _ _ hz)
        refine ⟨_,rfl,z,_,_,_,rfl,rfl,hzz,rfl,_,rfl,D,_,rfl,DGet.k (k:=Sum.inl (l.whom:Int)) hD6,_,rfl,?_⟩
        by_cases hF:l.whom∈F
        · rw [fK_old hF]
          refine iteF ?_
          exact ⟨_,F,st,rfl,s6,hD6,hS6,hj_old hj6 hk hF,mu6⟩
        · rw [fK_new hF]
          refine iteT ?_
          have hlF:F.length+1≤6:=by
            have z:=hj_new hj6 hk hF
            have:=nodup_lt c.length _ z.nd fun k hk=>(z.hr k hk).lt fw
            rw [List.length_append,List.length_singleton] at this
            have:=fw.l6
            omega
          refine ⟨_,rfl,_,rfl,z,_,_,_,rfl,rfl,hzz,rfl,D,_,rfl,DPut.k (k:=Sum.inl (l.whom:Int)) hD6 (by rw [fK_len]; exact small1000 (by omega)),?_⟩
          rw [fK_put hF]
          have s7:=s6.upd hD (.dK (fK (F++[l.whom])))
          have hD7:=upd_same (H:=H6) (a:=D) (o:=.dK (fK (F++[l.whom])))
          have hS7:(upd H6 D (.dK (fK (F++[l.whom])))) S=some (.lst (nV st)):=by rw [upd_ne hSD]; exact hS6
          have hst6:st.length<1000:=by
            rw [hm0] at mu6
            omega
          refine ⟨_,rfl,.inl ⟨rfl,_,SqL.of hS7⟩,_,rfl,z,_,_,_,rfl,rfl,SqT.of (s7 _ _ hz),rfl,S,_,_,rfl,rfl,hS7,by rw [nV_len]; exact small1000 (Nat.le_of_lt hst6),?_⟩
          rw [nV_app]
          refine ⟨_,F++[l.whom],st++[l.whom],rfl,s7.upd hS0 _,by rw [upd_ne (Ne.symm hSD)]; exact hD7,upd_same,hj_new hj6 hk hF,?_⟩
          rw [List.length_append,List.length_append,List.length_singleton]
          omega
      · rintro σ H6 ⟨o5,F,st,rfl,s6,hD6,hS6,hj6,mu6⟩
        have e:ls.length=(whoms c x).length:=by rw [hw,List.length_map]; exact paired_len prl
        rw [e] at hj6
        refine ⟨⟨_,_,F,st,rfl,s6,hD6,hS6,hj_end hj6,by rw [hm0] at mu6; omega⟩,?_⟩
        rw [hmu_at hD6 hS6]
        exact mu6
    · have h0:st=[]:=by
        have z':¬ ((0:Int)<(st.length:Int)):=fun h=>z (decide_eq_true h)
        exact List.length_eq_zero_iff.mp (by omega)
      subst h0
      have hl6:F.length≤6:=Nat.le_trans (nodup_lt c.length F hi.nd fun k hk=>(hi.hr k hk).lt fw) fw.l6
      refine ⟨_,rfl,D,_,F.map fun k:Nat=>(k:Int),rfl,hD4,fK_keys F,by rw [List.length_map]; omega,fun l ns' hl p1 p2=>?_⟩
      obtain ⟨R,rfl⟩:∃ R:List Nat,ns'=R.map fun k:Nat=>(k:Int):=by
        refine ⟨ns'.map Int.toNat,?_⟩
        rw [List.map_map]
        refine (List.map_id ns').symm.trans (List.map_congr_left fun n hn=>?_)
        obtain ⟨k,_,rfl⟩:=List.mem_map.mp (p1.mem_iff.mp hn)
        simp
      have hmem:∀ k,k∈R↔k∈F:=fun k=>by
        have z:=p1.mem_iff (a:=(k:Int))
        constructor
        · intro h
          obtain ⟨y,hy,e⟩:=List.mem_map.mp (z.mp (List.mem_map.mpr ⟨k,h,rfl⟩))
          have:y=k:=by omega
          exact this▸hy
        · intro h
          obtain ⟨y,hy,e⟩:=List.mem_map.mp (z.mpr (List.mem_map.mpr ⟨k,h,rfl⟩))
          have:y=k:=by omega
          exact this▸hy
      have hnd:(R.map fun k:Nat=>(k:Int)).Nodup:=p1.nodup_iff.mpr (List.pairwise_map.mpr (hi.nd.imp fun h e=>h (by omega)))
      refine q _ l R (s4.trans (same_new hl _)) (s4.free hl) ?_ ⟨?_,fun k=>(hmem k).trans (hi_end hi)⟩
      · rw [upd_same,nV_int]
      · exact ((List.pairwise_map.mp p2).and (List.pairwise_map.mp hnd)).imp fun ⟨h1,h2⟩=>by omega
  · rintro σ H4 Q1 Q2 hq ⟨z1,e1,S1,xs1,e2,e3,x1,y1,e4,e5,z2,e6,h⟩
    exact ⟨z1,e1,S1,xs1,e2,e3,x1,y1,e4,e5,z2,e6,hq _ _ h⟩
end
end K43
namespace K43
open PySem L2
def lisAt (c:List Bell) (b p:Nat):Option Lis:=(c[b]?).bind fun x=>x.lis[p]?
theorem lisAt_of {c:List Bell} {b p:Nat} {x:Bell} {l:Lis} (h:c[b]?=some x) (h':x.lis[p]?=some l):lisAt c b p=some l:=by unfold lisAt; rw [h]; exact h'
theorem lisAt_bell {c:List Bell} {b p:Nat} {l:Lis} (h:lisAt c b p=some l):∃ x,c[b]?=some x∧x.lis[p]?=some l:=by
  unfold lisAt at h
  cases e:c[b]? with
  | none=>rw [e] at h; cases h
  | some x=>rw [e] at h; exact ⟨x,rfl,h⟩
theorem lisAt_whom {c:List Bell} {b p:Nat} {l:Lis} (h:lisAt c b p=some l):l.whom∈whoms c b:=by
  obtain ⟨x,hx,hl⟩:=lisAt_bell h
  rw [whoms_at hx]
  exact List.mem_map.mpr ⟨l,List.mem_of_getElem? hl,rfl⟩
def upf {α:Type} (f:Nat→α) (b:Nat) (v:α):Nat→α:=fun x=>if x=b then v else f x
theorem upf_same {α:Type} (f:Nat→α) (b:Nat) (v:α):upf f b v b=v:=if_pos rfl
theorem upf_ne {α:Type} (f:Nat→α) {b x:Nat} (v:α) (h:x≠b):upf f b v x=f x:=if_neg h
def Closed (c:List Bell) (B:List Nat):Prop:=∀ b∈B,∀ k∈whoms c b,k∈B
structure BF (c:List Bell) (B:List Nat) (g:Nat→Nat→Int) (t:Nat) (done:Nat→Nat→Prop) (h:Nat→Int) (pl:Nat→Option Nat) (lf:Option Nat) (R T:Nat→Nat) (m:Nat):Prop where
  r1:∀ x,R x≤t
  r2:∀ x,1≤R x→pl x≠none
  p1:∀ b p,pl b=some p→b∈B∧∃ l,lisAt c b p=some l∧R b≤R l.whom+1∧(h b<h l.whom+g b p∨(h b=h l.whom+g b p∧T l.whom<T b))
  t1:∀ x,T x≤m
  m1:∀ b∈B,∀ p l,lisAt c b p=some l→done b p→R l.whom<t→h l.whom+g b p≤h b
  m2:∀ b∈B,∀ p l,lisAt c b p=some l→R l.whom+1<t→h l.whom+g b p≤h b
  l0:lf=none→∀ x,R x<t
  l1:∀ x,lf=some x→R x=t∧x∈B
  hb:∀ x,0≤h x∧h x≤(m:Int) * 100000
theorem bf_start (c:List Bell) (B:List Nat) (g:Nat→Nat→Int):BF c B g 1 (fun _ _=>False) (fun _=>0) (fun _=>none) none (fun _=>0) (fun _=>0) 0 :=
  ⟨fun _=>Nat.zero_le _,fun _ h=>absurd h (by decide),fun _ _ h=>(nomatch h),fun _=>Nat.le_refl _,fun _ _ _ _ _ h=>h.elim,fun _ _ _ _ _ h=>absurd h (by decide),fun _ _=>by decide,fun _ h=>(nomatch h),fun _=>⟨Int.le_refl _,by decide⟩⟩
section
variable {c:List Bell} {B:List Nat} {g:Nat→Nat→Int} {t m:Nat} {done:Nat→Nat→Prop} {h:Nat→Int} {pl:Nat→Option Nat} {lf:Option Nat} {R T:Nat→Nat}
theorem bf_no (f:BF c B g t done h pl lf R T m) {b p:Nat} {l:Lis} (hl:lisAt c b p=some l) (le:h l.whom+g b p≤h b):BF c B g t (fun x q=>done x q∨(x=b∧q=p)) h pl lf R T m :=
  ⟨f.r1,f.r2,f.p1,f.t1,fun x hx q k hk hd hr=>by
    rcases hd with hd | ⟨rfl,rfl⟩
    · exact f.m1 x hx q k hk hd hr
    · obtain rfl:l=k:=Option.some.inj (hl.symm.trans hk)
      exact le,f.m2,f.l0,f.l1,f.hb⟩
theorem bf_lift (f:BF c B g t done h pl lf R T m) {b p:Nat} {l:Lis} (hb:b∈B) (hl:lisAt c b p=some l) (gt:h b<h l.whom+g b p) (gG:g b p≤100000) :
    BF c B g t (fun x q=>done x q∨(x=b∧q=p)) (upf h b (h l.whom+g b p)) (upf pl b (some p)) (some b) (upf R b t) (upf T b (m+1)) (m+1):=by
  have hR:t≤R l.whom+1:=by
    rcases Nat.lt_or_ge (R l.whom+1) t with z | z
    · exact absurd (f.m2 b hb p l hl z) (by omega)
    · exact z
  have up:∀ x,h x≤upf h b (h l.whom+g b p) x:=fun x=>by
    by_cases e:x=b
    · rw [e,upf_same]; omega
    · rw [upf_ne _ _ e]; exact Int.le_refl _
  have low:∀ w:Nat,upf R b t w<t→w≠b∧R w<t:=fun w z=>by
    have ne:w≠b:=fun e=>by rw [e,upf_same] at z; exact Nat.lt_irrefl _ z
    rw [upf_ne _ _ ne] at z
    exact ⟨ne,z⟩
  refine ⟨fun x=>?_,fun x hx=>?_,fun x q hq=>?_,fun x=>?_,fun x hx q k hk hd hr=>?_,fun x hx q k hk hr=>?_,(fun z=>nomatch z),fun x hx=>?_,fun x=>?_⟩
  · by_cases e:x=b
    · rw [e,upf_same]; exact Nat.le_refl _
    · rw [upf_ne _ _ e]; exact f.r1 x
  · by_cases e:x=b
    · rw [e,upf_same]; intro z; cases z
    · rw [upf_ne _ _ e] at hx ⊢; exact f.r2 x hx
  · by_cases e:x=b
    · subst e
      rw [upf_same] at hq
      cases hq
      refine ⟨hb,l,hl,?_,?_⟩
      · rw [upf_same]
        by_cases e2:l.whom=x
        · rw [e2,upf_same]; omega
        · rw [upf_ne _ _ e2]; exact hR
      · rw [upf_same,upf_same]
        by_cases e2:l.whom=x
        · left
          rw [e2,upf_same]
          rw [e2] at gt
          omega
        · right
          rw [upf_ne _ _ e2,upf_ne _ _ e2]
          exact ⟨rfl,Nat.lt_succ_of_le (f.t1 _)⟩
    · rw [upf_ne _ _ e] at hq
      obtain ⟨xB,k,hk,r,hv⟩:=f.p1 x q hq
      refine ⟨xB,k,hk,?_,?_⟩
      · rw [upf_ne _ _ e]
        by_cases e2:k.whom=b
        · rw [e2,upf_same]
          have:=f.r1 x
          omega
        · rw [upf_ne _ _ e2]; exact r
      · rw [upf_ne _ _ e,upf_ne _ _ e]
        by_cases e2:k.whom=b
        · left
          rw [e2,upf_same]
          rw [e2] at hv
          rcases hv with hv | hv <;> omega
        · rw [upf_ne _ _ e2,upf_ne _ _ e2]; exact hv
  · by_cases e:x=b
    · rw [e,upf_same]; exact Nat.le_refl _
    · rw [upf_ne _ _ e]; exact Nat.le_succ_of_le (f.t1 x)
  · obtain ⟨ne,hr'⟩:=low _ hr
    rw [upf_ne _ _ ne]
    rcases hd with hd | ⟨rfl,rfl⟩
    · exact Int.le_trans (f.m1 x hx q k hk hd hr') (up x)
    · obtain rfl:l=k:=Option.some.inj (hl.symm.trans hk)
      rw [upf_same]; exact Int.le_refl _
  · obtain ⟨ne,_⟩:=low k.whom (by omega)
    rw [upf_ne _ _ ne] at hr ⊢
    exact Int.le_trans (f.m2 x hx q k hk hr) (up x)
  · cases hx
    exact ⟨upf_same _ _ _,hb⟩
  · have hx:=f.hb x
    have hw:=f.hb l.whom
    have hbb:=f.hb b
    have ec:((m+1:Nat):Int) * 100000=(m:Int) * 100000+100000:=by omega
    rw [ec]
    by_cases e:x=b
    · rw [e,upf_same]; omega
    · rw [upf_ne _ _ e]; omega
def StillR (c:List Bell) (B:List Nat) (g:Nat→Nat→Int) (h:Nat→Int):Prop:=∀ b∈B,∀ p l,lisAt c b p=some l→h l.whom+g b p≤h b
theorem bf_still (f:BF c B g t done h pl none R T m) (all:∀ b∈B,∀ p l,lisAt c b p=some l→done b p):StillR c B g h:=fun b hb p l hl=>f.m1 b hb p l hl (all b hb p l hl) (f.l0 rfl _)
theorem bf_turn (f:BF c B g t done h pl lf R T m) (all:∀ b∈B,∀ p l,lisAt c b p=some l→done b p):BF c B g (t+1) (fun _ _=>False) h pl none R T m :=
  ⟨fun x=>Nat.le_succ_of_le (f.r1 x),f.r2,f.p1,f.t1,fun _ _ _ _ _ z=>z.elim,fun b hb p l hl hr=>f.m1 b hb p l hl (all b hb p l hl) (by omega),fun _ x=>Nat.lt_succ_of_le (f.r1 x),fun _ z=>(nomatch z),f.hb⟩
end
def nx (c:List Bell) (pl:Nat→Option Nat) (x:Nat):Nat:=(((pl x).bind fun p=>lisAt c x p).map (·.whom)).getD x
theorem nx_at {c:List Bell} {pl:Nat→Option Nat} {x p:Nat} {l:Lis} (h:pl x=some p) (h':lisAt c x p=some l):nx c pl x=l.whom:=by
  unfold nx; rw [h]; show ((lisAt c x p).map (·.whom)).getD x=_; rw [h']; rfl
def nxi (c:List Bell) (pl:Nat→Option Nat) (x:Nat):Nat→Nat
  | 0=>x
  | i+1=>nx c pl (nxi c pl x i)
theorem nxi_add (c:List Bell) (pl:Nat→Option Nat) (x i:Nat):∀ j,nxi c pl x (i+j)=nxi c pl (nxi c pl x i) j
  | 0=>rfl
  | j+1=>by show nx c pl (nxi c pl x (i+j))=nx c pl _; rw [nxi_add c pl x i j]
structure Round0 (c:List Bell) (B:List Nat) (pl:Nat→Option Nat) (y:Nat):Prop where
  mem:∀ i,nxi c pl y i∈B
  set:∀ i,∃ p l,pl (nxi c pl y i)=some p∧lisAt c (nxi c pl y i) p=some l
  back:∃ d,1≤d∧d≤B.length∧nxi c pl y d=y
theorem pigeon:∀ (n:Nat) (f:Nat→Nat) (B:List Nat),B.length=n→(∀ i,i≤n→f i∈B)→∃ i j,i<j∧j≤n∧f i=f j:=fun n f B hl hf=>by
  refine Classical.byContradiction fun no=>?_
  have nd:((List.range (n+1)).map f).Nodup:=by
    rw [List.nodup_iff_pairwise_ne,List.pairwise_map]
    refine List.pairwise_lt_range.imp_of_mem fun ha hb lt e=>no ⟨_,_,lt,?_,e⟩
    have:=List.mem_range.mp hb
    omega
  have z:=List.Nodup.length_le_of_subset nd (l₂:=B) fun x hx=>by
    obtain ⟨i,hi,rfl⟩:=List.mem_map.mp hx
    exact hf i (by have:=List.mem_range.mp hi; omega)
  rw [List.length_map,List.length_range] at z
  omega
section
variable {c:List Bell} {B:List Nat} {g:Nat→Nat→Int} {t m:Nat} {done:Nat→Nat→Prop} {h:Nat→Int} {pl:Nat→Option Nat} {lf:Option Nat} {R T:Nat→Nat}
theorem bf_chain (cl:Closed c B) (f:BF c B g t done h pl lf R T m) {x:Nat} (hx:x∈B) (hR:R x=t):∀ i,i≤t→nxi c pl x i∈B∧t≤R (nxi c pl x i)+i
  | 0,_=>⟨hx,by show t≤R x+0; omega⟩
  | i+1,hi=>by
    obtain ⟨a,b⟩:=bf_chain cl f hx hR i (by omega)
    have s:=f.r2 (nxi c pl x i) (by omega)
    cases e:pl (nxi c pl x i) with
    | none=>exact absurd e s
    | some p =>
      obtain ⟨_,l,hl,r,_⟩:=f.p1 _ p e
      show nx c pl (nxi c pl x i)∈B∧_
      have en:nxi c pl x (i+1)=l.whom:=nx_at e hl
      rw [en,nx_at e hl]
      exact ⟨cl _ a _ (lisAt_whom hl),by omega⟩
theorem bf_set (cl:Closed c B) (f:BF c B g t done h pl lf R T m) {x:Nat} (hx:x∈B) (hR:R x=t) {i:Nat} (hi:i<t):∃ p l,pl (nxi c pl x i)=some p∧lisAt c (nxi c pl x i) p=some l:=by
  obtain ⟨a,b⟩:=bf_chain cl f hx hR i (by omega)
  have s:=f.r2 (nxi c pl x i) (by omega)
  cases e:pl (nxi c pl x i) with
  | none=>exact absurd e s
  | some p =>
    obtain ⟨_,l,hl,_⟩:=f.p1 _ p e
    exact ⟨p,l,rfl,hl⟩
theorem bf_round (cl:Closed c B) (f:BF c B g t done h pl lf R T m) (ht:t=B.length) {x:Nat} (hx:x∈B) (hR:R x=t):Round0 c B pl (nxi c pl x t):=by
  obtain ⟨i,j,ij,jt,e⟩:=pigeon t (nxi c pl x) B ht.symm fun i hi=>(bf_chain cl f hx hR i hi).1
  have per:∀ k,∃ q,i≤q∧q<j∧nxi c pl x (i+k)=nxi c pl x q:=by
    intro k
    induction k with
    | zero=>exact ⟨i,Nat.le_refl _,ij,rfl⟩
    | succ k ih =>
      obtain ⟨q,q1,q2,eq⟩:=ih
      have e2:nxi c pl x (i+(k+1))=nxi c pl x (q+1):=by show nx c pl (nxi c pl x (i+k))=nx c pl (nxi c pl x q); rw [eq]
      by_cases z:q+1=j
      · exact ⟨i,Nat.le_refl _,ij,by rw [e2,z,← e]⟩
      · exact ⟨q+1,by omega,by omega,e2⟩
  have at':∀ k,∃ q,i≤q∧q<j∧nxi c pl (nxi c pl x t) k=nxi c pl x q:=fun k=>by
    obtain ⟨q,q1,q2,eq⟩:=per (t+k - i)
    refine ⟨q,q1,q2,?_⟩
    rw [← nxi_add,← eq,show i+(t+k - i)=t+k by omega]
  refine ⟨fun k=>?_,fun k=>?_,j - i,by omega,by omega,?_⟩
  · obtain ⟨q,_,q2,eq⟩:=at' k
    rw [eq]; exact (bf_chain cl f hx hR q (by omega)).1
  · obtain ⟨q,_,q2,eq⟩:=at' k
    rw [eq]; exact bf_set cl f hx hR (by omega)
  · rw [← nxi_add]
    have shift:∀ k,nxi c pl x (j+k)=nxi c pl x (i+k):=fun k=>by rw [nxi_add,← e,← nxi_add]
    have:=shift (t - i)
    rw [show t+(j - i)=j+(t - i) by omega,this,show i+(t - i)=t by omega]
theorem bf_gain (f:BF c B g t done h pl lf R T m):∃ (N:Int) (ph:Nat→Int),0<N∧∀ b p l,pl b=some p→lisAt c b p=some l→ph b<ph l.whom+N * g b p:=by
  refine ⟨(m:Int)+1,fun x=>((m:Int)+1) * h x - (T x:Int),by omega,fun b p l hp hl=>?_⟩
  obtain ⟨_,l',hl',_,hv⟩:=f.p1 b p hp
  obtain rfl:l'=l:=Option.some.inj (hl'.symm.trans hl)
  have t1:=f.t1 l'.whom
  show ((m:Int)+1) * h b - (T b:Int)<((m:Int)+1) * h l'.whom - (T l'.whom:Int)+((m:Int)+1) * g b p
  have e:((m:Int)+1) * (h l'.whom+g b p)=((m:Int)+1) * h l'.whom+((m:Int)+1) * g b p:=Int.mul_add _ _ _
  rcases hv with hv | ⟨hv,tv⟩
  · have z:((m:Int)+1) * (h b+1)≤((m:Int)+1) * (h l'.whom+g b p):=Int.mul_le_mul_of_nonneg_left (by omega) (by omega)
    rw [Int.mul_add,Int.mul_one] at z
    omega
  · rw [← hv] at e
    omega
end
def sumG (g:Nat→Nat→Int):List (Nat×Nat)→Int
  | []=>0
  | s::r=>g s.1 s.2+sumG g r
def Leads (c:List Bell):List (Nat×Nat)→Nat→Prop
  | [],_=>True
  | [s],goal=>∃ l,lisAt c s.1 s.2=some l∧l.whom=goal
  | s::u::r,goal=>(∃ l,lisAt c s.1 s.2=some l∧l.whom=u.1)∧Leads c (u::r) goal
theorem leads_snoc {c:List Bell}:∀ {r:List (Nat×Nat)} {u:Nat×Nat} {goal:Nat},Leads c r u.1→(∃ l,lisAt c u.1 u.2=some l∧l.whom=goal)→Leads c (r++[u]) goal
  | [],_,_,_,h=>h
  | [s],u,_,h,h'=>⟨h,h'⟩
  | s::v::r,u,_,h,h'=>⟨h.1,leads_snoc (r:=v::r) h.2 h'⟩
theorem leads_gain {c:List Bell} {g:Nat→Nat→Int} {N:Int} {ph:Nat→Int}:∀ {r:List (Nat×Nat)} {goal:Nat} {s:Nat×Nat},Leads c (s::r) goal→(∀ u∈s::r,∀ l,lisAt c u.1 u.2=some l→ph u.1<ph l.whom+N * g u.1 u.2)→ph s.1<ph goal+N * sumG g (s::r)
  | [],goal,s,h,H=>by
    obtain ⟨l,h1,h2⟩:=h
    have:=H s List.mem_cons_self l h1
    rw [h2] at this
    show _<_+N * (g s.1 s.2+0)
    rw [Int.add_zero]; exact this
  | u::r,goal,s,h,H=>by
    obtain ⟨⟨l,h1,h2⟩,h'⟩:=h
    have a:=H s List.mem_cons_self l h1
    rw [h2] at a
    have b:=leads_gain h' fun v hv=>H v (List.mem_cons_of_mem _ hv)
    show _<_+N * (g s.1 s.2+sumG g (u::r))
    rw [Int.mul_add]
    omega
theorem leads_le {c:List Bell} {g:Nat→Nat→Int} {h:Nat→Int}:∀ {r:List (Nat×Nat)} {goal:Nat} {s:Nat×Nat},Leads c (s::r) goal→(∀ u∈s::r,∀ l,lisAt c u.1 u.2=some l→h l.whom+g u.1 u.2≤h u.1)→h goal+sumG g (s::r)≤h s.1
  | [],goal,s,h0,H=>by
    obtain ⟨l,h1,h2⟩:=h0
    have:=H s List.mem_cons_self l h1
    rw [h2] at this
    show h goal+(g s.1 s.2+0)≤_
    rw [Int.add_zero]; exact this
  | u::r,goal,s,h0,H=>by
    obtain ⟨⟨l,h1,h2⟩,h'⟩:=h0
    have a:=H s List.mem_cons_self l h1
    rw [h2] at a
    have b:=leads_le h' fun v hv=>H v (List.mem_cons_of_mem _ hv)
    show h goal+(g s.1 s.2+sumG g (u::r))≤_
    omega
structure RingIs (c:List Bell) (B:List Nat) (r:List (Nat×Nat)):Prop where
  ne:r≠[]
  nd:(r.map (·.1)).Nodup
  mem:∀ s∈r,s.1∈B
  lis:∀ s∈r,∃ l,lisAt c s.1 s.2=some l
  lead:∀ s,r[0]?=some s→Leads c r s.1
def stepsOf (c:List Bell) (pl:Nat→Option Nat) (y:Nat) (m:Nat):List (Nat×Nat):=(List.range m).map fun i=>(nxi c pl y i,(pl (nxi c pl y i)).getD 0)
theorem stepsOf_succ (c:List Bell) (pl:Nat→Option Nat) (y m:Nat):stepsOf c pl y (m+1)=stepsOf c pl y m++[(nxi c pl y m,(pl (nxi c pl y m)).getD 0)]:=by
  unfold stepsOf; rw [List.range_succ,List.map_append]; rfl
theorem stepsOf_len (c:List Bell) (pl:Nat→Option Nat) (y m:Nat):(stepsOf c pl y m).length=m:=by unfold stepsOf; rw [List.length_map,List.length_range]
section
variable {c:List Bell} {B:List Nat} {pl:Nat→Option Nat} {y:Nat}
theorem steps_lead (R:Round0 c B pl y):∀ m,Leads c (stepsOf c pl y m) (nxi c pl y m)
  | 0=>trivial
  | m+1=>by
    rw [stepsOf_succ]
    refine leads_snoc (steps_lead R m) ?_
    obtain ⟨p,l,hp,hl⟩:=R.set m
    refine ⟨l,?_,?_⟩
    · show lisAt c _ ((pl (nxi c pl y m)).getD 0)=_
      rw [hp]; exact hl
    · exact (nx_at hp hl).symm
theorem first_back (R:Round0 c B pl y):∃ d,1≤d∧d≤B.length∧nxi c pl y d=y∧∀ k,1≤k→k<d→nxi c pl y k≠y:=by
  obtain ⟨d,d1,d2,e⟩:=R.back
  have key:∀ n d,d≤n→1≤d→nxi c pl y d=y→∃ d',1≤d'∧d'≤d∧nxi c pl y d'=y∧∀ k,1≤k→k<d'→nxi c pl y k≠y:=by
    intro n
    induction n with
    | zero=>intro d h1 h2; omega
    | succ n ih =>
      intro d h1 h2 e
      by_cases z:∃ k,1≤k∧k<d∧nxi c pl y k=y
      · obtain ⟨k,k1,k2,ek⟩:=z
        obtain ⟨d',a,b,cc,dd⟩:=ih k (by omega) k1 ek
        exact ⟨d',a,by omega,cc,dd⟩
      · exact ⟨d,h2,Nat.le_refl _,e,fun k k1 k2 ek=>z ⟨k,k1,k2,ek⟩⟩
  obtain ⟨d',a,b,cc,dd⟩:=key d d (Nat.le_refl _) d1 e
  exact ⟨d',a,Nat.le_trans b d2,cc,dd⟩
theorem steps_ring (R:Round0 c B pl y) {d:Nat} (d1:1≤d) (e:nxi c pl y d=y) (fst:∀ k,1≤k→k<d→nxi c pl y k≠y):RingIs c B (stepsOf c pl y d):=by
  refine ⟨fun z=>?_,?_,fun s hs=>?_,fun s hs=>?_,fun s hs=>?_⟩
  · have:=stepsOf_len c pl y d
    rw [z] at this
    exact absurd this.symm (by show ¬ d=0; omega)
  · unfold stepsOf
    rw [List.map_map,List.nodup_iff_pairwise_ne,List.pairwise_map]
    refine List.pairwise_lt_range.imp_of_mem fun {i j} hi hj lt ee=>?_
    have hj':=List.mem_range.mp hj
    have ee':nxi c pl y i=nxi c pl y j:=ee
    refine fst (d - j+i) (by omega) (by omega) ?_
    have z:nxi c pl y (i+(d - j))=y:=by rw [nxi_add,ee',← nxi_add,show j+(d - j)=d by omega]; exact e
    rwa [show d - j+i=i+(d - j) by omega]
  · unfold stepsOf at hs
    obtain ⟨i,_,rfl⟩:=List.mem_map.mp hs
    exact R.mem i
  · unfold stepsOf at hs
    obtain ⟨i,_,rfl⟩:=List.mem_map.mp hs
    obtain ⟨p,l,hp,hl⟩:=R.set i
    refine ⟨l,?_⟩
    show lisAt c _ ((pl (nxi c pl y i)).getD 0)=_
    rw [hp]; exact hl
  · have h0:s.1=y:=by
      unfold stepsOf at hs
      rw [List.getElem?_map,List.getElem?_range (by omega)] at hs
      cases hs; rfl
    rw [h0]
    have:=steps_lead R d
    rwa [e] at this
end
end K43
namespace K43
open PySem L2
def bkI (l:Lis):Int:=if l.back then 1 else 0
def btF (c:List Bell) (b p:Nat):Int:=((lisAt c b p).map (·.beats)).getD 0
def bkF (c:List Bell) (b p:Nat):Int:=((lisAt c b p).map bkI).getD 0
def gnF (c:List Bell) (sd mt mb:Int) (b p:Nat):Int:=sd * (btF c b p * mb - bkF c b p * mt)
theorem btF_at {c:List Bell} {b p:Nat} {l:Lis} (h:lisAt c b p=some l):btF c b p=l.beats:=by unfold btF; rw [h]; rfl
theorem bkF_at {c:List Bell} {b p:Nat} {l:Lis} (h:lisAt c b p=some l):bkF c b p=bkI l:=by unfold bkF; rw [h]; rfl
theorem bkI_01 (l:Lis):0≤bkI l∧bkI l≤1:=by unfold bkI; split <;> decide
theorem sumG_gn (c:List Bell) (sd mt mb:Int):∀ r,sumG (gnF c sd mt mb) r=sd * (sumG (btF c) r * mb - sumG (bkF c) r * mt)
  | []=>by show (0:Int)=sd * (0 * mb - 0 * mt); simp
  | s::r=>by
    show gnF c sd mt mb s.1 s.2+sumG (gnF c sd mt mb) r=sd * ((btF c s.1 s.2+sumG (btF c) r) * mb - (bkF c s.1 s.2+sumG (bkF c) r) * mt)
    rw [sumG_gn c sd mt mb r]
    unfold gnF
    grind
structure FineP (c:List Bell):Prop where
  l6:c.length≤6
  bell:∀ b∈c,1≤b.lis.length∧b.lis.length≤6∧∀ l∈b.lis,l.whom<c.length∧1≤l.beats∧l.beats≤1000
theorem FineP.lis {c:List Bell} (f:FineP c) {b p:Nat} {l:Lis} (h:lisAt c b p=some l):l.whom<c.length∧1≤l.beats∧l.beats≤1000:=by
  obtain ⟨x,hx,hl⟩:=lisAt_bell h
  exact (f.bell x (List.mem_of_getElem? hx)).2.2 l (List.mem_of_getElem? hl)
theorem FineP.w {c:List Bell} (f:FineP c):FineW c:=⟨f.l6,fun i k hk=>by
  unfold whoms at hk
  cases e:c[i]? with
  | none=>rw [e] at hk; cases hk
  | some b =>
    rw [e] at hk
    obtain ⟨l,hl,rfl⟩:=List.mem_map.mp hk
    exact ((f.bell b (List.mem_of_getElem? e)).2.2 l hl).1⟩
theorem FineP.fst {c:List Bell} (f:FineP c) {b:Nat} (hb:b<c.length):∃ l,lisAt c b 0=some l:=by
  have hx:c[b]?=some c[b]:=List.getElem?_eq_getElem hb
  have:=(f.bell _ (List.mem_of_getElem? hx)).1
  exact ⟨_,lisAt_of hx (List.getElem?_eq_getElem this)⟩
theorem ring_bounds {c:List Bell} (f:FineP c):∀ {r:List (Nat×Nat)},(∀ s∈r,∃ l,lisAt c s.1 s.2=some l)→(r.length:Int)≤sumG (btF c) r∧sumG (btF c) r≤1000 * r.length∧0≤sumG (bkF c) r∧sumG (bkF c) r≤r.length
  | [],_=>⟨Int.le_refl _,Int.le_refl _,Int.le_refl _,Int.le_refl _⟩
  | s::r,h=>by
    obtain ⟨l,hl⟩:=h s List.mem_cons_self
    obtain ⟨a,b,cc,d⟩:=ring_bounds f (r:=r) fun s hs=>h s (List.mem_cons_of_mem _ hs)
    have e1:=btF_at hl
    have e2:=bkF_at hl
    have:=(f.lis hl).2
    have:=bkI_01 l
    show _≤btF c s.1 s.2+sumG (btF c) r∧btF c s.1 s.2+sumG (btF c) r≤_∧0≤bkF c s.1 s.2+sumG (bkF c) r∧bkF c s.1 s.2+sumG (bkF c) r≤_
    rw [List.length_cons]
    omega
theorem RingIs.len {c:List Bell} {B:List Nat} {r:List (Nat×Nat)} (h:RingIs c B r) (lt:∀ b∈B,b<c.length) (f:FineP c):1≤r.length∧r.length≤6:=by
  refine ⟨List.length_pos_iff.mpr h.ne,?_⟩
  have:=nodup_lt c.length _ h.nd fun k hk=>by
    obtain ⟨s,hs,rfl⟩:=List.mem_map.mp hk
    exact lt _ (h.mem s hs)
  rw [List.length_map] at this
  exact Nat.le_trans this f.l6
def tm (now:List (Option Int)) (k:Nat):Int:=(now[k]?).join.getD 0
theorem now_at {c:List Bell} {now:List (Option Int)} (fx:Fix c (starts c) now) (nw:waitsOf c now=[]) {k:Nat} {b:Bell} (hb:c[k]?=some b):now[k]?=some (some (tm now k))∧Due (comesOf b (starts c) now) (wants b) (some (tm now k)):=by
  obtain ⟨o,ho,du⟩:=fx.2 k b hb
  cases o with
  | some v =>
    have e:tm now k=v:=by unfold tm; rw [ho]; rfl
    rw [e]; exact ⟨ho,du⟩
  | none =>
    exfalso
    have hk:k<c.length:=(List.getElem?_eq_some_iff.mp hb).1
    have z:(b,(none:Option Int))∈(c.zip now).take c.length:=by
      refine List.mem_of_getElem? (i:=k) ?_
      rw [List.getElem?_take,if_pos hk]; exact zip_at hb ho
    have z2:b.name∈waitsOf c now:=List.mem_map.mpr ⟨(b,none),List.mem_filter.mpr ⟨z,rfl⟩,rfl⟩
    rw [nw] at z2; cases z2
theorem come_now {before now:List (Option Int)} {l:Lis} {u:Int} (hb:l.back=false) (h:come before now l=some u):u=tm now l.whom+l.beats:=by
  unfold come at h
  rw [hb] at h
  unfold tm
  have h':((now[l.whom]?).join).map (·+l.beats)=some u:=h
  cases e:(now[l.whom]?).join with
  | none=>rw [e] at h'; cases h'
  | some t=>rw [e] at h'; cases h'; rfl
theorem due_le {b:Bell} {before now:List (Option Int)} {v:Int} {l:Lis} (h:leO (come before now l) v=true):∃ u,come before now l=some u∧u≤v:=by
  cases e:come before now l with
  | none=>rw [e] at h; cases h
  | some u=>rw [e] at h; exact ⟨u,rfl,of_decide_eq_true h⟩
theorem pot_all {c:List Bell} {now:List (Option Int)} (fx:Fix c (starts c) now) (nw:waitsOf c now=[]) (wa:∀ b∈c,wants b=b.lis.length) {b p:Nat} {l:Lis} (hl:lisAt c b p=some l) (hb:l.back=false):tm now l.whom+l.beats≤tm now b:=by
  obtain ⟨x,hx,hp⟩:=lisAt_bell hl
  obtain ⟨_,du,_⟩:=now_at fx nw hx
  rw [wa x (List.mem_of_getElem? hx)] at du
  unfold comesOf at du
  rw [cnt_map] at du
  have le:=List.countP_le_length (p:=fun y=>leO (come (starts c) now y) (tm now b)) (l:=x.lis)
  have eq:x.lis.countP (fun y=>leO (come (starts c) now y) (tm now b))=x.lis.length:=by omega
  obtain ⟨u,hu,uv⟩:=due_le (b:=x) (List.countP_eq_length.mp eq l (List.mem_of_getElem? hp))
  rw [come_now hb hu] at uv
  exact uv
theorem pot_one {c:List Bell} {now:List (Option Int)} (fx:Fix c (starts c) now) (nw:waitsOf c now=[]) (wa:∀ b∈c,wants b=1) {b:Nat} (hb:b<c.length):∃ p l,lisAt c b p=some l∧(l.back=true∨tm now l.whom+l.beats≤tm now b):=by
  have hx:c[b]?=some c[b]:=List.getElem?_eq_getElem hb
  obtain ⟨_,du,_⟩:=now_at fx nw hx
  rw [wa _ (List.mem_of_getElem? hx)] at du
  unfold comesOf at du
  rw [cnt_map] at du
  have pos:0<(c[b].lis.countP fun x=>leO (come (starts c) now x) (tm now b)):=by omega
  obtain ⟨l,hl,le⟩:=List.countP_pos_iff.mp pos
  obtain ⟨u,hu,uv⟩:=due_le (b:=c[b]) le
  obtain ⟨p,hp,e⟩:=List.getElem_of_mem hl
  refine ⟨p,l,lisAt_of hx (by rw [List.getElem?_eq_getElem hp,e]),?_⟩
  cases hbk:l.back with
  | true=>exact .inl rfl
  | false=>right; rw [← come_now hbk hu]; exact uv
theorem sumG_zero {c:List Bell}:∀ {r:List (Nat×Nat)},(∀ s∈r,∃ l,lisAt c s.1 s.2=some l)→sumG (bkF c) r≤0→∀ s∈r,∀ l,lisAt c s.1 s.2=some l→l.back=false
  | [],_,_,_,h=>(nomatch h)
  | u::r,H,z,s,hs=>by
    have nn:∀ {r:List (Nat×Nat)},(∀ s∈r,∃ l,lisAt c s.1 s.2=some l)→0≤sumG (bkF c) r:=fun {r}=>by
      induction r with
      | nil=>intro _; exact Int.le_refl _
      | cons v r ih =>
        intro h
        obtain ⟨l,hl⟩:=h v List.mem_cons_self
        have:=ih fun s hs=>h s (List.mem_cons_of_mem _ hs)
        have:=(bkI_01 l).1
        show 0≤bkF c v.1 v.2+sumG (bkF c) r
        rw [bkF_at hl]; omega
    have hr:=nn (r:=r) fun s hs=>H s (List.mem_cons_of_mem _ hs)
    obtain ⟨l0,hl0⟩:=H u List.mem_cons_self
    have z':bkF c u.1 u.2+sumG (bkF c) r≤0:=z
    have b0:=(bkI_01 l0).1
    rw [bkF_at hl0] at z'
    rcases List.mem_cons.mp hs with rfl | hs
    · intro l hl
      obtain rfl:l0=l:=Option.some.inj (hl0.symm.trans hl)
      cases e:l0.back with
      | false=>rfl
      | true=>unfold bkI at z' b0; rw [e,if_pos rfl] at z'; omega
    · exact sumG_zero (r:=r) (fun s hs=>H s (List.mem_cons_of_mem _ hs)) (by omega) s hs
theorem ring_backs {c:List Bell} {B:List Nat} {r:List (Nat×Nat)} (f:FineP c) (ri:RingIs c B r) {now:List (Option Int)} (fx:Fix c (starts c) now) (nw:waitsOf c now=[]) (wa:∀ b∈c,wants b=b.lis.length):1≤sumG (bkF c) r:=by
  refine Classical.byContradiction fun no=>?_
  have bk:=sumG_zero ri.lis (by omega)
  obtain ⟨s,r',rfl⟩:=List.exists_cons_of_ne_nil ri.ne
  have ld:=ri.lead s rfl
  have z:=leads_le (g:=btF c) (h:=tm now) ld fun u hu l hl=>by
    rw [btF_at hl]
    exact pot_all fx nw wa hl (bk u hu l hl)
  have:=(ring_bounds f ri.lis).1
  rw [List.length_cons] at this
  omega
theorem exists_min:∀ (B:List Nat) (h:Nat→Int),B≠[]→∃ b∈B,∀ x∈B,h b≤h x
  | [],_,ne=>absurd rfl ne
  | [b],h,_=>⟨b,List.mem_cons_self,fun x hx=>by rw [List.mem_singleton.mp hx]; exact Int.le_refl _⟩
  | b::d::B,h,_=>by
    obtain ⟨y,hy,le⟩:=exists_min (d::B) h (List.cons_ne_nil _ _)
    by_cases z:h b≤h y
    · exact ⟨b,List.mem_cons_self,fun x hx=>by
        rcases List.mem_cons.mp hx with rfl | hx
        · exact Int.le_refl _
        · exact Int.le_trans z (le x hx)⟩
    · exact ⟨y,List.mem_cons_of_mem _ hy,fun x hx=>by
        rcases List.mem_cons.mp hx with rfl | hx
        · omega
        · exact le x hx⟩
theorem start_all {c:List Bell} {B:List Nat} (f:FineP c) (ne:B≠[]) (cl:Closed c B) (lt:∀ b∈B,b<c.length) {h:Nat→Int} (st:StillR c B (gnF c 1 0 1) h):False:=by
  obtain ⟨b,hb,mn⟩:=exists_min B h ne
  obtain ⟨l,hl⟩:=f.fst (lt b hb)
  have z:=st b hb 0 l hl
  have y:=mn l.whom (cl b hb _ (lisAt_whom hl))
  unfold gnF at z
  rw [btF_at hl] at z
  have:=(f.lis hl).2.1
  omega
def sumN (g:Nat→Int):Nat→Int
  | 0=>0
  | n+1=>sumN g n+g n
theorem sumN_le {g h:Nat→Int}:∀ n,(∀ i,i<n→g i≤h i)→sumN g n≤sumN h n
  | 0,_=>Int.le_refl _
  | n+1,H=>Int.add_le_add (sumN_le n fun i hi=>H i (by omega)) (H n (by omega))
theorem sumN_add (g h:Nat→Int):∀ n,sumN (fun i=>g i+h i) n=sumN g n+sumN h n
  | 0=>rfl
  | n+1=>by show sumN _ n+(g n+h n)=(sumN g n+g n)+(sumN h n+h n); rw [sumN_add g h n]; omega
theorem sumN_one (v:Int) (b:Nat):∀ n,sumN (fun i=>if i=b then v else 0) n=if b<n then v else 0
  | 0=>by rw [if_neg (Nat.not_lt_zero b)]; rfl
  | n+1=>by
    show sumN _ n+(if n=b then v else 0)=_
    rw [sumN_one v b n]
    by_cases e:n=b
    · subst e; rw [if_neg (Nat.lt_irrefl _),if_pos rfl,if_pos (Nat.lt_succ_self _)]; omega
    · rw [if_neg e]
      by_cases z:b<n
      · rw [if_pos z,if_pos (by omega)]; omega
      · rw [if_neg z,if_neg (by omega)]; rfl
theorem sumN_nn {g:Nat→Int}:∀ n,(∀ i,i<n→0≤g i)→0≤sumN g n
  | 0,_=>Int.le_refl _
  | n+1,H=>Int.add_nonneg (sumN_nn n fun i hi=>H i (by omega)) (H n (by omega))
def btB (b:Bell):Int:=(b.lis.map (·.beats)).sum
def btN (c:List Bell) (i:Nat):Int:=((c[i]?).map btB).getD 0
theorem sumN_btN (c:List Bell):∀ n,sumN (btN c) n=((c.take n).map btB).sum
  | 0=>rfl
  | n+1=>by
    show sumN (btN c) n+btN c n=_
    rw [sumN_btN c n]
    cases e:c[n]? with
    | none =>
      have g:=List.getElem?_eq_none_iff.mp e
      rw [List.take_of_length_le g,List.take_of_length_le (show c.length≤n+1 by omega)]
      unfold btN; rw [e]; show _+(0:Int)=_; omega
    | some b =>
      rw [List.take_add_one,e,List.map_append,List.sum_append]
      unfold btN; rw [e]
      show _+btB b=_+([btB b]:List Int).sum
      simp
theorem mem_le_sum:∀ {ns:List Int},(∀ n∈ns,0≤n)→∀ n∈ns,n≤ns.sum
  | [],_,_,h=>(nomatch h)
  | m::ns,H,n,h=>by
    have nn:∀ {ns:List Int},(∀ n∈ns,0≤n)→0≤ns.sum:=fun {ns}=>by
      induction ns with
      | nil=>intro _; exact Int.le_refl _
      | cons a ns ih=>intro h; rw [List.sum_cons]; exact Int.add_nonneg (h a List.mem_cons_self) (ih fun n hn=>h n (List.mem_cons_of_mem _ hn))
    have h1:=nn fun n hn=>H n (List.mem_cons_of_mem m hn)
    have h2:=H m List.mem_cons_self
    rw [List.sum_cons]
    rcases List.mem_cons.mp h with rfl | h
    · omega
    · have:=mem_le_sum (fun n hn=>H n (List.mem_cons_of_mem _ hn)) n h
      omega
theorem btN_at {c:List Bell} (f:FineP c) {b p:Nat} {l:Lis} (hl:lisAt c b p=some l):l.beats≤btN c b:=by
  obtain ⟨x,hx,hp⟩:=lisAt_bell hl
  unfold btN; rw [hx]
  show l.beats≤btB x
  unfold btB
  refine mem_le_sum (fun n hn=>?_) _ (List.mem_map.mpr ⟨l,List.mem_of_getElem? hp,rfl⟩)
  obtain ⟨y,hy,rfl⟩:=List.mem_map.mp hn
  have:=((f.bell x (List.mem_of_getElem? hx)).2.2 y hy).2.1
  omega
theorem btN_nn {c:List Bell} (f:FineP c) (i:Nat):0≤btN c i:=by
  unfold btN
  cases e:c[i]? with
  | none=>exact Int.le_refl _
  | some x =>
    have:=f.bell x (List.mem_of_getElem? e)
    obtain ⟨l,hl⟩:∃ l,x.lis[0]?=some l:=⟨_,List.getElem?_eq_getElem this.1⟩
    have z:=btN_at f (lisAt_of e hl)
    unfold btN at z; rw [e] at z
    have:=(this.2.2 l (List.mem_of_getElem? hl)).2.1
    exact Int.le_trans (by omega) z
def wUp (c:List Bell) (now:List (Option Int)) (v:Int):Int:=sumN (fun i=>if tm now i≤v then btN c i else 0) c.length
theorem wUp_le {c:List Bell} (f:FineP c) (now:List (Option Int)) (v:Int):0≤wUp c now v∧wUp c now v≤(c.map btB).sum:=by
  have e:(c.map btB).sum=sumN (btN c) c.length:=by rw [sumN_btN,List.take_length]
  rw [e]
  exact ⟨sumN_nn _ fun i _=>by split; exact btN_nn f i; exact Int.le_refl _,sumN_le _ fun i _=>by split; exact Int.le_refl _; exact btN_nn f i⟩
theorem wUp_self {c:List Bell} (f:FineP c) (now:List (Option Int)) {b:Nat} (hb:b<c.length):btN c b≤wUp c now (tm now b):=by
  have z:=sumN_one (btN c b) b c.length
  rw [if_pos hb] at z
  rw [← z]
  refine sumN_le _ fun i _=>?_
  by_cases e:i=b
  · subst e; rw [if_pos rfl,if_pos (Int.le_refl _)]; exact Int.le_refl _
  · rw [if_neg e]; split; exact btN_nn f i; exact Int.le_refl _
theorem wUp_step {c:List Bell} (f:FineP c) (now:List (Option Int)) {b k:Nat} (hb:b<c.length) (lt:tm now k<tm now b):wUp c now (tm now k)+btN c b≤wUp c now (tm now b):=by
  have z:=sumN_one (btN c b) b c.length
  rw [if_pos hb] at z
  unfold wUp
  rw [← z,← sumN_add]
  refine sumN_le _ fun i _=>?_
  by_cases e:i=b
  · subst e
    rw [if_pos rfl,if_pos (Int.le_refl _),if_neg (by omega)]; omega
  · rw [if_neg e]
    by_cases y:tm now i≤tm now k
    · rw [if_pos y,if_pos (by omega)]; omega
    · rw [if_neg y]
      split
      · have:=btN_nn f i; omega
      · omega
theorem start_one {c:List Bell} {B:List Nat} (f:FineP c) (ne:B≠[]) (cl:Closed c B) (lt:∀ b∈B,b<c.length) {now:List (Option Int)} (fx:Fix c (starts c) now) (nw:waitsOf c now=[]) (wa:∀ b∈c,wants b=1)
    {h:Nat→Int} (st:StillR c B (gnF c (-1) ((c.map btB).sum+1) 1) h):False:=by
  have key:∀ (n:Nat) (b:Nat),b∈B→wUp c now (tm now b)≤n→∃ y∈B,h y+(c.map btB).sum+1 - wUp c now (tm now b)≤h b:=by
    intro n
    induction n with
    | zero =>
      intro b hb z
      have:=wUp_self f now (lt b hb)
      obtain ⟨l,hl⟩:=f.fst (lt b hb)
      have:=btN_at f hl
      have:=(f.lis hl).2.1
      omega
    | succ n ih =>
      intro b hb z
      obtain ⟨p,l,hl,o⟩:=pot_one fx nw wa (lt b hb)
      have s:=st b hb p l hl
      unfold gnF at s
      rw [btF_at hl,bkF_at hl] at s
      have b1:=btN_at f hl
      have wB:=cl b hb _ (lisAt_whom hl)
      have ws:=wUp_self f now (lt b hb)
      have l1:=(f.lis hl).2.1
      cases e:l.back with
      | true =>
        refine ⟨l.whom,wB,?_⟩
        unfold bkI at s
        rw [e,if_pos rfl] at s
        omega
      | false =>
        have tl:tm now l.whom+l.beats≤tm now b:=by
          rcases o with o | o
          · rw [e] at o; cases o
          · exact o
        have st':=wUp_step f now (k:=l.whom) (lt b hb) (by omega)
        obtain ⟨y,hy,le⟩:=ih l.whom wB (by omega)
        refine ⟨y,hy,?_⟩
        unfold bkI at s
        rw [e,if_neg Bool.false_ne_true] at s
        omega
  obtain ⟨b,hb,mn⟩:=exists_min B h ne
  obtain ⟨w0,wS⟩:=wUp_le f now (tm now b)
  obtain ⟨y,hy,le⟩:=key (wUp c now (tm now b)).toNat b hb (by omega)
  have:=mn y hy
  omega
structure LowF (t b:Int):Prop where
  pos:1≤b
  low:Int.gcd t b=1
def q60 (t b:Int):Int:=60 * t / b
theorem q60_eq {t b:Int} (h1:1≤b) (h6:b≤6):q60 t b * b=60 * t:=by
  unfold q60
  have:b=1∨b=2∨b=3∨b=4∨b=5∨b=6:=by omega
  rcases this with rfl | rfl | rfl | rfl | rfl | rfl <;> omega
theorem q60_lt {t b t' b':Int} (h1:1≤b) (h6:b≤6) (h1':1≤b') (h6':b'≤6) (h:t * b'<t' * b):q60 t b<q60 t' b':=by
  have e:=q60_eq (t:=t) h1 h6
  have e':=q60_eq (t:=t') h1' h6'
  refine Classical.byContradiction fun no=>?_
  have le:q60 t' b'≤q60 t b:=by omega
  have z:q60 t' b' * (b * b')≤q60 t b * (b * b'):=Int.mul_le_mul_of_nonneg_right le (Int.mul_nonneg (by omega) (by omega))
  have z1:q60 t' b' * (b * b')=60 * (t' * b):=by rw [Int.mul_comm b b',← Int.mul_assoc,e',Int.mul_assoc]
  have z2:q60 t b * (b * b')=60 * (t * b'):=by rw [← Int.mul_assoc,e,Int.mul_assoc]
  omega
end K43
namespace K43
open PySem L2
structure IsFrac (t b p q:Int):Prop where
  pos:1≤q
  low:Int.gcd p q=1
  eq:p * b=t * q
  ple:p.natAbs≤t.natAbs
  qle:q≤b
theorem abs_eq (i:Int):(if i<0 then -i else i)=(i.natAbs:Int):=by omega
theorem step_gcd {a b:Nat} (h:0<b):Nat.gcd b (a % b)=Nat.gcd a b:=by
  rw [Nat.gcd_comm b,← Nat.gcd_rec,Nat.gcd_comm]
theorem cast_mod (a b:Nat):((a:Int) % (b:Int))=((a % b:Nat):Int):=by omega
theorem frac_of {t b:Int} (hb:1≤b) {g:Nat} (hg:g=Nat.gcd t.natAbs b.toNat):0<g∧(g:Int)≤b∧IsFrac t b (t / (g:Int)) (b / (g:Int)):=by
  have eb:b=(b.toNat:Int):=by omega
  have hb0:0<b.toNat:=by omega
  have g0:0<g:=by rw [hg]; exact Nat.gcd_pos_of_pos_right _ hb0
  have gb:g ∣ b.toNat:=by rw [hg]; exact Nat.gcd_dvd_right _ _
  have gt:g ∣ t.natAbs:=by rw [hg]; exact Nat.gcd_dvd_left _ _
  have gle:g≤b.toNat:=Nat.le_of_dvd hb0 gb
  have gbI:(g:Int) ∣ b:=by rw [eb]; exact Int.natCast_dvd_natCast.mpr gb
  have gtI:(g:Int) ∣ t:=Int.ofNat_dvd_left.mpr gt
  obtain ⟨p,hp⟩:=gtI
  obtain ⟨q,hq⟩:=gbI
  have gI:(0:Int)<(g:Int):=by omega
  have gne:(g:Int)≠0:=by omega
  have e1:t / (g:Int)=p:=by rw [hp]; exact Int.mul_ediv_cancel_left p gne
  have e2:b / (g:Int)=q:=by rw [hq]; exact Int.mul_ediv_cancel_left q gne
  rw [e1,e2]
  have q1:1≤q:=by
    rcases Int.lt_or_le 0 q with h | h
    · omega
    · have:(g:Int) * q≤0:=Int.mul_nonpos_of_nonneg_of_nonpos (by omega) h
      omega
  refine ⟨g0,by omega,⟨q1,?_,?_,?_,?_⟩⟩
  ·
    have hq':b.toNat=g * q.toNat:=by
      have:(b.toNat:Int)=(g:Int) * (q.toNat:Int):=by
        rw [← eb,hq]
        congr 1
        omega
      exact_mod_cast this
    have hp':t.natAbs=g * p.natAbs:=by rw [hp,Int.natAbs_mul,Int.natAbs_natCast]
    have hh:g=g * Nat.gcd p.natAbs q.toNat:=by
      rw [← Nat.gcd_mul_left,← hp',← hq']
      exact hg
    have h1:Nat.gcd p.natAbs q.toNat=1:=by
      have:g * 1=g * Nat.gcd p.natAbs q.toNat:=by omega
      exact (Nat.eq_of_mul_eq_mul_left g0 this).symm
    have eq':q.natAbs=q.toNat:=by omega
    show Nat.gcd p.natAbs q.natAbs=1
    rw [eq']
    exact h1
  · rw [hp,hq]
    grind
  · rw [hp,Int.natAbs_mul,Int.natAbs_natCast]
    exact Nat.le_mul_of_pos_left _ g0
  · rw [hq]
    have:1 * q≤(g:Int) * q:=Int.mul_le_mul_of_nonneg_right (by omega) (by omega)
    omega
section
variable {P:Program} {w:World} {K:PySem.W.Frag} {mg:Str→Option Value} {base:Heap} {f:Addr} {fd:FuncData}
def sp_gcd:Sp:=fun vs H Q _=>∃ a b:Nat,vs=[.int a,.int b]∧Q (.int ((Nat.gcd a b:Nat):Int)) H
theorem sc_gcd:FnScope ["one","other","rest"] ["one","other"] (defScope s_greatest_common):=⟨rfl,rfl,rfl,by decide +kernel,rfl,by decide +kernel,by decide +kernel⟩
theorem ok_gcd (F:Fun K "greatest_common" "greatest_common" s_greatest_common f fd):FnOk P w K mg base CX0 1 f fd ["one","other"] sp_gcd:=by
  refine F.ok sc_gcd (fun vs H Q E h=>?_) (fun cdv A outer s H vs Q E hr h=>?_)
  · obtain ⟨a,b,rfl,_⟩:=h
    rfl
  obtain ⟨a,b,rfl,q⟩:=h
  refine ⟨_,(pss_cons (ps_while PassesOwn.never (pt_cmpR op_gt (pv 1) pe_int (nomark _))
    (pss_cons (ps_set (i:=2) sc_gcd.nd rfl (Or.inl rfl) (pe_op op_mod (pv 0) (pv 1)))
    (pss_cons (ps_set (i:=0) sc_gcd.nd rfl (Or.inl rfl) (pv 1))
    (pss_one (ps_set (i:=1) sc_gcd.nd rfl (Or.inl rfl) (pv 2))))))
    (pss_one (ps_ret (pv 0)))),?_⟩
  refine ⟨fun m σ H'=>H'=H∧∃ (x y:Nat) (z:Option V),σ=[some (.int x),some (.int y),z]∧y=m∧Nat.gcd x y=Nat.gcd a b,⟨b,rfl,a,b,none,rfl,rfl,rfl⟩,?_⟩
  rintro m σ H' ⟨rfl,x,y,z,rfl,rfl,e⟩
  refine ⟨_,rfl,_,_,rfl,rfl,_,rfl,?_⟩
  refine ite2 (fun c=>⟨_,fun σ' H' h=>h,?_⟩) (fun c=>?_)
  · have hy:(0:Int)<(y:Int):=of_decide_eq_true c
    refine ⟨_,rfl,_,rfl,_,_,rfl,rfl,hy,_,rfl,_,rfl,?_⟩
    refine ⟨x % y,Nat.mod_lt _ (by omega),rfl,y,x % y,some (.int ((x:Int) % (y:Int))),?_,rfl,?_⟩
    · rw [← cast_mod]
      rfl
    · rw [step_gcd (by omega)]
      exact e
  · have hy:¬ (0:Int)<(y:Int):=of_decide_eq_false (Bool.eq_false_iff.mpr c)
    have y0:y=0:=by omega
    refine ⟨_,rfl,?_⟩
    rw [y0,Nat.gcd_zero_right] at e
    rw [← e] at q
    exact q
def sp_fraction:Sp:=fun vs H Q _=>∃ t b:Int,vs=[.int t,.int b]∧1≤b∧Big b∧∀ r p q,H r=none→IsFrac t b p q→Q (.ref r) (upd H r (.tup [.int p,.int q]))
theorem sc_fraction:FnScope ["top","bottom","shared"] ["top","bottom"] (defScope s_fraction):=⟨rfl,rfl,rfl,by decide +kernel,rfl,by decide +kernel,by decide +kernel⟩
theorem ok_fraction (F:Fun K "fraction" "fraction" s_fraction f fd) (B:Blt mg) (C_gcd:Cal P w K mg base 1 "greatest_common" ["one","other"] sp_gcd):FnOk P w K mg base CX0 2 f fd ["top","bottom"] sp_fraction:=by
  refine F.ok sc_fraction (fun vs H Q E h=>?_) (fun cdv A outer s H vs Q E hr h=>?_)
  · obtain ⟨a,b,rfl,_⟩:=h
    rfl
  obtain ⟨t,b,rfl,hb,hB,q⟩:=h
  refine ⟨_,(pss_cons (ps_set (i:=2) sc_fraction.nd rfl (Or.inl rfl) (pe_fn C_gcd hr (by decide) rfl (pa_cons (pe_callB call_abs rfl B.abs_ PyProof.Rows.boot_abs (pa_cons (pv 0) pa_nil)) (pa_cons (pv 1) pa_nil))))
    (pss_one (ps_ret (pe_tup (pa_cons (pe_op op_fdivB (pv 0) (pv 2)) (pa_cons (pe_op op_fdivB (pv 1) (pv 2)) pa_nil)))))),?_⟩
  have eb:b=((b.toNat:Nat):Int):=by omega
  obtain ⟨g0,gb,fr⟩:=frac_of (t:=t) hb (g:=Nat.gcd t.natAbs b.toNat) rfl
  refine ⟨_,rfl,_,rfl,_,rfl,t.natAbs,b.toNat,?_,?_⟩
  · show [V.int (if t<0 then -t else t),V.int b]=[V.int (t.natAbs:Int),V.int (b.toNat:Int)]
    rw [abs_eq,← eb]
  have gB:Big ((Nat.gcd t.natAbs b.toNat:Nat):Int):=by
    unfold Big at *
    omega
  have gp:(0:Int)<((Nat.gcd t.natAbs b.toNat:Nat):Int):=by omega
  refine ⟨_,rfl,_,rfl,_,_,rfl,rfl,⟨gp,gB⟩,_,rfl,_,rfl,_,_,rfl,rfl,⟨gp,gB⟩,(by show 2≤sizeLine; decide),fun r hr=>?_⟩
  exact q r _ _ hr fr
end
end K43
namespace K43
open PySem L2
def But2 (a b:Addr) (H H':Hp):Prop:=∀ x o,x≠a→x≠b→H x=some o→H' x=some o
theorem But2.refl (a b:Addr) (H:Hp):But2 a b H H:=fun _ _ _ _ h=>h
theorem But2.trans {a b:Addr} {H H1 H2:Hp} (s:But2 a b H H1) (t:But2 a b H1 H2):But2 a b H H2:=fun x o n1 n2 h=>t x o n1 n2 (s x o n1 n2 h)
theorem Same.but2 {a b:Addr} {H H':Hp} (s:Same H H'):But2 a b H H':=fun x o _ _ h=>s x o h
theorem But2.updA {a b:Addr} {H H':Hp} (s:But2 a b H H') (o:HO):But2 a b H (upd H' a o):=fun x u n1 n2 h=>by rw [upd_ne n1]; exact s x u n1 n2 h
theorem But2.updB {a b:Addr} {H H':Hp} (s:But2 a b H H') (o:HO):But2 a b H (upd H' b o):=fun x u n1 n2 h=>by rw [upd_ne n2]; exact s x u n1 n2 h
theorem But2.same {a b:Addr} {H0 H H':Hp} (s:But2 a b H H') (s0:Same H0 H) (na:H0 a=none) (nb:H0 b=none):Same H0 H':=fun x o e=>s x o (ne_of_none e na) (ne_of_none e nb) (s0 x o e)
theorem But2.tup {a b:Addr} {H H':Hp} {xs ys:List V} (s:But2 a b H H') (ha:H a=some (.lst xs)) (hb:H b=some (.lst ys)):TupS H H':=fun x zs e=>s x _ (ne_of e ha (by intro z; cases z)) (ne_of e hb (by intro z; cases z)) e
def pV:Option Nat→V
  | none=>.non
  | some p=>.int (p:Int)
def rowG (g:Nat→Nat→Int) (b n:Nat):List V:=(List.range n).map fun p=>V.int (g b p)
theorem rowG_at {g:Nat→Nat→Int} {b n p:Nat} (h:p<n):(rowG g b n)[p]?=some (V.int (g b p)):=by unfold rowG; rw [List.getElem?_map,List.getElem?_range h]; rfl
def GainsAt (H:Hp) (gA hA pA:Addr) (c:List Bell) (g:Nat→Nat→Int):Prop:=gA≠hA∧gA≠pA∧∃ gs,H gA=some (.lst gs)∧∀ b x,c[b]?=some x→∃ a,a≠hA∧a≠pA∧gs[b]?=some (.ref a)∧H a=some (.lst (rowG g b x.lis.length))
theorem GainsAt.but {H H':Hp} {gA hA pA:Addr} {c:List Bell} {g:Nat→Nat→Int} (h:GainsAt H gA hA pA c g) (s:But2 hA pA H H'):GainsAt H' gA hA pA c g:=by
  obtain ⟨n1,n2,gs,e,r⟩:=h
  refine ⟨n1,n2,gs,s _ _ n1 n2 e,fun b x hx=>?_⟩
  obtain ⟨a,m1,m2,e1,e2⟩:=r b x hx
  exact ⟨a,m1,m2,e1,s _ _ m1 m2 e2⟩
def hF (hs:List Int) (x:Nat):Int:=hs.getD x 0
def pF (ps:List (Option Nat)) (x:Nat):Option Nat:=(ps[x]?).join
theorem hF_at {hs:List Int} {x:Nat} (h:x<hs.length):(hs.map V.int)[x]?=some (V.int (hF hs x)):=by
  unfold hF; rw [List.getElem?_map,List.getD_eq_getElem?_getD,List.getElem?_eq_getElem h]; rfl
theorem pF_at {ps:List (Option Nat)} {x:Nat} (h:x<ps.length):(ps.map pV)[x]?=some (pV (pF ps x)):=by
  unfold pF; rw [List.getElem?_map,List.getElem?_eq_getElem h]; rfl
theorem hF_set {hs:List Int} {b:Nat} (h:b<hs.length) (v:Int):hF (hs.set b v)=upf (hF hs) b v:=by
  funext x
  unfold hF upf
  rw [List.getD_eq_getElem?_getD,List.getElem?_set]
  by_cases e:x=b
  · subst e; rw [if_pos rfl,if_pos h,if_pos rfl]; rfl
  · rw [if_neg (Ne.symm e),if_neg e]
    show hs[x]?.getD 0=hs.getD x 0
    rw [List.getD_eq_getElem?_getD]
theorem pF_set {ps:List (Option Nat)} {b:Nat} (h:b<ps.length) (v:Option Nat):pF (ps.set b v)=upf (pF ps) b v:=by
  funext x
  unfold pF upf
  rw [List.getElem?_set]
  by_cases e:x=b
  · subst e; rw [if_pos rfl,if_pos h,if_pos rfl]; rfl
  · rw [if_neg (Ne.symm e),if_neg e]
theorem ixN_nat {n k:Nat} (h:k<n):ixN n (k:Int)=some k:=by unfold ixN; rw [if_pos (by omega),if_pos (by omega),Int.toNat_natCast]
section
variable {P:Program} {w:World} {K:PySem.W.Frag} {mg:Str→Option Value} {base:Heap} {f:Addr} {fd:FuncData}
def sp_gain:Sp:=fun vs H Q _=>∃ (v:V) (l:Lis) (m:Addr) (mt mb sd:Int),vs=[v,.ref m,.int sd]∧LisAt H v l∧1≤l.beats∧l.beats≤1000∧H m=some (.tup [.int mt,.int mb])∧(sd=1∨sd=-1)∧Q (.int (sd * (l.beats * mb - bkI l * mt))) H
theorem sc_gain:FnScope ["listening","mean","side"] ["listening","mean","side"] (defScope s_gain):=⟨rfl,rfl,rfl,by decide +kernel,rfl,by decide +kernel,by decide +kernel⟩
theorem ok_gain (F:Fun K "gain" "gain" s_gain f fd):FnOk P w K mg base CX0 1 f fd ["listening","mean","side"] sp_gain:=by
  refine F.ok sc_gain (fun vs H Q E h=>?_) (fun cdv A outer s H vs Q E hr h=>?_)
  · obtain ⟨v,l,m,mt,mb,sd,rfl,_⟩:=h
    rfl
  obtain ⟨v,l,m,mt,mb,sd,rfl,⟨a,rfl,ha⟩,b1,b2,hm,hsd,q⟩:=h
  refine ⟨_,(pss_one (ps_ret (pe_op op_mul (pv 2) (pe_op op_sub (pe_op op_mul (pe_ix ix_tup (pv 0) pe_int (fun _ _=>rfl)) (pe_ix ix_tup (pv 1) pe_int (fun _ _=>rfl))) (pe_op op_mul (pe_ix ix_tup (pv 0) pe_int (fun _ _=>rfl)) (pe_ix ix_tup (pv 1) pe_int (fun _ _=>rfl))))))),?_⟩
  have h1:=SqT.of (K:=K) ha
  have h2:=SqT.of (K:=K) hm
  have hb:=bkI_01 l
  refine ⟨_,rfl,_,rfl,a,_,_,_,rfl,rfl,h1,rfl,_,rfl,m,_,_,_,rfl,rfl,h2,rfl,_,_,rfl,rfl,.inl ⟨by omega,by omega⟩,_,rfl,a,_,_,_,rfl,rfl,h1,rfl,_,rfl,m,_,_,_,rfl,rfl,h2,rfl,_,_,rfl,rfl,.inl ⟨?_,?_⟩,_,_,rfl,rfl,_,_,rfl,rfl,.inl ⟨by omega,by omega⟩,q⟩
  · unfold bkI at hb; omega
  · unfold bkI at hb; omega
def sp_lift:Sp:=fun vs H Q _=>∃ (ch:V) (c:List Bell) (bA gA hA pA:Addr) (B:List Nat) (g:Nat→Nat→Int) (hs:List Int) (ps:List (Option Nat)) (t m:Nat) (R T:Nat→Nat),vs=[ch,.ref bA,.ref gA,.ref hA,.ref pA]∧ChoirAt H ch c∧FineP c∧
  H bA=some (.lst (nV B))∧bA≠hA∧bA≠pA∧hA≠pA∧(∀ b∈B,b<c.length)∧GainsAt H gA hA pA c g∧H hA=some (.lst (hs.map V.int))∧H pA=some (.lst (ps.map pV))∧hs.length=c.length∧ps.length=c.length∧BF c B g t (fun _ _=>False) (hF hs) (pF ps) none R T m∧(∀ b p l,lisAt c b p=some l→g b p≤100000)∧
  ∀ (H':Hp) (hs':List Int) (ps':List (Option Nat)) (lf:Option Nat) (R' T':Nat→Nat) (m':Nat) (dn:Nat→Nat→Prop),But2 hA pA H H'→H' hA=some (.lst (hs'.map V.int))→H' pA=some (.lst (ps'.map pV))→hs'.length=c.length→ps'.length=c.length→
    BF c B g t dn (hF hs') (pF ps') lf R' T' m'→(∀ b∈B,∀ p l,lisAt c b p=some l→dn b p)→m'≤m+6 * B.length→Q (pV lf) H'
theorem sc_lift:FnScope ["choir","bells","gains","heights","places","lifted","bell","place","listening","height"] ["choir","bells","gains","heights","places"] (defScope s_lift_once):=⟨rfl,rfl,rfl,by decide +kernel,rfl,by decide +kernel,by decide +kernel⟩
theorem ok_lift (F:Fun K "lift_once" "lift_once" s_lift_once f fd) (B0:Blt mg):FnOk P w K mg base CX0 1 f fd ["choir","bells","gains","heights","places"] sp_lift:=by
  refine F.ok sc_lift (fun vs H Q E h=>?_) (fun cdv A outer s H vs Q E hr h=>?_)
  · obtain ⟨ch,c,bA,gA,hA,pA,B,g,hs,ps,t,m,R,T,rfl,_⟩:=h
    rfl
  obtain ⟨ch,c,bA,gA,hA,pA,B,g,hs,ps,t,m0,R,T,rfl,hch,fp,hB,nB1,nB2,nHP,ltB,hG,hH,hP,lh,lp,bf,gG,q⟩:=h
  refine ⟨_,(pss_cons (ps_set (i:=5) sc_lift.nd rfl (Or.inl rfl) pe_non)
    (pss_cons (ps_for PassesOwn.never rfl (pi_list (pv 1)) (pg_name (i:=6) sc_lift.nd rfl (Or.inl rfl))
    (pss_one (ps_for PassesOwn.never rfl (pi_enumT rfl B0.enumerate_ (pa_cons (pe_ix ix_tup (pe_ix ix_tup (pv 0) (pv 6) (fun _ _=>rfl)) pe_int (fun _ _=>rfl)) pa_nil)) (pg_tup rfl (pgs_cons (pg_name (i:=7) sc_lift.nd rfl (Or.inl rfl)) (pgs_cons (pg_name (i:=8) sc_lift.nd rfl (Or.inl rfl)) pgs_nil)))
    (pss_cons (ps_set (i:=9) sc_lift.nd rfl (Or.inl rfl) (pe_op op_add (pe_ix ix_list (pv 3) (pe_ix ix_tup (pv 8) pe_int (fun _ _=>rfl)) (fun _ _=>rfl)) (pe_ix ix_list (pe_ix ix_list (pv 2) (pv 6) (fun _ _=>rfl)) (pv 7) (fun _ _=>rfl))))
    (pss_one (ps_if (pt_cmpR op_gt (pv 9) (pe_ix ix_list (pv 3) (pv 6) (fun _ _=>rfl)) (nomark _))
    (pss_cons (ps_asg (pv 9) (pg_sub (pv 3) (pv 6) set_list))
    (pss_cons (ps_asg (pv 7) (pg_sub (pv 4) (pv 6) set_list))
    (pss_one (ps_set (i:=5) sc_lift.nd rfl (Or.inl rfl) (pv 6)))))
    pss_nil))))))
    (pss_one (ps_ret (pv 5))))),?_⟩
  obtain ⟨a,vs,rfl,ha,prc⟩:=id hch
  refine ⟨_,rfl,bA,rfl,⟨_,SqL.of hB⟩,?_⟩
  refine for_list (K:=K) (a:=bA) (xs:=nV B) (fun i σ H2=>∃ (o6 o7 o8 o9:Option V) (hs:List Int) (ps:List (Option Nat)) (lf:Option Nat) (R T:Nat→Nat) (m:Nat) (dn:Nat→Nat→Prop),σ=[some (.ref a),some (.ref bA),some (.ref gA),some (.ref hA),some (.ref pA),some (pV lf),o6,o7,o8,o9]∧
      But2 hA pA H H2∧H2 hA=some (.lst (hs.map V.int))∧H2 pA=some (.lst (ps.map pV))∧hs.length=c.length∧ps.length=c.length∧BF c B g t dn (hF hs) (pF ps) lf R T m∧(∀ j,j<i→∀ b,B[j]?=some b→∀ p l,lisAt c b p=some l→dn b p)∧m≤m0+6 * i)
    ⟨_,_,_,_,hs,ps,none,R,T,m0,_,rfl,.refl _ _ H,hH,hP,lh,lp,bf,(fun j hj=>absurd hj (Nat.not_lt_zero j)),Nat.le_refl _⟩ (fun i σ H2 _ ⟨_,_,_,_,_,_,_,_,_,_,_,_,z,_⟩=>SqL.of (z _ _ nB1 nB2 hB)) ?_ ?_
  · rintro i y σ H2 hy ⟨o6,o7,o8,o9,hs,ps,lf,R,T,m,dn,rfl,s2,hH2,hP2,lh,lp,bf,dn1,mi⟩
    obtain ⟨b,hb,rfl⟩:∃ b,B[i]?=some b∧y=.int (b:Int):=by
      unfold nV at hy
      rw [List.getElem?_map] at hy
      cases e:B[i]? with
      | none=>rw [e] at hy; cases hy
      | some k=>rw [e] at hy; cases hy; exact ⟨k,rfl,rfl⟩
    have bB:b∈B:=List.mem_of_getElem? hb
    have bc:b<c.length:=ltB b bB
    obtain ⟨x,hx⟩:∃ x,c[b]?=some x:=⟨c[b],List.getElem?_eq_getElem bc⟩
    obtain ⟨bv,hbv,p,tt,ls,rfl,hp,ht,prl⟩:=paired_at' prc hx
    have tS:=s2.tup hH hP
    refine ⟨_,rfl,_,rfl,a,_,_,_,rfl,rfl,SqT.of (tS _ _ ha),atI_nat hbv,p,_,_,_,rfl,rfl,SqT.of (tS _ _ hp),rfl,tt,rfl,⟨_,SqT.of (tS _ _ ht)⟩,?_⟩
    refine for_enumT (K:=K) (a:=tt) (xs:=ls) (fun j σ H3=>∃ (o7 o8 o9:Option V) (hs:List Int) (ps:List (Option Nat)) (lf:Option Nat) (R T:Nat→Nat) (m:Nat) (dn:Nat→Nat→Prop),σ=[some (.ref a),some (.ref bA),some (.ref gA),some (.ref hA),some (.ref pA),some (pV lf),some (.int (b:Int)),o7,o8,o9]∧
        But2 hA pA H H3∧H3 hA=some (.lst (hs.map V.int))∧H3 pA=some (.lst (ps.map pV))∧hs.length=c.length∧ps.length=c.length∧BF c B g t dn (hF hs) (pF ps) lf R T m∧(∀ j,j<i→∀ b,B[j]?=some b→∀ p l,lisAt c b p=some l→dn b p)∧(∀ p,p<j→dn b p)∧m≤m0+6 * i+j)
      ⟨_,_,_,hs,ps,lf,R,T,m,dn,rfl,s2,hH2,hP2,lh,lp,bf,dn1,(fun p hp=>absurd hp (Nat.not_lt_zero p)),mi⟩ (fun j σ H3 _ ⟨_,_,_,_,_,_,_,_,_,_,_,z,_⟩=>SqT.of ((z.tup hH hP) _ _ ht)) ?_ ?_
    · rintro j z σ H3 TT hz ⟨o7,o8,o9,hs,ps,lf,R,T,m,dn,rfl,s3,hH3,hP3,lh,lp,bf,dn1,dn2,mj⟩ hTT
      obtain ⟨l,hl,zz,rfl,hzz⟩:=paired_at prl hz
      have hla:lisAt c b j=some l:=lisAt_of hx hl
      have s4:Same H3 (upd H3 TT (.tup [.int (j:Int),.ref zz])):=same_new hTT _
      have eT:(upd H3 TT (.tup [.int (j:Int),.ref zz])) TT=some (.tup [.int (j:Int),.ref zz]):=upd_same
      refine ⟨TT,_,rfl,SqT.of eT,rfl,_,_,rfl,_,_,rfl,rfl,?_⟩
      have hH4:=s4 _ _ hH3
      have hP4:=s4 _ _ hP3
      have s04:But2 hA pA H _:=s3.trans (Same.but2 s4)
      generalize upd H3 TT (.tup [.int (j:Int),.ref zz])=H4 at s4 eT hH4 hP4 s04 ⊢
      have tS4:=s04.tup hH hP
      obtain ⟨_,_,gs,hgs,rows⟩:=hG.but s04
      obtain ⟨ga,_,_,hga,hrow⟩:=rows b x hx
      have wc:=(fp.lis hla).1
      have jl:j<x.lis.length:=(List.getElem?_eq_some_iff.mp hl).1
      refine ⟨_,rfl,_,rfl,zz,_,_,_,rfl,rfl,SqT.of (tS4 _ _ hzz),rfl,hA,_,_,_,rfl,rfl,SqL.of hH4,atI_nat (hF_at (by omega)),_,rfl,_,rfl,gA,_,_,_,rfl,rfl,SqL.of hgs,atI_nat hga,_,rfl,ga,_,_,_,rfl,rfl,SqL.of hrow,atI_nat (rowG_at jl),_,_,rfl,rfl,?_⟩
      refine ⟨_,rfl,_,rfl,_,rfl,hA,_,_,_,rfl,rfl,SqL.of hH4,atI_nat (hF_at (by omega)),_,_,rfl,rfl,_,rfl,?_⟩
      refine ite2 (fun cc=>?_) (fun cc=>?_)
      · have gt:hF hs b<hF hs l.whom+g b j:=of_decide_eq_true cc
        have bf2:=bf_lift bf bB hla gt (gG b j l hla)
        refine ⟨_,rfl,_,rfl,_,rfl,hA,_,_,b,rfl,rfl,hH4,(by rw [List.length_map]; exact ixN_nat (by omega)),?_⟩
        rw [← List.map_set]
        have s5:=s04.updA (.lst ((hs.set b (hF hs l.whom+g b j)).map V.int))
        have hH5:=upd_same (H:=H4) (a:=hA) (o:=.lst ((hs.set b (hF hs l.whom+g b j)).map V.int))
        have hP5:(upd H4 hA (.lst ((hs.set b (hF hs l.whom+g b j)).map V.int))) pA=some (.lst (ps.map pV)):=by rw [upd_ne (Ne.symm nHP)]; exact hP4
        generalize upd H4 hA (.lst ((hs.set b (hF hs l.whom+g b j)).map V.int))=H5 at s5 hH5 hP5 ⊢
        refine ⟨_,rfl,_,rfl,_,rfl,pA,_,_,b,rfl,rfl,hP5,(by rw [List.length_map]; exact ixN_nat (by omega)),?_⟩
        have es:(ps.map pV).set b (V.int (j:Int))=(ps.set b (some j)).map pV:=by rw [List.map_set]; rfl
        rw [es]
        refine ⟨_,rfl,?_⟩
        refine ⟨_,_,_,hs.set b (hF hs l.whom+g b j),ps.set b (some j),some b,upf R b t,upf T b (m+1),m+1,(fun x q=>dn x q∨(x=b∧q=j)),rfl,s5.updB _,by rw [upd_ne nHP]; exact hH5,upd_same,by rw [List.length_set]; exact lh,by rw [List.length_set]; exact lp,?_,fun k hk y hy p l hl=>.inl (dn1 k hk y hy p l hl),fun p hp=>?_,by omega⟩
        · rw [hF_set (by omega),pF_set (by omega)]; exact bf2
        · by_cases e:p=j
          · exact .inr ⟨rfl,e⟩
          · exact .inl (dn2 p (by omega))
      · have le:hF hs l.whom+g b j≤hF hs b:=by have z:¬ (hF hs b<hF hs l.whom+g b j):=fun z=>cc (decide_eq_true z); omega
        refine ⟨_,_,_,hs,ps,lf,R,T,m,(fun x q=>dn x q∨(x=b∧q=j)),rfl,s04,hH4,hP4,lh,lp,bf_no bf hla le,fun k hk y hy p l hl=>.inl (dn1 k hk y hy p l hl),fun p hp=>?_,by omega⟩
        by_cases e:p=j
        · exact .inr ⟨rfl,e⟩
        · exact .inl (dn2 p (by omega))
    · rintro σ H3 ⟨o7,o8,o9,hs,ps,lf,R,T,m,dn,rfl,s3,hH3,hP3,lh,lp,bf,dn1,dn2,mj⟩
      have l6:=(fp.bell x (List.mem_of_getElem? hx)).2.1
      rw [paired_len prl] at mj
      refine ⟨_,_,_,_,hs,ps,lf,R,T,m,dn,rfl,s3,hH3,hP3,lh,lp,bf,(fun k hk y hy p l hl=>?_),by omega⟩
      by_cases e:k=i
      · rw [e,hb] at hy
        cases hy
        obtain ⟨x',hx',hl'⟩:=lisAt_bell hl
        rw [hx] at hx'
        cases hx'
        refine dn2 p ?_
        rw [paired_len prl]
        exact (List.getElem?_eq_some_iff.mp hl').1
      · exact dn1 k (by omega) y hy p l hl
  · rintro σ H2 ⟨o6,o7,o8,o9,hs,ps,lf,R,T,m,dn,rfl,s2,hH2,hP2,lh,lp,bf,dn1,mi⟩
    rw [nV_len] at mi
    refine ⟨_,rfl,q H2 hs ps lf R T m dn s2 hH2 hP2 lh lp bf (fun b hb p l hl=>?_) mi⟩
    obtain ⟨k,hk,e⟩:=List.getElem_of_mem hb
    exact dn1 k (by rw [nV_len]; exact hk) b (by rw [List.getElem?_eq_getElem hk,e]) p l hl
end
end K43
namespace K43
open PySem L2
def StepAt (H:Hp) (v:V) (s:Nat×Nat):Prop:=∃ a,v=.ref a∧H a=some (.tup [.int (s.1:Int),.int (s.2:Int)])
theorem StepAt.mono {H H':Hp} (t:TupS H H') {v:V} {s:Nat×Nat} (h:StepAt H v s):StepAt H' v s:=by
  obtain ⟨a,e,q⟩:=h
  exact ⟨a,e,t _ _ q⟩
def RingAt (H:Hp) (r:Addr) (ring:List (Nat×Nat)):Prop:=∃ vs,H r=some (.lst vs)∧Paired (StepAt H) vs ring
theorem RingAt.same {H H':Hp} (s:Same H H') {r:Addr} {ring:List (Nat×Nat)} (h:RingAt H r ring):RingAt H' r ring:=by
  obtain ⟨vs,e,p⟩:=h
  exact ⟨vs,s _ _ e,paired_imp (fun _ _ z=>z.mono (Same.tup s)) p⟩
def lenAt (r:Addr) (H:Hp):Nat:=match H r with
  | some (.lst xs)=>xs.length
  | _=>0
theorem lenAt_of {r:Addr} {H:Hp} {xs:List V} (h:H r=some (.lst xs)):lenAt r H=xs.length:=by unfold lenAt; rw [h]
theorem hop {H:Hp} {vs:List V} {c:List Bell} (prc:Paired (BellAt H) vs c) {x p:Nat} {l:Lis} (hl:lisAt c x p=some l) :
    ∃ q t ls zz,vs[x]?=some (.ref q)∧(∃ v1 v2 v3,H q=some (.tup [v1,v2,v3,.ref t]))∧H t=some (.tup ls)∧ls[p]?=some (.ref zz)∧H zz=some (.tup (lisV l)):=by
  obtain ⟨b,hb,hp⟩:=lisAt_bell hl
  obtain ⟨bv,hbv,q,t,ls,rfl,hq,ht,prl⟩:=paired_at' prc hb
  obtain ⟨z,hz,zz,rfl,hzz⟩:=paired_at' prl hp
  exact ⟨q,t,ls,zz,hbv,⟨_,_,_,hq⟩,ht,hz,hzz⟩
section
variable {P:Program} {w:World} {K:PySem.W.Frag} {mg:Str→Option Value} {base:Heap} {f:Addr} {fd:FuncData}
def sp_ringfrom:Sp:=fun vs H Q _=>∃ (ch:V) (c:List Bell) (pA:Addr) (ps:List (Option Nat)) (B:List Nat) (y:Nat),vs=[ch,.ref pA,.int (y:Int)]∧ChoirAt H ch c∧H pA=some (.lst (ps.map pV))∧ps.length=c.length∧(∀ b∈B,b<c.length)∧B.length≤6∧Round0 c B (pF ps) y∧
  ∀ (H':Hp) (r:Addr) (ring:List (Nat×Nat)),Same H H'→H r=none→RingAt H' r ring→RingIs c B ring→(∀ s∈ring,pF ps s.1=some s.2)→Q (.ref r) H'
theorem sc_ringfrom:FnScope ["choir","places","bell","ring","after"] ["choir","places","bell"] (defScope s_ring_from):=⟨rfl,rfl,rfl,by decide +kernel,rfl,by decide +kernel,by decide +kernel⟩
theorem ok_ringfrom (F:Fun K "ring_from" "ring_from" s_ring_from f fd):FnOk P w K mg base CX0 1 f fd ["choir","places","bell"] sp_ringfrom:=by
  refine F.ok sc_ringfrom (fun vs H Q E h=>?_) (fun cdv A outer s H vs Q E hr h=>?_)
  · obtain ⟨ch,c,pA,ps,B,y,rfl,_⟩:=h
    rfl
  obtain ⟨ch,c,pA,ps,B,y,rfl,hch,hP,lp,ltB,b6,ro,q⟩:=h
  refine ⟨_,(pss_cons (ps_set (i:=3) sc_ringfrom.nd rfl (Or.inl rfl) (pe_lst (pa_cons (pe_tup (pa_cons (pv 2) (pa_cons (pe_ix ix_list (pv 1) (pv 2) (fun _ _=>rfl)) pa_nil))) pa_nil)))
    (pss_cons (ps_set (i:=4) sc_ringfrom.nd rfl (Or.inl rfl) (pe_ix ix_tup (pe_ix ix_tup (pe_ix ix_tup (pe_ix ix_tup (pv 0) (pv 2) (fun _ _=>rfl)) pe_int (fun _ _=>rfl)) (pe_ix ix_list (pv 1) (pv 2) (fun _ _=>rfl)) (fun _ _=>rfl)) pe_int (fun _ _=>rfl)))
    (pss_cons (ps_while PassesOwn.never (pt_cmpR op_ne (pv 4) (pv 2) (nomark _))
    (pss_cons (ps_expr (pe_bm PySem.F.plainAttrs_list PySem.F.slot_list_append PySem.F.type_list_append mt_append (pv 3) (pa_cons (pe_tup (pa_cons (pv 4) (pa_cons (pe_ix ix_list (pv 1) (pv 4) (fun _ _=>rfl)) pa_nil))) pa_nil)))
    (pss_one (ps_set (i:=4) sc_ringfrom.nd rfl (Or.inl rfl) (pe_ix ix_tup (pe_ix ix_tup (pe_ix ix_tup (pe_ix ix_tup (pv 0) (pv 4) (fun _ _=>rfl)) pe_int (fun _ _=>rfl)) (pe_ix ix_list (pv 1) (pv 4) (fun _ _=>rfl)) (fun _ _=>rfl)) pe_int (fun _ _=>rfl))))))
    (pss_one (ps_ret (pv 3)))))),?_⟩
  obtain ⟨a,vs,rfl,ha,prc⟩:=id hch
  obtain ⟨d,d1,d2,ed,fb⟩:=first_back ro
  have yc:y<c.length:=ltB _ (ro.mem 0)
  have at1:∀ m,∃ (p:Nat) (l:Lis),pF ps (nxi c (pF ps) y m)=some p∧lisAt c (nxi c (pF ps) y m) p=some l∧nxi c (pF ps) y m<ps.length∧nxi c (pF ps) y (m+1)=l.whom:=fun m=>by
    obtain ⟨p,l,hp,hl⟩:=ro.set m
    exact ⟨p,l,hp,hl,by rw [lp]; exact ltB _ (ro.mem m),nx_at hp hl⟩
  obtain ⟨p0,l0,hp0,hl0,y0,n1⟩:=at1 0
  obtain ⟨q0,t0,ls0,z0,g1,⟨_,_,_,g2⟩,g3,g4,g5⟩:=hop prc hl0
  have pat0:(ps.map pV)[y]?=some (.int (p0:Int)):=by have z:=pF_at y0; rw [hp0] at z; exact z
  refine ⟨_,rfl,_,rfl,_,rfl,pA,_,_,_,rfl,rfl,SqL.of hP,atI_nat pat0,(by show 2≤sizeLine; decide),fun t ht=>?_⟩
  have s1:=same_new ht (.tup [.int (y:Int),.int (p0:Int)])
  refine ⟨(by show 1≤sizeLine; decide),fun r hr0=>?_⟩
  have s2:=s1.trans (same_new hr0 (.lst [.ref t]))
  have hr1:=upd_same (H:=upd H t (.tup [.int (y:Int),.int (p0:Int)])) (a:=r) (o:=.lst [.ref t])
  have ht2:(upd (upd H t (.tup [.int (y:Int),.int (p0:Int)])) r (.lst [.ref t])) t=some (.tup [.int (y:Int),.int (p0:Int)]):=same_new hr0 _ _ _ upd_same
  have nr:H r=none:=s1.free hr0
  generalize (upd (upd H t (.tup [.int (y:Int),.int (p0:Int)])) r (.lst [.ref t]))=H2 at s2 hr1 ht2 ⊢
  refine ⟨_,rfl,_,rfl,a,_,_,_,rfl,rfl,SqT.of (s2 _ _ ha),atI_nat g1,q0,_,_,_,rfl,rfl,SqT.of (s2 _ _ g2),rfl,_,rfl,_,rfl,pA,_,_,_,rfl,rfl,SqL.of (s2 _ _ hP),atI_nat pat0,t0,_,_,_,rfl,rfl,SqT.of (s2 _ _ g3),atI_nat g4,z0,_,_,_,rfl,rfl,SqT.of (s2 _ _ g5),rfl,?_⟩
  have e1:(V.int (l0.whom:Int))=V.int (nxi c (pF ps) y 1:Nat):=by rw [n1]
  have ring1:RingAt H2 r (stepsOf c (pF ps) y 1):=by
    refine ⟨_,hr1,.cons ⟨t,rfl,?_⟩ .nil⟩
    show H2 t=some (.tup [.int ((nxi c (pF ps) y 0:Nat):Int),.int (((pF ps (nxi c (pF ps) y 0)).getD 0:Nat):Int)])
    rw [hp0]; exact ht2
  refine while_by (fun σ H4=>∃ m,1≤m∧m≤d∧σ=[some (.ref a),some (.ref pA),some (.int (y:Int)),some (.ref r),some (.int ((nxi c (pF ps) y m:Nat):Int))]∧Same H H4∧RingAt H4 r (stepsOf c (pF ps) y m)) (fun _ H4=>d - lenAt r H4)
    ⟨1,Nat.le_refl _,d1,by show _=[some (V.ref a),some (V.ref pA),some (V.int (y:Int)),some (V.ref r),some (V.int ((nxi c (pF ps) y 1:Nat):Int))]; rw [← e1]; rfl,s2,ring1⟩ ?_ ?_
  · rintro σ H4 ⟨m,m1,m2,rfl,s4,rg⟩
    refine ⟨_,rfl,_,rfl,rfl,_,rfl,?_⟩
    refine ite2 (fun z=>?_) (fun z=>?_)
    · have ne:nxi c (pF ps) y m≠y:=fun e=>by rw [e] at z; simp at z
      have md:m<d:=by
        rcases Nat.lt_or_ge m d with h | h
        · exact h
        · have:m=d:=by omega
          rw [this] at ne
          exact absurd ed ne
      obtain ⟨p,l,hp,hl,xl,nn⟩:=at1 m
      obtain ⟨q1,t1,ls1,z1,k1,⟨_,_,_,k2⟩,k3,k4,k5⟩:=hop prc hl
      have pat:(ps.map pV)[nxi c (pF ps) y m]?=some (.int (p:Int)):=by rw [pF_at xl,hp]; rfl
      obtain ⟨xs,hxs,prx⟩:=id rg
      have lx:=paired_len prx
      rw [stepsOf_len] at lx
      refine ⟨_,rfl,.inl ⟨rfl,_,SqL.of hxs⟩,_,rfl,_,rfl,_,rfl,pA,_,_,_,rfl,rfl,SqL.of (s4 _ _ hP),atI_nat pat,(by show 2≤sizeLine; decide),fun t ht=>?_⟩
      have s5:=same_new ht (.tup [.int ((nxi c (pF ps) y m:Nat):Int),.int (p:Int)])
      have hxs5:=s5 _ _ hxs
      refine ⟨r,_,_,rfl,rfl,hxs5,small1000 (by omega),?_⟩
      have s6:=(s4.trans s5).upd nr (.lst (xs++[.ref t]))
      have tS:TupS (upd H4 t (.tup [.int ((nxi c (pF ps) y m:Nat):Int),.int (p:Int)])) (upd (upd H4 t (.tup [.int ((nxi c (pF ps) y m:Nat):Int),.int (p:Int)])) r (.lst (xs++[.ref t]))):=tup_upd fun zs e=>by rw [hxs5] at e; cases e
      have rg6:RingAt (upd (upd H4 t (.tup [.int ((nxi c (pF ps) y m:Nat):Int),.int (p:Int)])) r (.lst (xs++[.ref t]))) r (stepsOf c (pF ps) y (m+1)):=by
        refine ⟨_,upd_same,?_⟩
        rw [stepsOf_succ]
        refine paired_snoc ⟨t,rfl,?_⟩ (paired_imp (fun _ _ z=>(z.mono (Same.tup s5)).mono tS) prx)
        rw [hp]
        exact tS _ _ upd_same
      generalize (upd (upd H4 t (.tup [.int ((nxi c (pF ps) y m:Nat):Int),.int (p:Int)])) r (.lst (xs++[.ref t])))=H6 at s6 rg6 ⊢
      refine ⟨_,rfl,_,rfl,a,_,_,_,rfl,rfl,SqT.of (s6 _ _ ha),atI_nat k1,q1,_,_,_,rfl,rfl,SqT.of (s6 _ _ k2),rfl,_,rfl,_,rfl,pA,_,_,_,rfl,rfl,SqL.of (s6 _ _ hP),atI_nat pat,t1,_,_,_,rfl,rfl,SqT.of (s6 _ _ k3),atI_nat k4,z1,_,_,_,rfl,rfl,SqT.of (s6 _ _ k5),rfl,?_⟩
      refine ⟨⟨m+1,by omega,md,?_,s6,rg6⟩,?_⟩
      · show _=[some (V.ref a),some (V.ref pA),some (V.int (y:Int)),some (V.ref r),some (V.int ((nxi c (pF ps) y (m+1):Nat):Int))]
        rw [nn]; rfl
      · obtain ⟨xs6,h6,p6⟩:=rg6
        have l6:=paired_len p6
        rw [stepsOf_len] at l6
        show d - lenAt r H6<d - lenAt r H4
        rw [lenAt_of h6,lenAt_of hxs]
        omega
    · have e:nxi c (pF ps) y m=y:=by
        refine Classical.byContradiction fun ne=>z ?_
        have:¬ V.int ((nxi c (pF ps) y m:Nat):Int)=V.int (y:Int):=fun zz=>by injection zz with zz; omega
        show (!decide _)=true
        rw [decide_eq_false this]; rfl
      have md:m=d:=by
        rcases Nat.lt_or_ge m d with h | h
        · exact absurd e (fb m m1 h)
        · omega
      subst md
      refine ⟨_,rfl,q H4 r _ s4 nr rg (steps_ring ro m1 e fb) fun s hs=>?_⟩
      unfold stepsOf at hs
      obtain ⟨i,_,rfl⟩:=List.mem_map.mp hs
      obtain ⟨p,l,hp,_⟩:=ro.set i
      show pF ps (nxi c (pF ps) y i)=some ((pF ps (nxi c (pF ps) y i)).getD 0)
      rw [hp]; rfl
  · rintro σ H4 Q1 Q2 hq ⟨z1,e1,z2,e2,e3,z3,e4,h⟩
    exact ⟨z1,e1,z2,e2,e3,z3,e4,hq _ _ h⟩
def sp_settled:Sp:=fun vs H Q _=>∃ (ch:V) (c:List Bell) (bA mA:Addr) (B:List Nat) (mt mb sd:Int),vs=[ch,.ref bA,.ref mA,.int sd]∧ChoirAt H ch c∧FineP c∧H bA=some (.lst (nV B))∧B≠[]∧B.length≤6∧(∀ b∈B,b<c.length)∧Closed c B∧H mA=some (.tup [.int mt,.int mb])∧(sd=1∨sd=-1)∧(0≤mt∧mt≤40000∧1≤mb∧mb≤6)∧
  (∀ (H':Hp) (T hA:Addr) (hs:List Int),Same H H'→H T=none→H' T=some (.tup [.ref hA,.non])→H' hA=some (.lst (hs.map V.int))→hs.length=c.length→StillR c B (gnF c sd mt mb) (hF hs)→(∀ x,0≤hF hs x∧hF hs x≤21600000)→Q (.ref T) H')∧
  ∀ (H':Hp) (T r:Addr) (ring:List (Nat×Nat)),Same H H'→H T=none→H' T=some (.tup [.non,.ref r])→H r=none→RingAt H' r ring→RingIs c B ring→0<sumG (gnF c sd mt mb) ring→Q (.ref T) H'
theorem sc_settled:FnScope ["choir","bells","mean","side","gains","heights","places","lifted","turn"] ["choir","bells","mean","side"] (defScope s_settled):=⟨rfl,rfl,rfl,by decide +kernel,rfl,by decide +kernel,by decide +kernel⟩
theorem ring_gain {c:List Bell} {B:List Nat} {g:Nat→Nat→Int} {t m:Nat} {done:Nat→Nat→Prop} {h:Nat→Int} {pl:Nat→Option Nat} {lf:Option Nat} {R T:Nat→Nat} (f:BF c B g t done h pl lf R T m) {ring:List (Nat×Nat)} (ri:RingIs c B ring) (hp:∀ s∈ring,pl s.1=some s.2):0<sumG g ring:=by
  obtain ⟨N,ph,N0,st⟩:=bf_gain f
  obtain ⟨s,r,rfl⟩:=List.exists_cons_of_ne_nil ri.ne
  have z:=leads_gain (N:=N) (ph:=ph) (g:=g) (ri.lead s rfl) fun u hu l hl=>st _ _ _ (hp u hu) hl
  refine Classical.byContradiction fun no=>?_
  have:N * sumG g (s::r)≤0:=Int.mul_nonpos_of_nonneg_of_nonpos (by omega) (by omega)
  omega
theorem ok_settled (F:Fun K "settled" "settled" s_settled f fd) (B0:Blt mg) (C_gain:Cal P w K mg base 1 "gain" ["listening","mean","side"] sp_gain) (C_lift:Cal P w K mg base 1 "lift_once" ["choir","bells","gains","heights","places"] sp_lift) (C_ring:Cal P w K mg base 1 "ring_from" ["choir","places","bell"] sp_ringfrom) :
    FnOk P w K mg base CX0 2 f fd ["choir","bells","mean","side"] sp_settled:=by
  refine F.ok sc_settled (fun vs H Q E h=>?_) (fun cdv A outer s H vs Q E hr h=>?_)
  · obtain ⟨ch,c,bA,mA,B,mt,mb,sd,rfl,_⟩:=h
    rfl
  obtain ⟨ch,c,bA,mA,B,mt,mb,sd,rfl,hch,fp,hB,neB,b6,ltB,cl,hM,hsd,⟨mt0,mt4,mb1,mb6⟩,qS,qR⟩:=h
  refine ⟨_,(pss_cons (ps_setComp (i:=4) ["bell"] ["mean","side"] [2,3] rfl sc_settled.nd rfl (Or.inl rfl) (pi_tup (pv 0)) (fun _ _ _ _ _=>(pg_name (i:=0) (show List.Nodup [("bell":Str),("mean":Str),("side":Str)] by decide +kernel) rfl (Or.inl rfl))) (fun _ _ _ _ _=>pts_nil) (fun _ _ _ _ _=>(pe_comp ["listening"] ["mean","side"] [1,2] rfl (pi_tupC (K:=K) rfl (pe_ix (ix_tupC (K:=K) rfl) (pv 0) pe_int (fun _ _=>rfl))) (fun _ _ _ _ _=>(pg_name (i:=0) (show List.Nodup [("listening":Str),("mean":Str),("side":Str)] by decide +kernel) rfl (Or.inl rfl))) (fun _ _ _ _ _=>pts_nil) (fun _ _ _ _ _=>(pe_fn C_gain hr (by decide) rfl (pa_cons (pv 0) (pa_cons (pv 1) (pa_cons (pv 2) pa_nil))))))))
    (pss_cons (ps_setComp (i:=5) ["bell"] [] [] rfl sc_settled.nd rfl (Or.inl rfl) (pi_tup (pv 0)) (fun _ _ _ _ _=>(pg_name (i:=0) (show List.Nodup [("bell":Str)] by decide +kernel) rfl (Or.inl rfl))) (fun _ _ _ _ _=>pts_nil) (fun _ _ _ _ _=>pe_int))
    (pss_cons (ps_setComp (i:=6) ["bell"] [] [] rfl sc_settled.nd rfl (Or.inl rfl) (pi_tup (pv 0)) (fun _ _ _ _ _=>(pg_name (i:=0) (show List.Nodup [("bell":Str)] by decide +kernel) rfl (Or.inl rfl))) (fun _ _ _ _ _=>pts_nil) (fun _ _ _ _ _=>pe_non))
    (pss_cons (ps_set (i:=7) sc_settled.nd rfl (Or.inl rfl) pe_non)
    (pss_cons (ps_for PassesOwn.never rfl (pi_range1 rfl B0.range_ (pa_cons (pe_callB call_len_seq rfl B0.len_ PySem.boot_len (pa_cons (pv 1) pa_nil)) pa_nil)) (pg_name (i:=8) sc_settled.nd rfl (Or.inl rfl))
    (pss_cons (ps_set (i:=7) sc_settled.nd rfl (Or.inl rfl) (pe_fn C_lift hr (by decide) rfl (pa_cons (pv 0) (pa_cons (pv 1) (pa_cons (pv 4) (pa_cons (pv 5) (pa_cons (pv 6) pa_nil)))))))
    (pss_one (ps_if (pt_cmpR op_isN (pv 7) pe_non (nomark _))
    (pss_one (ps_ret (pe_tup (pa_cons (pv 5) (pa_cons pe_non pa_nil)))))
    pss_nil))))
    (pss_cons (ps_for PassesOwn.never rfl (pi_range1 rfl B0.range_ (pa_cons (pe_callB call_len_seq rfl B0.len_ PySem.boot_len (pa_cons (pv 1) pa_nil)) pa_nil)) (pg_name (i:=8) sc_settled.nd rfl (Or.inl rfl))
    (pss_one (ps_set (i:=7) sc_settled.nd rfl (Or.inl rfl) (pe_ix ix_tup (pe_ix ix_tup (pe_ix ix_tup (pe_ix ix_tup (pv 0) (pv 7) (fun _ _=>rfl)) pe_int (fun _ _=>rfl)) (pe_ix ix_list (pv 6) (pv 7) (fun _ _=>rfl)) (fun _ _=>rfl)) pe_int (fun _ _=>rfl)))))
    (pss_one (ps_ret (pe_tup (pa_cons pe_non (pa_cons (pe_fn C_ring hr (by decide) rfl (pa_cons (pv 0) (pa_cons (pv 6) (pa_cons (pv 7) pa_nil)))) pa_nil))))))))))),?_⟩
  obtain ⟨a,vs,rfl,ha,prc⟩:=id hch
  have lvc:=paired_len prc
  have c6:=fp.l6
  have gAt:∀ {b p:Nat} {l:Lis},lisAt c b p=some l→gnF c sd mt mb b p=sd * (l.beats * mb - bkI l * mt):=fun {b p l} hl=>by unfold gnF; rw [btF_at hl,bkF_at hl]
  have gG:∀ b p l,lisAt c b p=some l→gnF c sd mt mb b p≤100000:=fun b p l hl=>by
    rw [gAt hl]
    obtain ⟨_,w1,w2⟩:=fp.lis hl
    have hk:=bkI_01 l
    have p1:l.beats * mb≤1000 * mb:=Int.mul_le_mul_of_nonneg_right w2 (by omega)
    have p2:0≤l.beats * mb:=Int.mul_nonneg (by omega) (by omega)
    have p3:bkI l * mt≤1 * mt:=Int.mul_le_mul_of_nonneg_right hk.2 mt0
    have p4:0≤bkI l * mt:=Int.mul_nonneg hk.1 mt0
    rcases hsd with e | e <;> rw [e] <;> omega
  generalize hg:gnF c sd mt mb=g at *
  refine ⟨_,rfl,a,rfl,⟨_,SqT.of ha⟩,fun gA hgA=>?_⟩
  refine comp_tup (K:=K) (a:=a) (xs:=vs) (fun j ys H2=>Same H H2∧ys.length=j∧∀ b x,b<j→c[b]?=some x→∃ y,H y=none∧ys[b]?=some (.ref y)∧y≠gA∧H2 y=some (.lst (rowG g b x.lis.length))) ⟨same_new hgA _,rfl,fun b x hb=>absurd hb (Nat.not_lt_zero b)⟩ (fun j ys H2 _ ⟨z,_⟩=>SqT.of (z _ _ ha)) ?_ ?_
  · rintro j y ys H2 hj ⟨s2,yl,rows⟩ hD2
    obtain ⟨x,hx,⟨bq,t,ls,rfl,hbq,ht,prl⟩⟩:=paired_at prc hj
    have jc:j<c.length:=(List.getElem?_eq_some_iff.mp hx).1
    refine ⟨rfl,tTrue_ite ?_⟩
    refine ⟨_,rfl,bq,_,_,_,rfl,rfl,SqT.of (s2 _ _ hbq),rfl,t,rfl,⟨_,SqT.of (s2 _ _ ht)⟩,fun D hD=>?_⟩
    refine comp_tup (K:=K) (a:=t) (xs:=ls) (fun i zs H3=>Same H2 H3∧zs=rowG g j i) ⟨same_new hD _,rfl⟩ (fun i zs H3 _ ⟨z,_⟩=>SqT.of (z _ _ (s2 _ _ ht))) ?_ ?_
    · rintro i z zs H3 hi ⟨s3,rfl⟩ hD3
      obtain ⟨l,hl,hla⟩:=paired_at prl hi
      have s03:=s2.trans s3
      have il:i<x.lis.length:=(List.getElem?_eq_some_iff.mp hl).1
      have l6:=(fp.bell x (List.mem_of_getElem? hx)).2.1
      have la:=lisAt_of hx hl
      obtain ⟨_,w1,w2⟩:=fp.lis la
      refine ⟨rfl,tTrue_ite ?_⟩
      refine ⟨_,rfl,_,rfl,_,rfl,z,l,mA,mt,mb,sd,rfl,hla.mono (Same.tup s03),w1,w2,s03 _ _ hM,hsd,?_⟩
      refine ⟨_,hD3,?_,_,⟨s3.upd hD _,rfl⟩,?_⟩
      · unfold rowG; rw [List.length_map,List.length_range]; exact small1000 (by omega)
      · have e:rowG g j (i+1)=rowG g j i++[V.int (sd * (l.beats * mb - bkI l * mt))]:=by
          unfold rowG; rw [List.range_succ,List.map_append,← gAt la]; rfl
        rw [e]; exact upd_same
    · rintro zs H3 ⟨s3,rfl⟩ hD3
      have e3:ls.length=x.lis.length:=paired_len prl
      rw [e3] at hD3
      have hD2':=s3 _ _ hD2
      have nDg:D≠gA:=fun e=>by rw [e,hD2] at hD; cases hD
      refine ⟨_,hD2',small1000 (by omega),_,⟨(s2.trans s3).upd hgA _,by rw [List.length_append,yl]; rfl,fun b x' hb hx'=>?_⟩,upd_same⟩
      by_cases e:b=j
      · subst e
        rw [hx] at hx'; cases hx'
        refine ⟨D,s2.free hD,?_,nDg,by rw [upd_ne nDg]; exact hD3⟩
        rw [List.getElem?_append_right (by omega),yl,Nat.sub_self]; rfl
      · obtain ⟨y,y0,y1,y2,y3⟩:=rows b x' (by omega) hx'
        refine ⟨y,y0,?_,y2,by rw [upd_ne y2]; exact s3 _ _ y3⟩
        rw [List.getElem?_append_left (by omega)]; exact y1
  rintro gs H1 ⟨s1,gl,rows⟩ hgA1
  refine ⟨_,rfl,a,rfl,⟨_,SqT.of (s1 _ _ ha)⟩,fun hA hhA=>?_⟩
  refine comp_tup (K:=K) (a:=a) (xs:=vs) (fun j ys H2=>Same H1 H2∧ys=(List.replicate j (0:Int)).map V.int) ⟨same_new hhA _,rfl⟩ (fun j ys H2 _ ⟨z,_⟩=>SqT.of (z _ _ (s1 _ _ ha))) ?_ ?_
  · rintro j y ys H2 hj ⟨s2,rfl⟩ hD2
    have jv:j<vs.length:=(List.getElem?_eq_some_iff.mp hj).1
    refine ⟨rfl,tTrue_ite ?_⟩
    refine ⟨_,hD2,?_,_,⟨s2.upd hhA _,rfl⟩,?_⟩
    · rw [List.length_map,List.length_replicate]; exact small1000 (by omega)
    · rw [List.replicate_succ',List.map_append]; exact upd_same
  rintro ys H2 ⟨s2,rfl⟩ hhA2
  rw [lvc] at hhA2
  refine ⟨_,rfl,a,rfl,⟨_,SqT.of (s2 _ _ (s1 _ _ ha))⟩,fun pA hpA=>?_⟩
  refine comp_tup (K:=K) (a:=a) (xs:=vs) (fun j ys H3=>Same H2 H3∧ys=(List.replicate j (none:Option Nat)).map pV) ⟨same_new hpA _,rfl⟩ (fun j ys H3 _ ⟨z,_⟩=>SqT.of (z _ _ (s2 _ _ (s1 _ _ ha)))) ?_ ?_
  · rintro j y ys H3 hj ⟨s3,rfl⟩ hD3
    have jv:j<vs.length:=(List.getElem?_eq_some_iff.mp hj).1
    refine ⟨rfl,tTrue_ite ?_⟩
    refine ⟨_,hD3,?_,_,⟨s3.upd hpA _,rfl⟩,?_⟩
    · rw [List.length_map,List.length_replicate]; exact small1000 (by omega)
    · rw [List.replicate_succ',List.map_append]; exact upd_same
  rintro ys H3 ⟨s3,rfl⟩ hpA3
  rw [lvc] at hpA3
  have s03:=s1.trans (s2.trans s3)
  have hhA3:=s3 _ _ hhA2
  have nHP:hA≠pA:=ne_of_none hhA2 hpA
  have nh:H hA=none:=s1.free hhA
  have np:H pA=none:=(s1.trans s2).free hpA
  have hG:GainsAt H3 gA hA pA c g:=by
    refine ⟨ne_of_none hgA1 hhA,ne_of_none (s2 _ _ hgA1) hpA,gs,s3 _ _ (s2 _ _ hgA1),fun b x hx=>?_⟩
    obtain ⟨y,y0,y1,y2,y3⟩:=rows b x (by rw [lvc]; exact (List.getElem?_eq_some_iff.mp hx).1) hx
    exact ⟨y,ne_of_none y3 hhA,ne_of_none (s2 _ _ y3) hpA,y1,s3 _ _ (s2 _ _ y3)⟩
  have e0:hF (List.replicate c.length (0:Int))=fun _=>0:=by
    funext x
    unfold hF
    rw [List.getD_eq_getElem?_getD,List.getElem?_replicate]
    split <;> rfl
  have e1:pF (List.replicate c.length (none:Option Nat))=fun _=>none:=by
    funext x
    unfold pF
    rw [List.getElem?_replicate]
    split <;> rfl
  have nB1:bA≠hA:=ne_of_none hB nh
  have nB2:bA≠pA:=ne_of_none hB np
  have b1:1≤B.length:=List.length_pos_iff.mpr neB
  refine ⟨_,rfl,bA,_,rfl,.inl (SqL.of (s03 _ _ hB)),_,rfl,by omega,by rw [nV_len]; omega,?_⟩
  rw [nV_len]
  refine for_range (n:=B.length) (fun i σ H4=>∃ (o8:Option V) (hs:List Int) (ps:List (Option Nat)) (lf:Option Nat) (R T:Nat→Nat) (m:Nat) (dn:Nat→Nat→Prop),σ=[some (.ref a),some (.ref bA),some (.ref mA),some (.int sd),some (.ref gA),some (.ref hA),some (.ref pA),some (pV lf),o8]∧
      But2 hA pA H3 H4∧H4 hA=some (.lst (hs.map V.int))∧H4 pA=some (.lst (ps.map pV))∧hs.length=c.length∧ps.length=c.length∧((i=0∧BF c B g 1 (fun _ _=>False) (hF hs) (pF ps) none R T m)∨(1≤i∧lf≠none∧BF c B g i dn (hF hs) (pF ps) lf R T m∧∀ b∈B,∀ p l,lisAt c b p=some l→dn b p))∧m≤36 * i)
    ⟨_,List.replicate c.length 0,List.replicate c.length none,none,_,_,0,(fun _ _=>False),rfl,.refl _ _ H3,hhA3,hpA3,List.length_replicate,List.length_replicate,.inl ⟨rfl,by rw [e0,e1]; exact bf_start c B g⟩,Nat.zero_le _⟩ ?_ ?_
  · rintro i σ H4 hi ⟨o8,hs,ps,lf,R,T,m,dn,rfl,s4,hH4,hP4,lh,lp,st,mi⟩
    have s04:Same H H4:=s4.same s03 nh np
    have bf:BF c B g (i+1) (fun _ _=>False) (hF hs) (pF ps) none R T m:=by
      rcases st with ⟨rfl,b⟩ | ⟨_,_,b,al⟩
      · exact b
      · exact bf_turn b al
    refine ⟨_,rfl,_,rfl,_,rfl,_,rfl,_,rfl,.ref a,c,bA,gA,hA,pA,B,g,hs,ps,i+1,m,R,T,rfl,hch.mono (Same.tup s04),fp,s04 _ _ hB,nB1,nB2,nHP,ltB,hG.but s4,hH4,hP4,lh,lp,bf,gG,fun H5 hs' ps' lf' R' T' m' dn' s5 hH5 hP5 lh' lp' bf' al' mm=>?_⟩
    have m36:m'≤36 * (i+1):=by omega
    have s05:Same H H5:=(s4.trans s5).same s03 nh np
    cases lf' with
    | none =>
      refine ⟨_,rfl,rfl,_,rfl,iteT ?_⟩
      refine ⟨_,rfl,(by show 2≤sizeLine; decide),fun T0 hT0=>?_⟩
      exact qS _ T0 hA hs' (s05.trans (same_new hT0 _)) (s05.free hT0) upd_same (same_new hT0 _ _ _ hH5) lh' (bf_still bf' al') fun x => by have z := bf'.hb x; have : (m' : Int) ≤ 216 := by omega
                                                                                                                                            omega
    | some x =>
      refine ⟨_,rfl,rfl,_,rfl,iteF ?_⟩
      exact ⟨_,hs',ps',some x,R',T',m',dn',rfl,s4.trans s5,hH5,hP5,lh',lp',.inr ⟨by omega,(fun z=>nomatch z),bf',al'⟩,m36⟩
  · rintro σ H4 ⟨o8,hs,ps,lf,R,T,m,dn,rfl,s4,hH4,hP4,lh,lp,st,_⟩
    have s04:Same H H4:=s4.same s03 nh np
    rcases st with ⟨z,_⟩ | ⟨_,nlf,bf,al⟩
    · omega
    cases lf with
    | none=>exact absurd rfl nlf
    | some x =>
      obtain ⟨Rx,xB⟩:=bf.l1 x rfl
      refine ⟨_,rfl,bA,_,rfl,.inl (SqL.of (s04 _ _ hB)),_,rfl,by omega,by rw [nV_len]; omega,?_⟩
      rw [nV_len]
      refine for_range (n:=B.length) (fun i σ H5=>H5=H4∧∃ o8:Option V,σ=[some (.ref a),some (.ref bA),some (.ref mA),some (.int sd),some (.ref gA),some (.ref hA),some (.ref pA),some (.int ((nxi c (pF ps) x i:Nat):Int)),o8])
        ⟨rfl,_,rfl⟩ ?_ ?_
      · rintro i σ H5 hi ⟨rfl,o8,rfl⟩
        obtain ⟨p,l,hp,hl⟩:=bf_set cl bf xB Rx hi
        obtain ⟨q1,t1,ls1,z1,k1,⟨_,_,_,k2⟩,k3,k4,k5⟩:=hop prc hl
        have xl:nxi c (pF ps) x i<ps.length:=by rw [lp]; exact ltB _ (bf_chain cl bf xB Rx i (by omega)).1
        have pat:(ps.map pV)[nxi c (pF ps) x i]?=some (.int (p:Int)):=by rw [pF_at xl,hp]; rfl
        refine ⟨_,rfl,_,rfl,a,_,_,_,rfl,rfl,SqT.of (s04 _ _ ha),atI_nat k1,q1,_,_,_,rfl,rfl,SqT.of (s04 _ _ k2),rfl,_,rfl,_,rfl,pA,_,_,_,rfl,rfl,SqL.of hP4,atI_nat pat,t1,_,_,_,rfl,rfl,SqT.of (s04 _ _ k3),atI_nat k4,z1,_,_,_,rfl,rfl,SqT.of (s04 _ _ k5),rfl,?_⟩
        refine ⟨rfl,some (.int (0+(i:Int))),?_⟩
        show _=[some (V.ref a),some (V.ref bA),some (V.ref mA),some (V.int sd),some (V.ref gA),some (V.ref hA),some (V.ref pA),some (V.int ((nxi c (pF ps) x (i+1):Nat):Int)),some (V.int (0+(i:Int)))]
        rw [show nxi c (pF ps) x (i+1)=l.whom from nx_at hp hl]; rfl
      · rintro σ H5 ⟨rfl,o8,rfl⟩
        have ro:=bf_round cl bf rfl xB Rx
        refine ⟨_,rfl,_,rfl,_,rfl,.ref a,c,pA,ps,B,_,rfl,hch.mono (Same.tup s04),hP4,lp,ltB,b6,ro,fun H6 r ring s6 nr rg ri pls=>?_⟩
        refine ⟨(by show 2≤sizeLine; decide),fun T0 hT0=>?_⟩
        have s7:=same_new hT0 (.tup [.non,.ref r])
        exact qR _ T0 r ring (s04.trans (s6.trans s7)) ((s04.trans s6).free hT0) upd_same (s04.free nr) (rg.same s7) ri (ring_gain bf ri pls)
end
end K43
namespace K43
open PySem L2
def lsOf (c:List Bell) (ring:List (Nat×Nat)):List Lis:=ring.map fun s=>(lisAt c s.1 s.2).getD ⟨0,0,false⟩
theorem lsOf_beats {c:List Bell}:∀ {ring:List (Nat×Nat)},(∀ s∈ring,∃ l,lisAt c s.1 s.2=some l)→((lsOf c ring).map (·.beats)).sum=sumG (btF c) ring∧((lsOf c ring).map bkI).sum=sumG (bkF c) ring
  | [],_=>⟨rfl,rfl⟩
  | s::r,h=>by
    obtain ⟨l,hl⟩:=h s List.mem_cons_self
    obtain ⟨a,b⟩:=lsOf_beats (ring:=r) fun s hs=>h s (List.mem_cons_of_mem _ hs)
    have e:lsOf c (s::r)=l::lsOf c r:=by unfold lsOf; rw [List.map_cons,hl]; rfl
    rw [e,List.map_cons,List.map_cons,List.sum_cons,List.sum_cons,a,b]
    show _=btF c s.1 s.2+sumG (btF c) r∧_=bkF c s.1 s.2+sumG (bkF c) r
    rw [btF_at hl,bkF_at hl]
    exact ⟨rfl,rfl⟩
theorem take_snocR {α:Type} {l:List α} {j:Nat} {x:α} (h:l[j]?=some x):l.take (j+1)=l.take j++[x]:=by rw [List.take_add_one,h]; rfl
section
variable {P:Program} {w:World} {K:PySem.W.Frag} {mg:Str→Option Value} {base:Heap} {f:Addr} {fd:FuncData}
def sp_meanof:Sp:=fun vs H Q _=>∃ (ch:V) (c:List Bell) (r:Addr) (ring:List (Nat×Nat)),vs=[ch,.ref r]∧ChoirAt H ch c∧FineP c∧RingAt H r ring∧(∀ s∈ring,∃ l,lisAt c s.1 s.2=some l)∧ring.length≤6∧1≤sumG (bkF c) ring∧
  ∀ (H':Hp) (m:Addr) (p q:Int),Same H H'→H m=none→H' m=some (.tup [.int p,.int q])→IsFrac (sumG (btF c) ring) (sumG (bkF c) ring) p q→Q (.ref m) H'
theorem sc_meanof:FnScope ["choir","ring","listenings","beats","backs"] ["choir","ring"] (defScope s_mean_of):=⟨rfl,rfl,rfl,by decide +kernel,rfl,by decide +kernel,by decide +kernel⟩
theorem ok_meanof (F:Fun K "mean_of" "mean_of" s_mean_of f fd) (B0:Blt mg) (C_fraction:Cal P w K mg base 2 "fraction" ["top","bottom"] sp_fraction):FnOk P w K mg base CX0 3 f fd ["choir","ring"] sp_meanof:=by
  refine F.ok sc_meanof (fun vs H Q E h=>?_) (fun cdv A outer s H vs Q E hr h=>?_)
  · obtain ⟨ch,c,r,ring,rfl,_⟩:=h
    rfl
  obtain ⟨ch,c,r,ring,rfl,hch,fp,rg,val,r6,bk1,q⟩:=h
  refine ⟨_,(pss_cons (ps_setComp (i:=2) ["bell","place"] ["choir"] [0] rfl sc_meanof.nd rfl (Or.inl rfl) (pi_list (pv 1)) (fun _ _ _ _ _=>(pg_tupC (n:=2) (K:=K) rfl rfl (pgs_cons (pg_name (i:=0) (show List.Nodup [("bell":Str),("place":Str),("choir":Str)] by decide +kernel) rfl (Or.inl rfl)) (pgs_cons (pg_name (i:=1) (show List.Nodup [("bell":Str),("place":Str),("choir":Str)] by decide +kernel) rfl (Or.inl rfl)) pgs_nil)))) (fun _ _ _ _ _=>pts_nil) (fun _ _ _ _ _=>(pe_ix (ix_tupC (K:=K) rfl) (pe_ix (ix_tupC (K:=K) rfl) (pe_ix (ix_tupC (K:=K) rfl) (pv 2) (pv 0) (fun _ _=>rfl)) pe_int (fun _ _=>rfl)) (pv 1) (fun _ _=>rfl))))
    (pss_cons (ps_set (i:=3) sc_meanof.nd rfl (Or.inl rfl) (pe_callB (call_sumV rfl) rfl B0.sum_ PyProof.Rows.boot_sum (pa_cons (pe_comp ["listening"] [] [] rfl (pi_list (pv 2)) (fun _ _ _ _ _=>(pg_name (i:=0) (show List.Nodup [("listening":Str)] by decide +kernel) rfl (Or.inl rfl))) (fun _ _ _ _ _=>pts_nil) (fun _ _ _ _ _=>(pe_ix (ix_tupC (K:=K) rfl) (pv 0) pe_int (fun _ _=>rfl)))) pa_nil)))
    (pss_cons (ps_set (i:=4) sc_meanof.nd rfl (Or.inl rfl) (pe_callB (call_sumV rfl) rfl B0.sum_ PyProof.Rows.boot_sum (pa_cons (pe_comp ["listening"] [] [] rfl (pi_list (pv 2)) (fun _ _ _ _ _=>(pg_name (i:=0) (show List.Nodup [("listening":Str)] by decide +kernel) rfl (Or.inl rfl))) (fun _ _ _ _ _=>pts_nil) (fun _ _ _ _ _=>(pe_ix (ix_tupC (K:=K) rfl) (pv 0) pe_int (fun _ _=>rfl)))) pa_nil)))
    (pss_one (ps_ret (pe_fn C_fraction hr (by decide) rfl (pa_cons (pv 3) (pa_cons (pv 4) pa_nil)))))))),?_⟩
  obtain ⟨a,vs,rfl,ha,prc⟩:=id hch
  obtain ⟨xs,hxs,prx⟩:=id rg
  have lx:=paired_len prx
  refine ⟨_,rfl,r,rfl,⟨_,SqL.of hxs⟩,fun L hL=>?_⟩
  refine comp_list (K:=K) (a:=r) (xs:=xs) (fun j ys H2=>Same H H2∧Paired (LisAt H2) ys (lsOf c (ring.take j))) ⟨same_new hL _,by rw [List.take_zero]; exact .nil⟩ (fun j ys H2 _ ⟨z,_⟩=>SqL.of (z _ _ hxs)) ?_ ?_
  · rintro j y ys H2 hj ⟨s2,pl⟩ hD2
    obtain ⟨st,hst,T,rfl,hT⟩:=paired_at prx hj
    have jr:j<ring.length:=(List.getElem?_eq_some_iff.mp hst).1
    obtain ⟨l,hl⟩:=val st (List.mem_of_getElem? hst)
    obtain ⟨q1,t1,ls1,z1,k1,⟨_,_,_,k2⟩,k3,k4,k5⟩:=hop prc hl
    refine ⟨T,_,rfl,SqT.of (s2 _ _ hT),rfl,_,_,rfl,_,_,rfl,rfl,?_⟩
    refine ⟨rfl,tTrue_ite ?_⟩
    refine ⟨_,rfl,_,rfl,a,_,_,_,rfl,rfl,SqT.of (s2 _ _ ha),atI_nat k1,q1,_,_,_,rfl,rfl,SqT.of (s2 _ _ k2),rfl,_,rfl,t1,_,_,_,rfl,rfl,SqT.of (s2 _ _ k3),atI_nat k4,?_⟩
    have ly:=paired_len pl
    unfold lsOf at ly
    rw [List.length_map,List.length_take] at ly
    have tS:TupS H2 (upd H2 L (.lst (ys++[.ref z1]))):=tup_upd fun zs e=>by rw [hD2] at e; cases e
    refine ⟨_,hD2,small1000 (by omega),_,⟨s2.upd hL _,?_⟩,upd_same⟩
    have e:lsOf c (ring.take (j+1))=lsOf c (ring.take j)++[l]:=by unfold lsOf; rw [take_snocR hst,List.map_append,List.map_singleton,hl]; rfl
    rw [e]
    exact paired_snoc ⟨z1,rfl,tS _ _ (s2 _ _ k5)⟩ (paired_imp (fun _ _ z=>z.mono tS) pl)
  rintro ys H1 ⟨s1,pl⟩ hL1
  rw [lx,List.take_length] at pl
  have ly:=paired_len pl
  have ll:(lsOf c ring).length=ring.length:=by unfold lsOf; rw [List.length_map]
  obtain ⟨sb,sk⟩:=lsOf_beats val
  refine ⟨_,rfl,L,rfl,⟨_,SqL.of hL1⟩,fun D hD=>?_⟩
  refine comp_list (K:=K) (a:=L) (xs:=ys) (fun j zs H2=>Same H1 H2∧zs=(((lsOf c ring).take j).map (·.beats)).map V.int) ⟨same_new hD _,rfl⟩ (fun j zs H2 _ ⟨z,_⟩=>SqL.of (z _ _ hL1)) ?_ ?_
  · rintro j y zs H2 hj ⟨s2,rfl⟩ hD2
    obtain ⟨l,hl,z,rfl,hz⟩:=paired_at pl hj
    refine ⟨rfl,tTrue_ite ?_⟩
    refine ⟨_,rfl,z,_,_,_,rfl,rfl,SqT.of (s2 _ _ hz),rfl,?_⟩
    refine ⟨_,hD2,?_,_,⟨s2.upd hD _,rfl⟩,?_⟩
    · rw [List.length_map,List.length_map,List.length_take]; exact small1000 (by omega)
    · rw [take_snocR hl,List.map_append,List.map_append]; exact upd_same
  rintro zs H2 ⟨s2,rfl⟩ hD2
  rw [ly,List.take_length] at hD2
  refine ⟨D,_,rfl,SqL.of hD2,?_⟩
  rw [sb]
  refine ⟨_,rfl,L,rfl,⟨_,SqL.of (s2 _ _ hL1)⟩,fun D' hD'=>?_⟩
  refine comp_list (K:=K) (a:=L) (xs:=ys) (fun j zs H3=>Same H2 H3∧zs=(((lsOf c ring).take j).map bkI).map V.int) ⟨same_new hD' _,rfl⟩ (fun j zs H3 _ ⟨z,_⟩=>SqL.of (z _ _ (s2 _ _ hL1))) ?_ ?_
  · rintro j y zs H3 hj ⟨s3,rfl⟩ hD3
    obtain ⟨l,hl,z,rfl,hz⟩:=paired_at pl hj
    refine ⟨rfl,tTrue_ite ?_⟩
    refine ⟨_,rfl,z,_,_,_,rfl,rfl,SqT.of (s3 _ _ (s2 _ _ hz)),rfl,?_⟩
    refine ⟨_,hD3,?_,_,⟨s3.upd hD' _,rfl⟩,?_⟩
    · rw [List.length_map,List.length_map,List.length_take]; exact small1000 (by omega)
    · rw [take_snocR hl,List.map_append,List.map_append]; exact upd_same
  rintro zs H3 ⟨s3,rfl⟩ hD3
  rw [ly,List.take_length] at hD3
  refine ⟨D',_,rfl,SqL.of hD3,?_⟩
  rw [sk]
  obtain ⟨_,_,_,bk2⟩:=ring_bounds fp val
  have s03:=s1.trans (s2.trans s3)
  refine ⟨_,rfl,_,rfl,_,_,rfl,bk1,?_,fun m p qq hm fr=>?_⟩
  · unfold Big
    exact Nat.lt_of_lt_of_le (show (sumG (bkF c) ring).natAbs<2 ^ 10 by omega) (Nat.pow_le_pow_right (by decide) (by decide))
  · exact q _ m p qq (s03.trans (same_new hm _)) (s03.free hm) upd_same fr
def sp_meanall:Sp:=fun vs H Q _=>∃ (ch:V) (c:List Bell) (sd:Int),vs=[ch,.int sd]∧ChoirAt H ch c∧FineP c∧∀ (H':Hp) (m:Addr),Same H H'→H m=none→H' m=some (.tup [.int (if sd=1 then 0 else (c.map btB).sum+1),.int 1])→Q (.ref m) H'
theorem sc_meanall:FnScope ["choir","side"] ["choir","side"] (defScope s_mean_that_all_beat):=⟨rfl,rfl,rfl,by decide +kernel,rfl,by decide +kernel,by decide +kernel⟩
theorem ok_meanall (F:Fun K "mean_that_all_beat" "mean_that_all_beat" s_mean_that_all_beat f fd) (B0:Blt mg):FnOk P w K mg base CX0 1 f fd ["choir","side"] sp_meanall:=by
  refine F.ok sc_meanall (fun vs H Q E h=>?_) (fun cdv A outer s H vs Q E hr h=>?_)
  · obtain ⟨ch,c,sd,rfl,_⟩:=h
    rfl
  obtain ⟨ch,c,sd,rfl,hch,fp,q⟩:=h
  refine ⟨_,(pss_cons (ps_if (pt_cmpR op_eq (pv 1) pe_int (nomark _))
    (pss_one (ps_ret (pe_tup (pa_cons pe_int (pa_cons pe_int pa_nil)))))
    pss_nil)
    (pss_one (ps_ret (pe_tup (pa_cons (pe_op op_add (pe_callB (call_sumV rfl) rfl B0.sum_ PyProof.Rows.boot_sum (pa_cons (pe_comp ["bell"] [] [] rfl (pi_tup (pv 0)) (fun _ _ _ _ _=>(pg_name (i:=0) (show List.Nodup [("bell":Str)] by decide +kernel) rfl (Or.inl rfl))) (fun _ _ _ _ _=>pts_nil) (fun _ _ _ _ _=>(pe_callB (call_sumVC (K:=K) rfl rfl) rfl B0.sum_ PyProof.Rows.boot_sum (pa_cons (pe_comp ["listening"] [] [] rfl (pi_tupC (K:=K) rfl (pe_ix (ix_tupC (K:=K) rfl) (pv 0) pe_int (fun _ _=>rfl))) (fun _ _ _ _ _=>(pg_name (i:=0) (show List.Nodup [("listening":Str)] by decide +kernel) rfl (Or.inl rfl))) (fun _ _ _ _ _=>pts_nil) (fun _ _ _ _ _=>(pe_ix (ix_tupC (K:=K) rfl) (pv 0) pe_int (fun _ _=>rfl)))) pa_nil)))) pa_nil)) pe_int) (pa_cons pe_int pa_nil)))))),?_⟩
  obtain ⟨a,vs,rfl,ha,prc⟩:=id hch
  have lvc:=paired_len prc
  have c6:=fp.l6
  refine ⟨_,rfl,rfl,_,rfl,ite2 (fun z=>?_) (fun z=>?_)⟩
  · have e:sd=1:=by have z':V.int sd=V.int 1:=of_decide_eq_true z; injection z'
    refine ⟨(by show 2≤sizeLine; decide),fun m hm=>?_⟩
    refine q _ m (same_new hm _) hm ?_
    rw [if_pos e]; exact upd_same
  · have e:¬ sd=1:=fun e=>z (decide_eq_true (by rw [e]))
    rw [if_neg e] at q
    refine ⟨_,rfl,a,rfl,⟨_,SqT.of ha⟩,fun D hD=>?_⟩
    refine comp_tup (K:=K) (a:=a) (xs:=vs) (fun j ys H2=>Same H H2∧ys=((c.take j).map btB).map V.int) ⟨same_new hD _,rfl⟩ (fun j ys H2 _ ⟨z,_⟩=>SqT.of (z _ _ ha)) ?_ ?_
    · rintro j y ys H2 hj ⟨s2,rfl⟩ hD2
      obtain ⟨x,hx,⟨bq,t,ls,rfl,hbq,ht,prl⟩⟩:=paired_at prc hj
      have jc:j<c.length:=(List.getElem?_eq_some_iff.mp hx).1
      have l6:=(fp.bell x (List.mem_of_getElem? hx)).2.1
      refine ⟨rfl,tTrue_ite ?_⟩
      refine ⟨_,rfl,bq,_,_,_,rfl,rfl,SqT.of (s2 _ _ hbq),rfl,t,rfl,⟨_,SqT.of (s2 _ _ ht)⟩,fun D' hD'=>?_⟩
      refine comp_tup (K:=K) (a:=t) (xs:=ls) (fun i zs H3=>Same H2 H3∧zs=((x.lis.take i).map (·.beats)).map V.int) ⟨same_new hD' _,rfl⟩ (fun i zs H3 _ ⟨z,_⟩=>SqT.of (z _ _ (s2 _ _ ht))) ?_ ?_
      · rintro i z zs H3 hi ⟨s3,rfl⟩ hD3
        obtain ⟨l,hl,zz,rfl,hzz⟩:=paired_at prl hi
        refine ⟨rfl,tTrue_ite ?_⟩
        refine ⟨_,rfl,zz,_,_,_,rfl,rfl,SqT.of (s3 _ _ (s2 _ _ hzz)),rfl,?_⟩
        refine ⟨_,hD3,?_,_,⟨s3.upd hD' _,rfl⟩,?_⟩
        · rw [List.length_map,List.length_map,List.length_take]; exact small1000 (by omega)
        · rw [take_snocR hl,List.map_append,List.map_append]; exact upd_same
      rintro zs H3 ⟨s3,rfl⟩ hD3
      rw [paired_len prl,List.take_length] at hD3
      refine ⟨D',_,rfl,SqL.of hD3,?_⟩
      refine ⟨_,s3 _ _ hD2,?_,_,⟨(s2.trans s3).upd hD _,rfl⟩,?_⟩
      · rw [List.length_map,List.length_map,List.length_take]; exact small1000 (by omega)
      · rw [take_snocR hx,List.map_append,List.map_append]; exact upd_same
    rintro ys H2 ⟨s2,rfl⟩ hD2
    rw [lvc,List.take_length] at hD2
    refine ⟨D,_,rfl,SqL.of hD2,_,_,rfl,rfl,(by show 2≤sizeLine; decide),fun m hm=>?_⟩
    exact q _ m (s2.trans (same_new hm _)) (s2.free hm) upd_same
end
end K43
namespace K43
open PySem L2
def WayIs (c:List Bell) (b goal:Nat) (r:List (Nat×Nat)):Prop:=(r=[]∧goal=b)∨(goal≠b∧(r[0]?).map (·.1)=some b∧Leads c r goal∧∀ s∈r,∃ l,lisAt c s.1 s.2=some l)
def wK (W:List (Nat×Addr)):List (Key×V):=W.map fun x=>(Sum.inl (x.1:Int),V.ref x.2)
theorem wK_len (W:List (Nat×Addr)):(wK W).length=W.length:=by unfold wK; rw [List.length_map]
theorem wK_keys (W:List (Nat×Addr)):(wK W).map (fun kv=>kV kv.1)=nV (W.map (·.1)):=by unfold wK nV; rw [List.map_map,List.map_map]; rfl
theorem wK_old:∀ {W:List (Nat×Addr)} {k:Nat},k∈W.map (·.1)→∃ a,(k,a)∈W∧valV (wK W) (Sum.inl (k:Int))=some (.ref a)
  | (k0,a0)::W,k,h=>by
    by_cases e:k0=k
    · subst e
      refine ⟨a0,List.mem_cons_self,?_⟩
      unfold valV wK
      rw [List.map_cons,List.find?_cons]
      simp
    · have h':k∈W.map (·.1):=by
        rcases List.mem_cons.mp h with z | z
        · exact absurd z.symm e
        · exact z
      obtain ⟨a,h1,h2⟩:=wK_old h'
      refine ⟨a,List.mem_cons_of_mem _ h1,?_⟩
      unfold valV wK at h2 ⊢
      rw [List.map_cons,List.find?_cons]
      have:decide ((Sum.inl (k0:Int):Key)=Sum.inl (k:Int))=false:=decide_eq_false fun z=>e (by have z':(k0:Int)=(k:Int):=Sum.inl.inj z; omega)
      rw [this]
      exact h2
theorem wK_new {W:List (Nat×Addr)} {k:Nat} (h:k∉W.map (·.1)):valV (wK W) (Sum.inl (k:Int))=none:=by
  unfold valV wK
  rw [Option.map_eq_none_iff,List.find?_eq_none]
  intro x hx z
  obtain ⟨y,hy,rfl⟩:=List.mem_map.mp hx
  have z':(Sum.inl (y.1:Int):Key)=Sum.inl (k:Int):=of_decide_eq_true z
  have e:(y.1:Int)=(k:Int):=Sum.inl.inj z'
  refine h (List.mem_map.mpr ⟨y,hy,?_⟩)
  omega
theorem wK_put {W:List (Nat×Addr)} {k:Nat} {a:Addr} (h:k∉W.map (·.1)):putK (wK W) (Sum.inl (k:Int)) (V.ref a)=wK (W++[(k,a)]):=by
  unfold putK
  rw [if_neg]
  · unfold wK; rw [List.map_append]; rfl
  · intro z
    obtain ⟨x,hx,e⟩:=List.any_eq_true.mp z
    unfold wK at hx
    obtain ⟨y,hy,rfl⟩:=List.mem_map.mp hx
    have e':(Sum.inl (y.1:Int):Key)=Sum.inl (k:Int):=of_decide_eq_true e
    have e2:(y.1:Int)=(k:Int):=Sum.inl.inj e'
    refine h (List.mem_map.mpr ⟨y,hy,?_⟩)
    omega
def dlen (D:Addr) (H:Hp):Nat:=match H D with
  | some (.dK kvs)=>kvs.length
  | _=>0
theorem dlen_of {D:Addr} {H:Hp} {kvs:List (Key×V)} (h:H D=some (.dK kvs)):dlen D H=kvs.length:=by unfold dlen; rw [h]
structure WI (c:List Bell) (b:Nat) (H0 H:Hp) (D:Addr) (W:List (Nat×Addr)):Prop where
  nd:(W.map (·.1)).Nodup
  hb:b∈W.map (·.1)
  hr:∀ k∈W.map (·.1),k=b∨Hr c b k
  way:∀ x∈W,x.2≠D∧H0 x.2=none∧∃ r,RingAt H x.2 r∧WayIs c b x.1 r∧r.length<W.length
theorem WI.lt {c:List Bell} (fw:FineW c) {b:Nat} (bc:b<c.length) {H0 H:Hp} {D:Addr} {W:List (Nat×Addr)} (h:WI c b H0 H D W):∀ k∈W.map (·.1),k<c.length:=fun k hk=>by
  rcases h.hr k hk with e | e
  · rw [e]; exact bc
  · exact e.lt fw
theorem WI.len {c:List Bell} (fw:FineW c) {b:Nat} (bc:b<c.length) {H0 H:Hp} {D:Addr} {W:List (Nat×Addr)} (h:WI c b H0 H D W):W.length≤6:=by
  have:=nodup_lt c.length _ h.nd (h.lt fw bc)
  rw [List.length_map] at this
  exact Nat.le_trans this fw.l6
theorem WI.same {c:List Bell} {b:Nat} {H0 H H':Hp} {D:Addr} {W:List (Nat×Addr)} (h:WI c b H0 H D W) (s:Same H H'):WI c b H0 H' D W :=
  ⟨h.nd,h.hb,h.hr,fun x hx=>by obtain ⟨n,z,r,a,bb,cc⟩:=h.way x hx; exact ⟨n,z,r,a.same s,bb,cc⟩⟩
section
variable {P:Program} {w:World} {K:PySem.W.Frag} {mg:Str→Option Value} {base:Heap} {f:Addr} {fd:FuncData}
def sp_wayto:Sp:=fun vs H Q _=>∃ (ch:V) (c:List Bell) (b goal:Nat),vs=[ch,.int (b:Int),.int (goal:Int)]∧ChoirAt H ch c∧FineP c∧b<c.length∧(goal=b∨Hr c b goal)∧
  ∀ (H':Hp) (r:Addr) (way:List (Nat×Nat)),Same H H'→H r=none→RingAt H' r way→WayIs c b goal way→way.length<6→Q (.ref r) H'
theorem sc_wayto:FnScope ["choir","bell","goal","ways","reached","place","listening"] ["choir","bell","goal"] (defScope s_way_to):=⟨rfl,rfl,rfl,by decide +kernel,rfl,by decide +kernel,by decide +kernel⟩
theorem ok_wayto (F:Fun K "way_to" "way_to" s_way_to f fd) (B0:Blt mg):FnOk P w K mg base CX0 1 f fd ["choir","bell","goal"] sp_wayto:=by
  refine F.ok sc_wayto (fun vs H Q E h=>?_) (fun cdv A outer s H vs Q E hr h=>?_)
  · obtain ⟨ch,c,b,goal,rfl,_⟩:=h
    rfl
  obtain ⟨ch,c,b,goal,rfl,hch,fp,bc,hgoal,q⟩:=h
  have fw:=fp.w
  have hu:=hu_of hr
  refine ⟨_,(pss_cons (ps_set (i:=3) sc_wayto.nd rfl (Or.inl rfl) (pe_d1 (pv 1) (pe_lst pa_nil)))
    (pss_cons (ps_while PassesOwn.never (pt_cmp (pc_dnotin hu (pv 2) (pv 3)))
    (pss_one (ps_for PassesOwn.never rfl (pi_list (pe_callTy (call_listD rfl) rfl B0.list_ PyProof.Rows.boot_list (pa_cons (pv 3) pa_nil))) (pg_name (i:=4) sc_wayto.nd rfl (Or.inl rfl))
    (pss_one (ps_for PassesOwn.never rfl (pi_enumT rfl B0.enumerate_ (pa_cons (pe_ix ix_tup (pe_ix ix_tup (pv 0) (pv 4) (fun _ _=>rfl)) pe_int (fun _ _=>rfl)) pa_nil)) (pg_tup rfl (pgs_cons (pg_name (i:=5) sc_wayto.nd rfl (Or.inl rfl)) (pgs_cons (pg_name (i:=6) sc_wayto.nd rfl (Or.inl rfl)) pgs_nil)))
    (pss_one (ps_if (pt_cmp (pc_dnotin hu (pe_ix ix_tup (pv 6) pe_int (fun _ _=>rfl)) (pv 3)))
    (pss_one (ps_dput hu (pv 3) (pe_ix ix_tup (pv 6) pe_int (fun _ _=>rfl)) (pe_op op_cat (pe_dget hu (pv 3) (pv 4) (fun _ _=>rfl)) (pe_lst (pa_cons (pe_tup (pa_cons (pv 4) (pa_cons (pv 5) pa_nil))) pa_nil))) rfl))
    pss_nil)))))))
    (pss_one (ps_ret (pe_dget hu (pv 3) (pv 2) (fun _ _=>rfl)))))),?_⟩
  obtain ⟨a,vs,rfl,ha,prc⟩:=id hch
  intro D hD
  refine ⟨_,rfl,(by show 0≤sizeLine; decide),fun l0 hl0=>?_⟩
  have nDl:D≠l0:=fun z=>by rw [← z,upd_same] at hl0; cases hl0
  have nl0:H l0=none:=by rw [upd_ne (Ne.symm nDl)] at hl0; exact hl0
  refine ⟨Sum.inl (b:Int),rfl,by rw [upd_ne nDl,upd_same],?_⟩
  have s0:Same H (upd (upd (upd H D (.dK [])) l0 (.lst [])) D (.dK [(Sum.inl (b:Int),.ref l0)])):=(((same_new hD (.dK [])).upd nl0 _).upd hD _)
  have wi0:WI c b H (upd (upd (upd H D (.dK [])) l0 (.lst [])) D (.dK [(Sum.inl (b:Int),.ref l0)])) D [(b,l0)] :=
    ⟨List.nodup_cons.mpr ⟨(nomatch ·),List.nodup_nil⟩,List.mem_cons_self,fun k hk=>.inl (List.mem_singleton.mp hk),fun x hx=>by
      rw [List.mem_singleton.mp hx]
      exact ⟨Ne.symm nDl,nl0,[],⟨[],by rw [upd_ne (Ne.symm nDl),upd_same],.nil⟩,.inl ⟨rfl,rfl⟩,by show 0<1; decide⟩⟩
  refine while_by (fun σ H4=>∃ (o4 o5 o6:Option V) (W:List (Nat×Addr)),σ=[some (.ref a),some (.int (b:Int)),some (.int (goal:Int)),some (.ref D),o4,o5,o6]∧Same H H4∧H4 D=some (.dK (wK W))∧WI c b H H4 D W) (fun _ H4=>6 - dlen D H4)
    ⟨none,none,none,[(b,l0)],rfl,s0,upd_same,wi0⟩ ?_ ?_
  · rintro σ H4 ⟨o4,o5,o6,W0,rfl,s4,hD4,wi⟩
    have W6:=wi.len fw bc
    refine ⟨_,rfl,_,rfl,D,_,rfl,DGet.k (k:=Sum.inl (goal:Int)) hD4,_,rfl,?_⟩
    by_cases hg:goal∈W0.map (·.1)
    · obtain ⟨ga,gm,gv⟩:=wK_old hg
      rw [gv]
      refine iteF ?_
      obtain ⟨_,ng,r,rg,wy,rl⟩:=wi.way _ gm
      refine ⟨_,rfl,_,rfl,D,_,rfl,?_,q H4 ga r s4 ng rg wy (by omega)⟩
      have z:=DGet.k (k:=Sum.inl (goal:Int)) hD4
      rw [gv] at z
      exact z
    · rw [wK_new hg]
      refine iteT ?_
      have d4:dlen D H4=W0.length:=by rw [dlen_of hD4,wK_len]
      refine ⟨_,rfl,D,_,rfl,hD4,by rw [wK_len]; omega,fun L hL=>?_⟩
      rw [wK_keys]
      have s5:=same_new hL (.lst (nV (W0.map (·.1))))
      have hL5:=upd_same (H:=H4) (a:=L) (o:=.lst (nV (W0.map (·.1))))
      have s05:=s4.trans s5
      have hD5:=s5 _ _ hD4
      have wi5:=wi.same s5
      have nLD:L≠D:=fun z=>by rw [z,hD4] at hL; cases hL
      generalize upd H4 L (.lst (nV (W0.map (·.1))))=H5 at s5 hL5 s05 hD5 wi5 ⊢
      have nL:H L=none:=s4.free hL
      refine ⟨L,rfl,⟨_,SqL.of hL5⟩,?_⟩
      refine for_list (K:=K) (a:=L) (xs:=nV (W0.map (·.1))) (fun i σ H6=>∃ (o4 o5 o6:Option V) (W:List (Nat×Addr)),σ=[some (.ref a),some (.int (b:Int)),some (.int (goal:Int)),some (.ref D),o4,o5,o6]∧Same H H6∧H6 L=some (.lst (nV (W0.map (·.1))))∧H6 D=some (.dK (wK W))∧WI c b H H6 D W∧(∃ nw,W=W0++nw)∧∀ j,j<i→∀ k,(W0.map (·.1))[j]?=some k→∀ x∈whoms c k,x∈W.map (·.1))
        ⟨_,_,_,W0,rfl,s05,hL5,hD5,wi5,⟨[],by rw [List.append_nil]⟩,fun j hj=>absurd hj (Nat.not_lt_zero j)⟩ (fun i σ H6 _ ⟨_,_,_,_,_,_,z,_⟩=>SqL.of z) ?_ ?_
      · rintro i y σ H6 hy ⟨o4,o5,o6,W,rfl,s6,hL6,hD6,wi6,⟨nw,rfl⟩,cov⟩
        obtain ⟨k,hk,rfl⟩:∃ k,(W0.map (·.1))[i]?=some k∧y=.int (k:Int):=by
          unfold nV at hy
          rw [List.getElem?_map] at hy
          cases e:(W0.map (·.1))[i]? with
          | none=>rw [e] at hy; cases hy
          | some k=>rw [e] at hy; cases hy; exact ⟨k,rfl,rfl⟩
        have kW:k∈W0.map (·.1):=List.mem_of_getElem? hk
        have kc:k<c.length:=wi.lt fw bc k kW
        obtain ⟨x,hx⟩:∃ x,c[k]?=some x:=⟨c[k],List.getElem?_eq_getElem kc⟩
        obtain ⟨bv,hbv,p,t,ls,rfl,hp,ht,prl⟩:=paired_at' prc hx
        refine ⟨_,rfl,_,rfl,a,_,_,_,rfl,rfl,SqT.of (s6 _ _ ha),atI_nat hbv,p,_,_,_,rfl,rfl,SqT.of (s6 _ _ hp),rfl,t,rfl,⟨_,SqT.of (s6 _ _ ht)⟩,?_⟩
        refine for_enumT (K:=K) (a:=t) (xs:=ls) (fun j σ H7=>∃ (o5 o6:Option V) (W:List (Nat×Addr)),σ=[some (.ref a),some (.int (b:Int)),some (.int (goal:Int)),some (.ref D),some (.int (k:Int)),o5,o6]∧Same H H7∧H7 L=some (.lst (nV (W0.map (·.1))))∧H7 D=some (.dK (wK W))∧WI c b H H7 D W∧(∃ nw,W=W0++nw)∧(∀ j,j<i→∀ k,(W0.map (·.1))[j]?=some k→∀ x∈whoms c k,x∈W.map (·.1))∧∀ p,p<j→∀ l,x.lis[p]?=some l→l.whom∈W.map (·.1))
          ⟨_,_,W0++nw,rfl,s6,hL6,hD6,wi6,⟨nw,rfl⟩,cov,fun p hp=>absurd hp (Nat.not_lt_zero p)⟩ (fun j σ H7 _ ⟨_,_,_,_,z,_⟩=>SqT.of (z _ _ ht)) ?_ ?_
        · rintro j z σ H7 TT hz ⟨o5,o6,W,rfl,s7,hL7,hD7,wi7,⟨nw,rfl⟩,cov,cv2⟩ hTT
          obtain ⟨l,hl,zz,rfl,hzz⟩:=paired_at prl hz
          have s8:Same H7 (upd H7 TT (.tup [.int (j:Int),.ref zz])):=same_new hTT _
          have eT:(upd H7 TT (.tup [.int (j:Int),.ref zz])) TT=some (.tup [.int (j:Int),.ref zz]):=upd_same
          refine ⟨TT,_,rfl,SqT.of eT,rfl,_,_,rfl,_,_,rfl,rfl,?_⟩
          have s08:=s7.trans s8
          have hL8:=s8 _ _ hL7
          have hD8:=s8 _ _ hD7
          have wi8:=wi7.same s8
          have W6':=wi7.len fw bc
          generalize upd H7 TT (.tup [.int (j:Int),.ref zz])=H8 at s8 eT s08 hL8 hD8 wi8 ⊢
          have hzq:=SqT.of (K:=K) (s08 _ _ hzz)
          refine ⟨_,rfl,zz,_,_,_,rfl,rfl,hzq,rfl,_,rfl,D,_,rfl,DGet.k (k:=Sum.inl (l.whom:Int)) hD8,_,rfl,?_⟩
          by_cases hw:l.whom∈(W0++nw).map (·.1)
          · obtain ⟨_,_,gv⟩:=wK_old hw
            rw [gv]
            refine iteF ?_
            refine ⟨_,_,W0++nw,rfl,s08,hL8,hD8,wi8,⟨nw,rfl⟩,cov,fun p hp l' hl'=>?_⟩
            by_cases e:p=j
            · rw [e,hl] at hl'; cases hl'; exact hw
            · exact cv2 p (by omega) l' hl'
          · rw [wK_new hw]
            refine iteT ?_
            have kW':k∈(W0++nw).map (·.1):=by rw [List.map_append]; exact List.mem_append_left _ kW
            obtain ⟨ka,km,kv⟩:=wK_old kW'
            have dk:=DGet.k (k:=Sum.inl (k:Int)) hD8
            rw [kv] at dk
            obtain ⟨kn,knone,r,⟨xs,hxs,prx⟩,wy,rl⟩:=wi8.way _ km
            refine ⟨_,rfl,_,rfl,D,_,rfl,dk,_,rfl,_,rfl,(by show 2≤sizeLine; decide),fun T2 hT2=>?_⟩
            have s9:=same_new hT2 (.tup [.int (k:Int),.int (j:Int)])
            refine ⟨(by show 1≤sizeLine; decide),fun L2 hL2=>?_⟩
            have s10:=same_new hL2 (.lst [.ref T2])
            have hL10:=upd_same (H:=upd H8 T2 (.tup [.int (k:Int),.int (j:Int)])) (a:=L2) (o:=.lst [.ref T2])
            have hT10:=s10 _ _ (upd_same (H:=H8) (a:=T2) (o:=.tup [.int (k:Int),.int (j:Int)]))
            have s810:=s9.trans s10
            generalize upd (upd H8 T2 (.tup [.int (k:Int),.int (j:Int)])) L2 (.lst [.ref T2])=H10 at s10 hL10 hT10 s810 ⊢
            have lx:=paired_len prx
            refine ⟨ka,L2,xs,_,rfl,rfl,s810 _ _ hxs,hL10,by rw [sizeLine_eq]; show xs.length+1≤_; omega,fun nL3 hnL3=>?_⟩
            have s11:=same_new hnL3 (.lst (xs++[.ref T2]))
            have hN11:=upd_same (H:=H10) (a:=nL3) (o:=.lst (xs++[.ref T2]))
            have s811:=s810.trans s11
            have hD11:=s811 _ _ hD8
            have hT11:=s11 _ _ hT10
            have nND:nL3≠D:=fun z=>by rw [z,s810 _ _ hD8] at hnL3; cases hnL3
            have nNL:nL3≠L:=fun z=>by rw [z,s810 _ _ hL8] at hnL3; cases hnL3
            have nN:H nL3=none:=(s08.trans s810).free hnL3
            generalize upd H10 nL3 (.lst (xs++[.ref T2]))=H11 at s11 hN11 s811 hD11 hT11 ⊢
            refine ⟨_,rfl,_,rfl,zz,_,_,_,rfl,rfl,SqT.of (s811 _ _ (s08 _ _ hzz)),rfl,D,_,rfl,DPut.k (k:=Sum.inl (l.whom:Int)) hD11 (by rw [wK_len]; exact small1000 (by omega)),?_⟩
            rw [wK_put hw]
            have s12:Same H _:=(s08.trans s811).upd hD (.dK (wK (W0++nw++[(l.whom,nL3)])))
            have nDW:∀ x∈W0++nw,x.2≠D:=fun x hx=>(wi8.way x hx).1
            have tS:TupS H11 (upd H11 D (.dK (wK (W0++nw++[(l.whom,nL3)])))):=tup_upd fun zs e=>by rw [hD11] at e; cases e
            have rgU:∀ {x:Addr} {r:List (Nat×Nat)},x≠D→RingAt H11 x r→RingAt (upd H11 D (.dK (wK (W0++nw++[(l.whom,nL3)])))) x r:=fun {x r} nx h=>by
              obtain ⟨ys,e,p⟩:=h
              exact ⟨ys,by rw [upd_ne nx]; exact e,paired_imp (fun _ _ z=>z.mono tS) p⟩
            have la:lisAt c k j=some l:=lisAt_of hx hl
            have newway:WayIs c b l.whom (r++[(k,j)]):=by
              have nb:l.whom≠b:=fun e=>hw (by rw [e]; exact wi7.hb)
              refine .inr ⟨nb,?_,?_,?_⟩
              · rcases wy with ⟨rfl,kb⟩ | ⟨_,h0,_,_⟩
                · show some k=some b
                  rw [show k=b from kb]
                · cases r with
                  | nil=>cases h0
                  | cons s r=>exact h0
              · refine leads_snoc (u:=(k,j)) ?_ ⟨l,la,rfl⟩
                rcases wy with ⟨rfl,_⟩ | ⟨_,_,ld,_⟩
                · exact trivial
                · exact ld
              · intro s hs
                rcases List.mem_append.mp hs with hs | hs
                · rcases wy with ⟨rfl,_⟩ | ⟨_,_,_,v⟩
                  · cases hs
                  · exact v s hs
                · rw [List.mem_singleton.mp hs]; exact ⟨l,la⟩
            have wi12:WI c b H (upd H11 D (.dK (wK (W0++nw++[(l.whom,nL3)])))) D (W0++nw++[(l.whom,nL3)]):=by
              refine ⟨?_,?_,fun y hy=>?_,fun y hy=>?_⟩
              · rw [List.map_append,List.nodup_append]
                refine ⟨wi7.nd,List.nodup_cons.mpr ⟨(nomatch ·),List.nodup_nil⟩,fun u hu v hv e=>?_⟩
                rw [List.mem_singleton.mp hv] at e
                have e':u=l.whom:=e
                exact hw (e'▸hu)
              · rw [List.map_append]; exact List.mem_append_left _ wi7.hb
              · rw [List.map_append] at hy
                rcases List.mem_append.mp hy with z | z
                · exact wi7.hr y z
                · rw [List.mem_singleton.mp z]
                  right
                  rcases wi7.hr k kW' with e | e
                  · rw [e] at la; exact .one (lisAt_whom la)
                  · exact .more e (lisAt_whom la)
              · rcases List.mem_append.mp hy with z | z
                · obtain ⟨n1,n2,r',rg',wy',rl'⟩:=wi8.way y z
                  exact ⟨n1,n2,r',rgU n1 (rg'.same s811),wy',by rw [List.length_append]; exact Nat.lt_of_lt_of_le rl' (Nat.le_add_right _ _)⟩
                · rw [List.mem_singleton.mp z]
                  refine ⟨nND,nN,r++[(k,j)],rgU nND ⟨_,hN11,?_⟩,newway,?_⟩
                  · exact paired_snoc ⟨T2,rfl,hT11⟩ (paired_imp (fun _ _ z=>z.mono (Same.tup s811)) prx)
                  · rw [List.length_append,List.length_append]
                    exact Nat.succ_lt_succ rl
            refine ⟨_,_,W0++nw++[(l.whom,nL3)],rfl,s12,by rw [upd_ne nLD]; exact s811 _ _ hL8,upd_same,wi12,⟨nw++[(l.whom,nL3)],by rw [List.append_assoc]⟩,fun i' hi' k' hk' y hy=>?_,fun p hp l' hl'=>?_⟩
            · rw [List.map_append]; exact List.mem_append_left _ (cov i' hi' k' hk' y hy)
            · rw [List.map_append]
              by_cases e:p=j
              · rw [e,hl] at hl'; cases hl'
                exact List.mem_append_right _ (List.mem_singleton.mpr rfl)
              · exact List.mem_append_left _ (cv2 p (by omega) l' hl')
        · rintro σ H7 ⟨o5,o6,W,rfl,s7,hL7,hD7,wi7,hnw,cov,cv2⟩
          refine ⟨_,_,_,W,rfl,s7,hL7,hD7,wi7,hnw,fun j hj k' hk' y hy=>?_⟩
          by_cases e:j=i
          · rw [e,hk] at hk'; cases hk'
            rw [whoms_at hx] at hy
            obtain ⟨l,hl,rfl⟩:=List.mem_map.mp hy
            obtain ⟨p,hp,e2⟩:=List.getElem_of_mem hl
            exact cv2 p (by rw [paired_len prl]; exact hp) l (by rw [List.getElem?_eq_getElem hp,e2])
          · exact cov j (by omega) k' hk' y hy
      · rintro σ H6 ⟨o4,o5,o6,W,rfl,s6,hL6,hD6,wi6,⟨nw,rfl⟩,cov⟩
        refine ⟨⟨_,_,_,W0++nw,rfl,s6,hD6,wi6⟩,?_⟩
        show 6 - dlen D H6<6 - dlen D H4
        rw [d4,dlen_of hD6,wK_len,List.length_append]
        have W6':=wi6.len fw bc
        rw [List.length_append] at W6'
        have:nw≠[]:=fun e=>by
          subst e
          rw [List.append_nil] at cov
          have cl:∀ k∈W0.map (·.1),∀ x∈whoms c k,x∈W0.map (·.1):=fun k hk x hx=>by
            obtain ⟨j,hj,e⟩:=List.getElem_of_mem hk
            exact cov j (by rw [nV_len]; exact hj) k (by rw [List.getElem?_eq_getElem hj,e]) x hx
          have all:∀ k,Hr c b k→k∈W0.map (·.1):=fun k h=>by
            induction h with
            | one h=>exact cl b wi.hb _ h
            | more _ h ih=>exact cl _ ih _ h
          rcases hgoal with e | e
          · rw [e] at hg; exact hg wi.hb
          · exact hg (all _ e)
        have:=List.length_pos_iff.mpr this
        omega
  · rintro σ H4 Q1 Q2 hq ⟨z1,e1,z2,e2,z3,z4,e3,e4,z5,e5,h⟩
    exact ⟨z1,e1,z2,e2,z3,z4,e3,e4,z5,e5,hq _ _ h⟩
end
end K43
namespace K43
open PySem L2
def Refused (W:Addr) (c:List Bell) (H:Hp) (E:XK):Prop:=∀ (H':Hp) (now:List (Option Int)) (l dx:Addr),Same H H'→Fix c (starts c) now→waitsOf c now≠[]→H l=none→H' l=some (.lst ((waitsOf c now).map V.str))→H' dx=some (.xd [("names",.ref l)])→E (.ref W) (some dx) H'
section
variable {P:Program} {w:World} {K:PySem.W.Frag} {mg:Str→Option Value} {base:Heap} {f:Addr} {fd:FuncData}
def sp_winit (W:Addr):Sp:=fun vs H Q _=>∃ (x l:Addr) (names:List V),vs=[.ref x,.ref l]∧H x=some (ExN x W none)∧H l=some (.lst names)∧∀ l2 dx,H l2=none→H dx=none→dx≠l2→dx≠x→Q .non (upd (upd (upd H l2 (.lst names)) dx (.xd [("names",.ref l2)])) x (ExN x W (some dx)))
theorem sc_winit:FnScope ["self","names"] ["self","names"] (defScope s_winit):=⟨rfl,rfl,rfl,by decide +kernel,rfl,by decide +kernel,by decide +kernel⟩
theorem ok_winit {W:Addr} (F:Fun K "__init__" "Waiting.__init__" s_winit f fd) (B:Blt mg) (xs:XSet K W "names"):FnOk P w K mg base CX0 1 f fd ["self","names"] (sp_winit W):=by
  refine F.ok sc_winit (fun vs H Q E h=>?_) (fun cdv A outer s H vs Q E hr h=>?_)
  · obtain ⟨x,l,names,rfl,_⟩:=h
    rfl
  obtain ⟨x,l,names,rfl,hx,hl,q⟩:=h
  refine ⟨_,(pss_one (ps_xfld (pv 0) (pe_callTy call_list_of rfl B.list_ PyProof.Rows.boot_list (pa_cons (pv 1) pa_nil)) rfl)),?_⟩
  refine ⟨_,rfl,l,_,rfl,.inl (SqL.of hl),fun l2 hl2=>?_⟩
  have nx:x≠l2:=ne_of_none hx hl2
  refine ⟨_,rfl,x,W,rfl,by rw [upd_ne nx]; exact hx,xs,fun dx nd ne=>?_⟩
  have nl:dx≠l2:=fun z=>by rw [z,upd_same] at nd; cases nd
  rw [upd_ne nl] at nd
  exact q l2 dx hl2 nd nl ne
def sp_refuse (W:Addr):Sp:=fun vs H Q E=>∃ (ch:V) (c:List Bell),vs=[ch]∧ChoirAt H ch c∧Fine c∧(∀ (H':Hp) (now:List (Option Int)),Same H H'→Fix c (starts c) now→waitsOf c now=[]→Q .non H')∧Refused W c H E
theorem sc_refuse:FnScope ["choir","names"] ["choir"] (defScope s_refuse_waiting):=⟨rfl,rfl,rfl,by decide +kernel,rfl,by decide +kernel,by decide +kernel⟩
theorem ok_refuse {W fW:Addr} {dW:FuncData} (F:Fun K "refuse_waiting" "refuse_waiting" s_refuse_waiting f fd) (B:Blt mg) (mW:mg "Waiting"=some (.ref W)) (M:MkX K W fW) (GW:FnOk P w K mg base CX0 1 fW dW ["self","names"] (sp_winit W)) (bW:Binds K dW ["self","names"] []) (C_waiting:Cal P w K mg base 8 "waiting" ["choir"] sp_waiting) :
    FnOk P w K mg base (CXE P w) 9 f fd ["choir"] (sp_refuse W):=by
  refine F.okX sc_refuse (fun vs H Q E h=>?_) (fun cdv A outer s H vs Q E hr h=>?_)
  · obtain ⟨ch,c,rfl,_⟩:=h
    rfl
  obtain ⟨ch,c,rfl,hch,fc,q,qE⟩:=h
  refine ⟨_,(pss_cons (ps_set (i:=1) sc_refuse.nd rfl (Or.inl rfl) (pe_fn C_waiting hr (by decide) rfl (pa_cons (pv 0) pa_nil)))
    (pss_one (ps_if (pt_cmpR op_gt (pe_callB call_len_seq rfl B.len_ PySem.boot_len (pa_cons (pv 1) pa_nil)) pe_int (nomark _))
    (pss_one (ps_raiseV startsD_cx rfl M (pe_xmake M GW (hr.mono (by decide)) rfl mW bW pass0 (pa_cons (pv 1) pa_nil))))
    pss_nil))),?_⟩
  refine ⟨_,rfl,ch,c,rfl,hch,fc,fun H1 l now s1 hl hl1 fx=>?_⟩
  refine ⟨_,rfl,l,_,rfl,.inl (SqL.of hl1),_,_,rfl,rfl,_,rfl,?_⟩
  refine ite2 (fun cc=>?_) (fun cc=>?_)
  · have hpos:0<(waitsOf c now).length:=by
      have z:(0:Int)<(((waitsOf c now).map V.str).length:Nat):=of_decide_eq_true cc
      rw [List.length_map] at z
      omega
    have hne:waitsOf c now≠[]:=List.length_pos_iff.mp hpos
    refine ⟨_,rfl,(by show 1≤sizeLine; decide),fun x hx=>?_⟩
    have nlx:l≠x:=ne_of_none hl1 hx
    refine ⟨x,l,_,rfl,upd_same,by rw [upd_ne nlx]; exact hl1,fun l2 dx n1 n2 ne1 ne2=>?_⟩
    have nx2:x≠l2:=fun z=>by rw [← z,upd_same] at n1; cases n1
    rw [upd_ne (Ne.symm nx2)] at n1
    rw [upd_ne ne2] at n2
    refine ⟨rfl,x,some dx,rfl,upd_same,s1.free hx,?_⟩
    refine qE _ now l2 dx (fun b o e=>?_) fx hne (s1.free n1) ?_ ?_
    · have e1:=s1 _ _ e
      have b1:b≠x:=ne_of_none e1 hx
      have b2:b≠l2:=ne_of_none e1 n1
      have b3:b≠dx:=ne_of_none e1 n2
      rw [drop_ne b1,upd_ne b1,upd_ne b3,upd_ne b2,upd_ne b1]
      exact e1
    · rw [drop_ne (Ne.symm nx2),upd_ne (Ne.symm nx2),upd_ne (Ne.symm ne1),upd_same]
    · rw [drop_ne ne2,upd_ne ne2,upd_same]
  · refine q H1 now s1 fx ?_
    refine Classical.byContradiction fun hne=>cc ?_
    have hpos:=List.length_pos_iff.mpr hne
    exact decide_eq_true (show (0:Int)<(((waitsOf c now).map V.str).length:Nat) by rw [List.length_map]; omega)
end
end K43
namespace K43
open PySem L2
def allAll (c:List Bell):Prop:=∀ b∈c,wants b=b.lis.length
def allOne (c:List Bell):Prop:=∀ b∈c,wants b=1
def SideIs (c:List Bell) (sd:Int):Prop:=(allAll c∧sd=1)∨(¬ allAll c∧allOne c∧sd=-1)
section
variable {P:Program} {w:World} {K:PySem.W.Frag} {mg:Str→Option Value} {base:Heap} {f:Addr} {fd:FuncData}
def sp_rwants (K:PySem.W.Frag):Sp:=fun vs H Q _=>∃ (x C dx:Addr) (n:Int),vs=[.ref x]∧H x=some (.ins C dx [("need",.int n)])∧Cls K C∧NoAttr K C "need"∧Q (.int n) H
theorem sc_rwants:FnScope ["self"] ["self"] (defScope s_Rwants):=⟨rfl,rfl,rfl,by decide +kernel,rfl,by decide +kernel,by decide +kernel⟩
theorem ok_rwants (F:Fun K "wants" "Rule.wants" s_Rwants f fd):FnOk P w K mg base CX0 1 f fd ["self"] (sp_rwants K):=by
  refine F.ok sc_rwants (fun vs H Q E h=>?_) (fun cdv A outer s H vs Q E hr h=>?_)
  · obtain ⟨x,C,dx,n,rfl,_⟩:=h
    rfl
  obtain ⟨x,C,dx,n,rfl,hx,cl,na,q⟩:=h
  refine ⟨_,(pss_one (ps_ret (pe_fld (pv 0) rfl))),?_⟩
  exact ⟨_,rfl,x,C,dx,_,_,rfl,hx,cl,na,rfl,q⟩
def sp_side (M:Addr):Sp:=fun vs H Q E=>∃ (ch:V) (c:List Bell),vs=[ch]∧ChoirAt H ch c∧Fine c∧(∀ (H':Hp) (sd:Int),Same H H'→SideIs c sd→Q (.int sd) H')∧∀ H',Same H H'→¬ allAll c→¬ allOne c→E (.ref M) none H'
theorem sc_side:FnScope ["choir"] ["choir"] (defScope s_side_of):=⟨rfl,rfl,rfl,by decide +kernel,rfl,by decide +kernel,by decide +kernel⟩
theorem all_map {c:List Bell} {g:Bell→Bool}:((c.map g).all id=true)↔∀ b∈c,g b=true:=by rw [List.all_map,List.all_eq_true]; exact Iff.rfl
theorem ok_side {ff fw M:Addr} {dw:FuncData} (F:Fun K "side_of" "side_of" s_side_of f fd) (B0:Blt mg) (mM:mg "Mixed"=some (.ref M)) (xM:ExcC K M) (GW:FnOk P w K mg base CX0 1 fw dw ["self"] (sp_rwants K)) (bW:Binds K dw ["self"] [])
    (C_rob:Cal P w K mg base 6 "rule_of_bell" ["bell"] (sp_bellrule K ff fw)):FnOk P w K mg base (CXE P w) 7 f fd ["choir"] (sp_side M):=by
  refine F.okX sc_side (fun vs H Q E h=>?_) (fun cdv A outer s H vs Q E hr h=>?_)
  · obtain ⟨ch,c,rfl,_⟩:=h
    rfl
  obtain ⟨ch,c,rfl,hch,fc,q12,q3⟩:=h
  have hr1:Room 1 _:=hr.mono (by decide)
  refine ⟨_,(pss_cons (ps_if (pt_val (pe_callB (call_all rfl) rfl B0.all_ PyProof.Rows.boot_all (pa_cons (pe_comp ["bell"] [] [] rfl (pi_tup (pv 0)) (fun _ _ _ _ _=>(pg_name (i:=0) (show List.Nodup [("bell":Str)] by decide +kernel) rfl (Or.inl rfl))) (fun _ _ _ _ _=>pts_nil) (fun _ _ _ _ _=>(pe_cmpR op_eq (pe_meth0C (K:=K) (pl:=_) rfl (pe_fn C_rob hr (by decide) rfl (pa_cons (pv 0) pa_nil)) GW hr1 bW .nil pass0) (pe_callB (call_len_seqC (K:=K) rfl) rfl B0.len_ PySem.boot_len (pa_cons (pe_ix (ix_tupC (K:=K) rfl) (pv 0) pe_int (fun _ _=>rfl)) pa_nil)) (nomark _)))) pa_nil)))
    (pss_one (ps_ret pe_int))
    pss_nil)
    (pss_cons (ps_if (pt_val (pe_callB (call_all rfl) rfl B0.all_ PyProof.Rows.boot_all (pa_cons (pe_comp ["bell"] [] [] rfl (pi_tup (pv 0)) (fun _ _ _ _ _=>(pg_name (i:=0) (show List.Nodup [("bell":Str)] by decide +kernel) rfl (Or.inl rfl))) (fun _ _ _ _ _=>pts_nil) (fun _ _ _ _ _=>(pe_cmpR op_eq (pe_meth0C (K:=K) (pl:=_) rfl (pe_fn C_rob hr (by decide) rfl (pa_cons (pv 0) pa_nil)) GW hr1 bW .nil pass0) pe_int (nomark _)))) pa_nil)))
    (pss_one (ps_ret (pe_un un_neg pe_int)))
    pss_nil)
    (pss_one (ps_raise0 starts_cx rfl rfl mM xM)))),?_⟩
  obtain ⟨a,vs,rfl,ha,prc⟩:=id hch
  have lvc:=paired_len prc
  have c6:=fc.1
  refine ⟨_,rfl,a,rfl,⟨_,SqT.of ha⟩,fun D hD=>?_⟩
  refine comp_tup (K:=K) (a:=a) (xs:=vs) (fun j ys H2=>Same H H2∧ys=((c.take j).map fun b=>decide (V.int (wants b)=V.int ((b.lis.length:Nat):Int))).map V.bl) ⟨same_new hD _,rfl⟩ (fun j ys H2 _ ⟨z,_⟩=>SqT.of (z _ _ ha)) ?_ ?_
  · rintro j y ys H2 hj ⟨s2,rfl⟩ hD2
    obtain ⟨b,hb,⟨x,t,ls,rfl,hx,ht,prl⟩⟩:=paired_at prc hj
    have jc:j<c.length:=(List.getElem?_eq_some_iff.mp hb).1
    refine ⟨rfl,tTrue_ite ?_⟩
    refine ⟨_,rfl,.ref x,b,rfl,⟨x,t,ls,rfl,s2 _ _ hx,s2 _ _ ht,paired_imp (fun _ _ z=>z.mono (Same.tup s2)) prl⟩,(fc.2 j b hb).2.2.1,fun o H3 s3 ⟨C,dx,ho,cl,nN,mf,mw⟩=>?_⟩
    have s03:=s2.trans s3
    refine ⟨C,o,dx,_,rfl,ho,cl,mw,rfl,o,C,dx,_,rfl,ho,cl,nN,?_⟩
    refine ⟨_,rfl,x,_,_,_,rfl,rfl,SqT.of (s03 _ _ hx),rfl,t,_,rfl,.inr (SqT.of (s03 _ _ ht)),rfl,?_⟩
    rw [paired_len prl]
    refine ⟨_,s3 _ _ hD2,?_,_,⟨(s2.trans s3).upd hD _,rfl⟩,?_⟩
    · rw [List.length_map,List.length_map,List.length_take]; exact small1000 (by omega)
    · rw [take_snocR hb,List.map_append,List.map_append]; exact upd_same
  rintro ys H2 ⟨s2,rfl⟩ hD2
  rw [lvc,List.take_length] at hD2
  refine ⟨D,_,rfl,SqL.of hD2,_,rfl,?_⟩
  refine ite2 (fun z=>?_) (fun z=>?_)
  · refine q12 H2 1 s2 (.inl ⟨fun b hb=>?_,rfl⟩)
    have z':V.int (wants b)=V.int ((b.lis.length:Nat):Int):=of_decide_eq_true (all_map.mp z b hb)
    injection z'
  have nA:¬ allAll c:=fun h=>z (all_map.mpr fun b hb=>decide_eq_true (by rw [h b hb]))
  refine ⟨_,rfl,a,rfl,⟨_,SqT.of (s2 _ _ ha)⟩,fun D' hD'=>?_⟩
  refine comp_tup (K:=K) (a:=a) (xs:=vs) (fun j ys H3=>Same H2 H3∧ys=((c.take j).map fun b=>decide (V.int (wants b)=V.int 1)).map V.bl) ⟨same_new hD' _,rfl⟩ (fun j ys H3 _ ⟨z,_⟩=>SqT.of (z _ _ (s2 _ _ ha))) ?_ ?_
  · rintro j y ys H3 hj ⟨s3,rfl⟩ hD3
    obtain ⟨b,hb,⟨x,t,ls,rfl,hx,ht,prl⟩⟩:=paired_at prc hj
    have jc:j<c.length:=(List.getElem?_eq_some_iff.mp hb).1
    have s03:=s2.trans s3
    refine ⟨rfl,tTrue_ite ?_⟩
    refine ⟨_,rfl,.ref x,b,rfl,⟨x,t,ls,rfl,s03 _ _ hx,s03 _ _ ht,paired_imp (fun _ _ z=>z.mono (Same.tup s03)) prl⟩,(fc.2 j b hb).2.2.1,fun o H4 s4 ⟨C,dx,ho,cl,nN,mf,mw⟩=>?_⟩
    refine ⟨C,o,dx,_,rfl,ho,cl,mw,rfl,o,C,dx,_,rfl,ho,cl,nN,rfl,?_⟩
    refine ⟨_,s4 _ _ hD3,?_,_,⟨(s3.trans s4).upd hD' _,rfl⟩,?_⟩
    · rw [List.length_map,List.length_map,List.length_take]; exact small1000 (by omega)
    · rw [take_snocR hb,List.map_append,List.map_append]; exact upd_same
  rintro ys H3 ⟨s3,rfl⟩ hD3
  rw [lvc,List.take_length] at hD3
  have s03:=s2.trans s3
  refine ⟨D',_,rfl,SqL.of hD3,_,rfl,?_⟩
  refine ite2 (fun z=>?_) (fun z=>?_)
  · refine ⟨_,rfl,q12 H3 (-1) s03 (.inr ⟨nA,fun b hb=>?_,rfl⟩)⟩
    have z':V.int (wants b)=V.int 1:=of_decide_eq_true (all_map.mp z b hb)
    injection z'
  · exact q3 H3 s03 nA fun h=>z (all_map.mpr fun b hb=>decide_eq_true (by rw [h b hb]))
end
end K43
namespace K43
open PySem L2
def NumsAt (H:Hp) (nA:Addr) (n:Nat) (B:List Nat) (sd mb:Int) (h:Nat→Int):Prop:=∃ vs,H nA=some (.lst vs)∧vs.length=n∧∀ k,k<n→(k∈B→∃ a p q,vs[k]?=some (.ref a)∧H a=some (.tup [.int p,.int q])∧IsFrac (sd * h k) mb p q)∧(k∉B→vs[k]?=some .non)
structure PaceIs (c:List Bell) (b:Nat) (B:List Nat) (sd mt mb:Int) (way ring:List (Nat×Nat)) (h:Nat→Int):Prop where
  side:SideIs c sd
  mem:∀ x,x∈B↔x=b∨Hr c b x
  up:B.Pairwise (·<·)
  mb1:1≤mb
  mb6:mb≤6
  low:Int.gcd mt mb=1
  mt0:0≤mt
  mt6:mt≤40000
  rg:RingIs c B ring
  backs:1≤sumG (bkF c) ring
  mean:sumG (btF c) ring * mb=sumG (bkF c) ring * mt
  wy:∀ s,ring[0]?=some s→WayIs c b s.1 way
  way6:way.length<6
  still:StillR c B (gnF c sd mt mb) h
  hb:∀ x,0≤h x∧h x≤21600000
theorem mean_up {bt bk mt mb p q:Int} (bk1:1≤bk) (q1:1≤q) (e:p * bk=bt * q) (lt:bk * mt<bt * mb):mt * q<p * mb:=by
  refine Int.lt_of_mul_lt_mul_left (a:=bk) ?_ (by omega)
  have z:(bk * mt) * q<(bt * mb) * q:=Int.mul_lt_mul_of_pos_right lt (by omega)
  have e1:bk * (mt * q)=(bk * mt) * q:=by rw [Int.mul_assoc]
  have e2:bk * (p * mb)=(bt * mb) * q:=by
    have:bk * (p * mb)=(p * bk) * mb:=by grind
    rw [this,e]; grind
  rw [e1,e2]; exact z
theorem mean_down {bt bk mt mb p q:Int} (bk1:1≤bk) (q1:1≤q) (e:p * bk=bt * q) (lt:bt * mb<bk * mt):p * mb<mt * q:=by
  refine Int.lt_of_mul_lt_mul_left (a:=bk) ?_ (by omega)
  have z:(bt * mb) * q<(bk * mt) * q:=Int.mul_lt_mul_of_pos_right lt (by omega)
  have e1:bk * (mt * q)=(bk * mt) * q:=by rw [Int.mul_assoc]
  have e2:bk * (p * mb)=(bt * mb) * q:=by
    have:bk * (p * mb)=(p * bk) * mb:=by grind
    rw [this,e]; grind
  rw [e1,e2]; exact z
theorem sum_le:∀ {ns:List Int} {k:Int},(∀ n∈ns,n≤k)→ns.sum≤k * (ns.length:Int)
  | [],_,_=>by show (0:Int)≤_ * 0; omega
  | n::ns,k,h=>by
    have a:=sum_le fun m hm=>h m (List.mem_cons_of_mem n hm)
    have b:=h n List.mem_cons_self
    rw [List.sum_cons,List.length_cons]
    have e:k * ((ns.length+1:Nat):Int)=k * (ns.length:Int)+k:=by rw [Int.natCast_add]; grind
    rw [e]; omega
theorem btB_le {c:List Bell} (f:FineP c):0≤(c.map btB).sum∧(c.map btB).sum≤36000:=by
  constructor
  · have e:(c.map btB).sum=sumN (btN c) c.length:=by rw [sumN_btN,List.take_length]
    rw [e]; exact sumN_nn _ fun i _=>btN_nn f i
  · have z:=sum_le (ns:=c.map btB) (k:=6000) fun n hn=>by
      obtain ⟨b,hb,rfl⟩:=List.mem_map.mp hn
      obtain ⟨_,b6,bl⟩:=f.bell b hb
      have y:=sum_le (ns:=b.lis.map (·.beats)) (k:=1000) fun n hn=>by
        obtain ⟨l,hl,rfl⟩:=List.mem_map.mp hn
        exact (bl l hl).2.2
      rw [List.length_map] at y
      show (b.lis.map (·.beats)).sum≤6000
      omega
    rw [List.length_map] at z
    have:=f.l6
    omega
theorem q60_nn {t b:Int} (h1:1≤b) (h6:b≤6) (t0:0≤t):0≤q60 t b∧q60 t b≤60 * t:=by
  unfold q60
  have:b=1∨b=2∨b=3∨b=4∨b=5∨b=6:=by omega
  rcases this with rfl | rfl | rfl | rfl | rfl | rfl <;> omega
def meanN (sd:Int) (o:Option HO):Nat:=match o with
  | some (.tup [.int t,.int b])=>if sd=1 then (360000 - q60 t b).toNat else (q60 t b).toNat
  | _=>0
def meanV (sd:Int) (H:Hp):Option (Option V)→Nat
  | some (some (.ref m))=>meanN sd (H m)
  | _=>0
def meanM (sd:Int) (σ:List (Option V)) (H:Hp):Nat:=meanV sd H (σ[4]?)
theorem meanM_at {sd mt mb:Int} {H:Hp} {m:Addr} {v0 v1 v2 v3:Option V} {σ:List (Option V)} (h:H m=some (.tup [.int mt,.int mb])):meanM sd (v0::v1::v2::v3::some (.ref m)::σ) H=if sd=1 then (360000 - q60 mt mb).toNat else (q60 mt mb).toNat:=by
  show meanN sd (H m)=_
  rw [h]; rfl
inductive FoundAt (c:List Bell) (B:List Nat) (sd mt mb:Int) (H0 H:Hp) (fA:Addr) (rv:V):Prop
  | ring (r:Addr) (ring:List (Nat×Nat)) (h1:H fA=some (.tup [.non,.ref r])) (h2:H0 r=none) (h3:RingAt H r ring) (h4:RingIs c B ring) (h5:0<sumG (gnF c sd mt mb) ring)
  | still (hA r:Addr) (hs:List Int) (ring:List (Nat×Nat)) (h1:H fA=some (.tup [.ref hA,.non])) (h2:H hA=some (.lst (hs.map V.int))) (h3:hs.length=c.length) (h4:StillR c B (gnF c sd mt mb) (hF hs)) (hb:∀ x,0≤hF hs x∧hF hs x≤21600000) (e:rv=.ref r) (h5:H0 r=none) (h6:RingAt H r ring) (h7:RingIs c B ring)
      (h8:1≤sumG (bkF c) ring) (h9:sumG (btF c) ring * mb=sumG (bkF c) ring * mt)
section
variable {P:Program} {w:World} {K:PySem.W.Frag} {mg:Str→Option Value} {base:Heap} {f:Addr} {fd:FuncData}
def sp_pace (W M:Addr):Sp:=fun vs H Q E=>∃ (ch:V) (c:List Bell) (b:Nat),vs=[ch,.int (b:Int)]∧ChoirAt H ch c∧Fine c∧FineP c∧b<c.length∧Refused W c H E∧
  (∀ (H':Hp) (now:List (Option Int)),Same H H'→Fix c (starts c) now→waitsOf c now=[]→¬ allAll c→¬ allOne c→E (.ref M) none H')∧
  ∀ (H':Hp) (now:List (Option Int)) (T mA wA rA nA:Addr) (B:List Nat) (sd mt mb:Int) (way ring:List (Nat×Nat)) (h:Nat→Int),Same H H'→Fix c (starts c) now→waitsOf c now=[]→H T=none→H wA=none→H rA=none→H nA=none→H' T=some (.tup [.ref mA,.ref wA,.ref rA,.ref nA])→
    H' mA=some (.tup [.int mt,.int mb])→RingAt H' wA way→RingAt H' rA ring→NumsAt H' nA c.length B sd mb h→PaceIs c b B sd mt mb way ring h→Q (.ref T) H'
theorem sc_pace:FnScope ["choir","bell","side","bells","mean","ring","found","numbers","other"] ["choir","bell"] (defScope s_pace):=⟨rfl,rfl,rfl,by decide +kernel,rfl,by decide +kernel,by decide +kernel⟩
theorem ok_pace {W M:Addr} (F:Fun K "pace" "pace" s_pace f fd) (B0:Blt mg) (C_refuse:CalX P w K mg base 9 "refuse_waiting" ["choir"] (sp_refuse W)) (C_side:CalX P w K mg base 7 "side_of" ["choir"] (sp_side M)) (C_hears:Cal P w K mg base 1 "hears" ["choir","bell"] sp_hears)
    (C_all:Cal P w K mg base 1 "mean_that_all_beat" ["choir","side"] sp_meanall) (C_settled:Cal P w K mg base 2 "settled" ["choir","bells","mean","side"] sp_settled) (C_mean:Cal P w K mg base 3 "mean_of" ["choir","ring"] sp_meanof) (C_fraction:Cal P w K mg base 2 "fraction" ["top","bottom"] sp_fraction)
    (C_way:Cal P w K mg base 1 "way_to" ["choir","bell","goal"] sp_wayto):FnOk P w K mg base (CXE P w) 10 f fd ["choir","bell"] (sp_pace W M):=by
  refine F.okX sc_pace (fun vs H Q E h=>?_) (fun cdv A outer s H vs Q E hr h=>?_)
  · obtain ⟨ch,c,b,rfl,_⟩:=h
    rfl
  obtain ⟨ch,c,b,rfl,hch,fc,fp,bc,qW,qM,q⟩:=h
  refine ⟨_,(pss_cons (ps_expr (pe_fnX C_refuse passes_cx hr (by decide) rfl (pa_cons (pv 0) pa_nil)))
    (pss_cons (ps_set (i:=2) sc_pace.nd rfl (Or.inl rfl) (pe_fnX C_side passes_cx hr (by decide) rfl (pa_cons (pv 0) pa_nil)))
    (pss_cons (ps_set (i:=3) sc_pace.nd rfl (Or.inl rfl) (pe_callB (call_sortedS rfl) rfl B0.sorted_ PyProof.Rows.boot_sorted (pa_cons (pe_callTy (call_setS rfl) rfl B0.set_ PyProof.Rows.boot_set (pa_cons (pe_op op_cat (pe_lst (pa_cons (pv 1) pa_nil)) (pe_fn C_hears hr (by decide) rfl (pa_cons (pv 0) (pa_cons (pv 1) pa_nil)))) pa_nil)) pa_nil)))
    (pss_cons (ps_set (i:=4) sc_pace.nd rfl (Or.inl rfl) (pe_fn C_all hr (by decide) rfl (pa_cons (pv 0) (pa_cons (pv 2) pa_nil))))
    (pss_cons (ps_set (i:=5) sc_pace.nd rfl (Or.inl rfl) pe_non)
    (pss_cons (ps_set (i:=6) sc_pace.nd rfl (Or.inl rfl) (pe_fn C_settled hr (by decide) rfl (pa_cons (pv 0) (pa_cons (pv 3) (pa_cons (pv 4) (pa_cons (pv 2) pa_nil))))))
    (pss_cons (ps_while PassesOwn.leaving (pt_cmpR op_isN (pe_ix ix_tup (pv 6) pe_int (fun _ _=>rfl)) pe_non (nomark _))
    (pss_cons (ps_set (i:=5) sc_pace.nd rfl (Or.inl rfl) (pe_ix ix_tup (pv 6) pe_int (fun _ _=>rfl)))
    (pss_cons (ps_set (i:=4) sc_pace.nd rfl (Or.inl rfl) (pe_fn C_mean hr (by decide) rfl (pa_cons (pv 0) (pa_cons (pv 5) pa_nil))))
    (pss_one (ps_set (i:=6) sc_pace.nd rfl (Or.inl rfl) (pe_fn C_settled hr (by decide) rfl (pa_cons (pv 0) (pa_cons (pv 3) (pa_cons (pv 4) (pa_cons (pv 2) pa_nil))))))))))
    (pss_cons (ps_setComp (i:=7) ["other"] [] [] rfl sc_pace.nd rfl (Or.inl rfl) (pi_tup (pv 0)) (fun _ _ _ _ _=>(pg_name (i:=0) (show List.Nodup [("other":Str)] by decide +kernel) rfl (Or.inl rfl))) (fun _ _ _ _ _=>pts_nil) (fun _ _ _ _ _=>pe_non))
    (pss_cons (ps_for PassesOwn.leaving rfl (pi_list (pv 3)) (pg_name (i:=8) sc_pace.nd rfl (Or.inl rfl))
    (pss_one (ps_asg (pe_fn C_fraction hr (by decide) rfl (pa_cons (pe_op op_mul (pv 2) (pe_ix ix_list (pe_ix ix_tup (pv 6) pe_int (fun _ _=>rfl)) (pv 8) (fun _ _=>rfl))) (pa_cons (pe_ix ix_tup (pv 4) pe_int (fun _ _=>rfl)) pa_nil))) (pg_sub (pv 7) (pv 8) set_list))))
    (pss_one (ps_ret (pe_tup (pa_cons (pv 4) (pa_cons (pe_fn C_way hr (by decide) rfl (pa_cons (pv 0) (pa_cons (pv 1) (pa_cons (pe_ix ix_tup (pe_ix ix_list (pv 5) pe_int (fun _ _=>rfl)) pe_int (fun _ _=>rfl)) pa_nil)))) (pa_cons (pv 5) (pa_cons (pv 7) pa_nil)))))))))))))))),?_⟩
  obtain ⟨a,vs,rfl,ha,prc⟩:=id hch
  have lvc:=paired_len prc
  have c6:=fc.1
  have fw:=fp.w
  refine ⟨_,rfl,.ref a,c,rfl,hch,fc,fun H1 now s1 fx nw=>?_,qW⟩
  refine ⟨_,rfl,.ref a,c,rfl,hch.mono (Same.tup s1),fc,fun H2 sd s2 hsd=>?_,fun H2 s2 hA hO=>qM H2 now (s1.trans s2) fx nw hA hO⟩
  have s02:=s1.trans s2
  have sd1:sd=1∨sd=-1:=hsd.imp (fun z=>z.2) fun z=>z.2.2
  refine ⟨_,rfl,(by show 1≤sizeLine; decide),fun l0 hl0=>?_⟩
  have s3:=same_new hl0 (.lst [.int (b:Int)])
  have hl3:=upd_same (H:=H2) (a:=l0) (o:=.lst [.int (b:Int)])
  have s03:=s02.trans s3
  generalize upd H2 l0 (.lst [.int (b:Int)])=H3 at s3 hl3 s03 ⊢
  refine ⟨_,rfl,_,rfl,.ref a,c,b,rfl,hch.mono (Same.tup s03),fw,bc,fun H4 l1 R s4 nl1 hl1 hR=>?_⟩
  have s04:=s03.trans s4
  have R6:=hR.len fw
  refine ⟨l0,l1,_,_,rfl,rfl,s4 _ _ hl3,hl1,by rw [nV_len,sizeLine_eq]; show 1+R.length≤_; omega,fun l2 hl2=>?_⟩
  have s5:=same_new hl2 (.lst (nV (b::R)))
  have hl5:=upd_same (H:=H4) (a:=l2) (o:=.lst (nV (b::R)))
  have s05:=s04.trans s5
  show _
  have b6:∀ k∈b::R,k<6:=fun k hk=>by
    rcases List.mem_cons.mp hk with rfl | hk
    · omega
    · exact Nat.lt_of_lt_of_le (((hR.2 k).mp hk).lt fw) c6
  refine ⟨l2,b::R,rfl,SqL.of hl5,b6,fun sA m hsA hm=>?_⟩
  have s6:=s05.trans (same_new hsA (SetO w sA m))
  refine ⟨sA,m,rfl,upd_same,fun bA hbA=>?_⟩
  have s7:=s6.trans (same_new hbA (.lst (nV (SQ.ofM m))))
  have hB7:=upd_same (H:=upd (upd H4 l2 (.lst (nV (b::R)))) sA (SetO w sA m)) (a:=bA) (o:=.lst (nV (SQ.ofM m)))
  rw [hm] at s7 hB7
  rw [hm]
  have memB:∀ x,x∈SQ.setL (b::R)↔x=b∨Hr c b x:=fun x=>by
    rw [SQ.setL_mem,List.mem_cons,hR.2 x]
    refine ⟨fun z=>z.2,fun z=>⟨?_,z⟩⟩
    rcases z with z | z
    · rw [z]; omega
    · exact Nat.lt_of_lt_of_le (z.lt fw) c6
  have upB:(SQ.setL (b::R)).Pairwise (·<·):=List.Pairwise.filter _ List.pairwise_lt_range
  generalize SQ.setL (b::R)=B at s7 hB7 memB upB ⊢
  have bB:b∈B:=(memB b).mpr (.inl rfl)
  have neB:B≠[]:=fun z=>by rw [z] at bB; cases bB
  have ltB:∀ x∈B,x<c.length:=fun x hx=>by
    rcases (memB x).mp hx with z | z
    · rw [z]; exact bc
    · exact z.lt fw
  have clB:Closed c B:=fun x hx k hk=>by
    rcases (memB x).mp hx with z | z
    · rw [z] at hk; exact (memB k).mpr (.inr (.one hk))
    · exact (memB k).mpr (.inr (.more z hk))
  have lB:B.length≤6:=Nat.le_trans (nodup_lt c.length B (upB.imp Nat.ne_of_lt) ltB) c6
  refine ⟨_,rfl,_,rfl,.ref a,c,sd,rfl,hch.mono (Same.tup s7),fp,fun H8 mA s8 nmA hmA=>?_⟩
  have s08:=s7.trans s8
  have hB8:=s8 _ _ hB7
  obtain ⟨S0,S1⟩:=btB_le fp
  have m0:0≤(if sd=1 then 0 else (c.map btB).sum+1)∧(if sd=1 then 0 else (c.map btB).sum+1)≤40000:=by split <;> omega
  have never:∀ h,¬ StillR c B (gnF c sd (if sd=1 then 0 else (c.map btB).sum+1) 1) h:=fun h st=>by
    rcases hsd with ⟨_,e⟩ | ⟨_,aO,e⟩
    · subst e
      rw [if_pos rfl] at st
      exact start_all fp neB clB ltB st
    · subst e
      rw [if_neg (by decide)] at st
      exact start_one fp neB clB ltB fx nw aO st
  generalize (if sd=1 then 0 else (c.map btB).sum+1)=mt at hmA m0 never
  refine ⟨_,rfl,_,rfl,_,rfl,_,rfl,.ref a,c,bA,mA,B,mt,1,sd,rfl,hch.mono (Same.tup s08),fp,hB8,neB,lB,ltB,clB,hmA,sd1,⟨m0.1,m0.2,by decide,by decide⟩,fun H9 T hA hs s9 _ hT hh lh st _=>absurd st (never _),fun H9 T r ring s9 nT hT nr rg ri pos=>?_⟩
  have rback:∀ {ring:List (Nat×Nat)} {mt mb:Int},1≤mb→RingIs c B ring→0<sumG (gnF c sd mt mb) ring→1≤sumG (bkF c) ring:=fun {ring mt mb} mb1 ri pos=>by
    obtain ⟨x1,x2,x3,x4⟩:=ring_bounds fp ri.lis
    rcases hsd with ⟨aA,e⟩ | ⟨_,_,e⟩
    · exact ring_backs fp ri fx nw aA
    · rw [sumG_gn,e] at pos
      refine Classical.byContradiction fun no=>?_
      have z:sumG (bkF c) ring=0:=by omega
      rw [z] at pos
      have:0≤sumG (btF c) ring * mb:=Int.mul_nonneg (by omega) (by omega)
      omega
  have s09:=s08.trans s9
  refine while_by (fun σ H4=>∃ (mA fA:Addr) (rv:V) (mt mb:Int),σ=[some (.ref a),some (.int (b:Int)),some (.int sd),some (.ref bA),some (.ref mA),some rv,some (.ref fA),none,none]∧Same H H4∧H4 bA=some (.lst (nV B))∧H4 mA=some (.tup [.int mt,.int mb])∧(0≤mt∧mt≤40000∧1≤mb∧mb≤6∧Int.gcd mt mb=1)∧FoundAt c B sd mt mb H H4 fA rv) (meanM sd)
    ⟨mA,T,.non,mt,1,rfl,s09,s9 _ _ hB8,s9 _ _ hmA,⟨m0.1,m0.2,by decide,by decide,Int.gcd_one_right _⟩,.ring r ring hT (s08.free nr) rg ri pos⟩ ?_ ?_
  · rintro σ H4 ⟨mA,fA,rv,mt,mb,rfl,s4',hB4,hM4,⟨mt0,mt4,mb1,mb6,low⟩,fd⟩
    rcases fd with ⟨r,ring,h1,h2,h3,h4,h5⟩ | ⟨hA,r,hs,ring,h1,h2,h3,h4,hb,rfl,h5,h6,h7,h8,h9⟩
    ·
      have hf:=SqT.of (K:=K) h1
      have bk1:=rback mb1 h4 h5
      obtain ⟨x1,x2,x3,x4⟩:=ring_bounds fp h4.lis
      obtain ⟨rl1,rl6⟩:=h4.len ltB fp
      refine ⟨_,rfl,fA,_,_,_,rfl,rfl,hf,rfl,rfl,_,rfl,iteT ?_⟩
      refine ⟨_,rfl,fA,_,_,_,rfl,rfl,hf,rfl,?_⟩
      refine ⟨_,rfl,_,rfl,.ref a,c,r,ring,rfl,hch.mono (Same.tup s4'),fp,h3,h4.lis,rl6,bk1,fun H5 mA' p q' s5 nm hm' fr=>?_⟩
      have s05':=s4'.trans s5
      have q1:=fr.pos
      have qle:=fr.qle
      have p0:0≤p:=by
        have e:=fr.eq
        refine Classical.byContradiction fun no=>?_
        have z:p * sumG (bkF c) ring<0:=Int.mul_neg_of_neg_of_pos (by omega) (by omega)
        have z2:0≤sumG (btF c) ring * q':=Int.mul_nonneg (by omega) (by omega)
        omega
      have p6:p≤6000:=by have:=fr.ple; omega
      have q6:q'≤6:=by omega
      have meq:sumG (btF c) ring * q'=sumG (bkF c) ring * p:=by rw [Int.mul_comm (sumG (bkF c) ring) p]; exact fr.eq.symm
      have less:meanM sd [some (.ref a),some (.int (b:Int)),some (.int sd),some (.ref bA),some (.ref mA'),some (.ref r),some (.ref fA),none,none] H5<meanM sd [some (.ref a),some (.int (b:Int)),some (.int sd),some (.ref bA),some (.ref mA),some rv,some (.ref fA),none,none] H4:=by
        rw [meanM_at hm',meanM_at hM4]
        rw [sumG_gn] at h5
        obtain ⟨n1,n2⟩:=q60_nn q1 q6 p0
        rcases sd1 with e | e
        · rw [if_pos e,if_pos e]
          rw [e] at h5
          have:=q60_lt mb1 mb6 q1 q6 (mean_up (mt:=mt) (mb:=mb) bk1 q1 fr.eq (by omega))
          omega
        · rw [if_neg (by omega),if_neg (by omega)]
          rw [e] at h5
          have:=q60_lt q1 q6 mb1 mb6 (mean_down (mt:=mt) (mb:=mb) bk1 q1 fr.eq (by omega))
          omega
      refine ⟨_,rfl,_,rfl,_,rfl,_,rfl,.ref a,c,bA,mA',B,p,q',sd,rfl,hch.mono (Same.tup s05'),fp,s5 _ _ hB4,neB,lB,ltB,clB,hm',sd1,⟨p0,by omega,q1,q6⟩,fun H6 T hA hs s6 nT hT hh lh st hb=>?_,fun H6 T r2 ring2 s6 nT hT nr2 rg2 ri2 pos2=>?_⟩
      · refine ⟨⟨mA',T,.ref r,p,q',rfl,s05'.trans s6,s6 _ _ (s5 _ _ hB4),s6 _ _ hm',⟨p0,by omega,q1,q6,fr.low⟩,.still hA r hs ring hT hh lh st hb rfl h2 ((h3.same s5).same s6) h4 bk1 meq⟩,?_⟩
        show meanM sd [some (.ref a),some (.int (b:Int)),some (.int sd),some (.ref bA),some (.ref mA'),some (.ref r),some (.ref T),none,none] H6<_
        rw [meanM_at (s6 _ _ hm')]
        rw [meanM_at hm'] at less
        exact less
      · refine ⟨⟨mA',T,.ref r,p,q',rfl,s05'.trans s6,s6 _ _ (s5 _ _ hB4),s6 _ _ hm',⟨p0,by omega,q1,q6,fr.low⟩,.ring r2 ring2 hT (s05'.free nr2) rg2 ri2 pos2⟩,?_⟩
        show meanM sd [some (.ref a),some (.int (b:Int)),some (.int sd),some (.ref bA),some (.ref mA'),some (.ref r),some (.ref T),none,none] H6<_
        rw [meanM_at (s6 _ _ hm')]
        rw [meanM_at hm'] at less
        exact less
    ·
      have hf:=SqT.of (K:=K) h1
      refine ⟨_,rfl,fA,_,_,_,rfl,rfl,hf,rfl,rfl,_,rfl,iteF ?_⟩
      refine ⟨_,rfl,a,rfl,⟨_,SqT.of (s4' _ _ ha)⟩,fun nA hnA=>?_⟩
      refine comp_tup (K:=K) (a:=a) (xs:=vs) (fun j ys H5=>Same H4 H5∧ys=List.replicate j V.non) ⟨same_new hnA _,rfl⟩ (fun j ys H5 _ ⟨z,_⟩=>SqT.of (z _ _ (s4' _ _ ha))) ?_ ?_
      · rintro j y ys H5 hj ⟨s5,rfl⟩ hD5
        have jv:j<vs.length:=(List.getElem?_eq_some_iff.mp hj).1
        refine ⟨rfl,tTrue_ite ?_⟩
        refine ⟨_,hD5,?_,_,⟨s5.upd hnA _,rfl⟩,?_⟩
        · rw [List.length_replicate]; exact small1000 (by omega)
        · rw [List.replicate_succ']; exact upd_same
      rintro ys H5 ⟨s5,rfl⟩ hnA5
      rw [lvc] at hnA5
      have nnA:H nA=none:=s4'.free hnA
      refine ⟨_,rfl,bA,rfl,⟨_,SqL.of (s5 _ _ hB4)⟩,?_⟩
      refine for_list (K:=K) (a:=bA) (xs:=nV B) (fun i σ H6=>∃ (o8:Option V) (zs:List V),σ=[some (.ref a),some (.int (b:Int)),some (.int sd),some (.ref bA),some (.ref mA),some (.ref r),some (.ref fA),some (.ref nA),o8]∧Same H4 H6∧H6 nA=some (.lst zs)∧zs.length=c.length∧
          ∀ k,k<c.length→(k∈B.take i→∃ x p q,zs[k]?=some (.ref x)∧x≠nA∧H6 x=some (.tup [.int p,.int q])∧IsFrac (sd * hF hs k) mb p q)∧(k∉B.take i→zs[k]?=some .non))
        ⟨_,_,rfl,s5,hnA5,List.length_replicate,fun k hk=>⟨(fun z=>by rw [List.take_zero] at z; cases z),fun _=>by rw [List.getElem?_replicate,if_pos hk]⟩⟩ (fun i σ H6 _ ⟨_,_,_,z,_⟩=>SqL.of (z _ _ hB4)) ?_ ?_
      · rintro i y σ H6 hy ⟨o8,zs,rfl,s6,hN6,lz,ent⟩
        obtain ⟨k,hk,rfl⟩:∃ k,B[i]?=some k∧y=.int (k:Int):=by
          unfold nV at hy
          rw [List.getElem?_map] at hy
          cases e:B[i]? with
          | none=>rw [e] at hy; cases hy
          | some k=>rw [e] at hy; cases hy; exact ⟨k,rfl,rfl⟩
        have kc:k<c.length:=ltB k (List.mem_of_getElem? hk)
        refine ⟨_,rfl,_,rfl,fA,_,_,_,rfl,rfl,SqT.of (s6 _ _ h1),rfl,_,rfl,hA,_,_,_,rfl,rfl,SqL.of (s6 _ _ h2),atI_nat (hF_at (by omega)),_,_,rfl,rfl,.inl ⟨by omega,by omega⟩,_,rfl,mA,_,_,_,rfl,rfl,SqT.of (s6 _ _ hM4),rfl,_,_,rfl,mb1,?_,fun x p q' hx fr=>?_⟩
        · unfold Big
          exact Nat.lt_of_lt_of_le (show mb.natAbs<2 ^ 10 by omega) (Nat.pow_le_pow_right (by decide) (by decide))
        have s7':=same_new hx (.tup [.int p,.int q'])
        have hN7:=s7' _ _ hN6
        have nxN:x≠nA:=fun z=>by rw [z,hN6] at hx; cases hx
        refine ⟨_,rfl,_,rfl,nA,_,_,k,rfl,rfl,hN7,ixN_nat (by omega),?_⟩
        refine ⟨_,zs.set k (.ref x),rfl,(s6.trans s7').upd hnA _,upd_same,by rw [List.length_set]; exact lz,fun k' hk'=>⟨fun z=>?_,fun z=>?_⟩⟩
        · rw [take_snocR hk] at z
          by_cases e:k'=k
          · subst e
            exact ⟨x,p,q',by rw [List.getElem?_set,if_pos rfl,if_pos (by omega)],nxN,by rw [upd_ne nxN]; exact upd_same,fr⟩
          · have z':k'∈B.take i:=by
              rcases List.mem_append.mp z with z | z
              · exact z
              · exact absurd (List.mem_singleton.mp z) e
            obtain ⟨x',p',q'',e1,e2,e3,e4⟩:=(ent k' hk').1 z'
            exact ⟨x',p',q'',by rw [List.getElem?_set,if_neg (Ne.symm e)]; exact e1,e2,by rw [upd_ne e2]; exact s7' _ _ e3,e4⟩
        · rw [take_snocR hk] at z
          have e:k'≠k:=fun e=>z (List.mem_append_right _ (List.mem_singleton.mpr e))
          rw [List.getElem?_set,if_neg (Ne.symm e)]
          exact (ent k' hk').2 fun zz=>z (List.mem_append_left _ zz)
      · rintro σ H6 ⟨o8,zs,rfl,s6,hN6,lz,ent⟩
        have s06:=s4'.trans s6
        rw [nV_len,List.take_length] at ent
        obtain ⟨st,ring',rfl⟩:=List.exists_cons_of_ne_nil h7.ne
        obtain ⟨xs,hxs,prx⟩:=id h6
        obtain ⟨v0,hv0,t0,rfl,ht0⟩:=paired_at' prx (i:=0) rfl
        have stB:=h7.mem st List.mem_cons_self
        refine ⟨_,rfl,_,rfl,_,rfl,_,rfl,r,_,_,_,rfl,rfl,SqL.of (s6 _ _ hxs),atI_nat hv0,t0,_,_,_,rfl,rfl,SqT.of (s6 _ _ ht0),rfl,.ref a,c,b,st.1,rfl,hch.mono (Same.tup s06),fp,bc,(memB _).mp stB,fun H7 wA way s7' nw' rgw wy w6=>?_⟩
        refine ⟨_,rfl,_,rfl,(by show 4≤sizeLine; decide),fun T2 hT2=>?_⟩
        have s8':=same_new hT2 (.tup [.ref mA,.ref wA,.ref r,.ref nA])
        have s68:=s7'.trans s8'
        refine q _ now T2 mA wA r nA B sd mt mb way (st::ring') (hF hs) (s06.trans s68) fx nw ((s06.trans s7').free hT2) (s06.free nw') h5 nnA upd_same (s68 _ _ (s6 _ _ hM4)) (rgw.same s8') ((h6.same s6).same s68) ⟨zs,s68 _ _ hN6,lz,fun k hk=>⟨fun z=>?_,(ent k hk).2⟩⟩ ⟨hsd,memB,upB,mb1,mb6,low,mt0,mt4,h7,h8,h9,fun s' e=>?_,w6,h4,hb⟩
        · obtain ⟨x,p,q',e1,_,e3,e4⟩:=(ent k hk).1 z
          exact ⟨x,p,q',e1,s68 _ _ e3,e4⟩
        · cases e; exact wy
  · rintro σ H4 Q1 Q2 hq ⟨z1,e1,z2,z3,z4,z5,e2,e3,e4,e5,e6,z6,e7,h⟩
    exact ⟨z1,e1,z2,z3,z4,z5,e2,e3,e4,e5,e6,z6,e7,hq _ _ h⟩
end
end K43
namespace K43
open PySem L2
theorem waits_none {c:List Bell} {now:List (Option Int)} (hl:now.length=c.length) (h:∀ k,k<c.length→∃ v,now[k]?=some (some v)):waitsOf c now=[]:=by
  show (((c.zip now).take c.length).filter fun z=>z.2.isNone).map (·.1.name)=[]
  have e:((c.zip now).take c.length).filter (fun z=>z.2.isNone)=[]:=by
    rw [List.filter_eq_nil_iff]
    rintro ⟨b,o⟩ hz hn
    have hm:=List.mem_of_mem_take hz
    have ho:=(List.of_mem_zip hm).2
    obtain ⟨k,hk⟩:=List.getElem?_of_mem ho
    obtain ⟨v,hv⟩:=h k (by rw [← hl]; exact (List.getElem?_eq_some_iff.mp hk).1)
    rw [hk] at hv
    cases hv
    cases hn
  rw [e]
  rfl
theorem start_some' {c:List Bell} {k:Nat} (h:k<c.length):∃ v,(starts c)[k]?=some (some v):=⟨c[k].start,by rw [List.getElem?_map,List.getElem?_eq_getElem h]; rfl⟩
def shp (r:List Int):List Int:=r.map (· - r.headD 0)
theorem shp_iff {x y:List Int} (hx:x≠[]) (hl:x.length=y.length):shp y=shp x↔y=x.map (·+(y.headD 0 - x.headD 0)):=by
  constructor
  · intro h
    have e:y=(shp y).map (·+y.headD 0):=by
      unfold shp
      rw [List.map_map]
      have:((fun v:Int=>v+y.headD 0) ∘ fun v=>v - y.headD 0)=id:=funext fun v=>by show v - y.headD 0+y.headD 0=v; omega
      rw [this,List.map_id]
    refine e.trans ?_
    rw [h]
    unfold shp
    rw [List.map_map]
    exact List.map_congr_left fun v _=>by show v - x.headD 0+y.headD 0=v+(y.headD 0 - x.headD 0); omega
  · intro h
    unfold shp
    generalize y.headD 0=y0 at h ⊢
    rw [h,List.map_map]
    exact List.map_congr_left fun v _=>by show v+(y0 - x.headD 0) - y0=v - x.headD 0; omega
theorem sh_head {R:Nat→List Int} {f l:Nat} {d:Int} (hn:R f≠[]) (h:Sh R f l d):d=(R l).headD 0 - (R f).headD 0:=by
  unfold Sh at h
  cases e:R f with
  | nil=>exact absurd e hn
  | cons v r =>
    rw [h,e]
    show d=v+d - v
    omega
theorem eqL_ints:∀ xs ys:List Int,eqL (xs.map V.int) (ys.map V.int)=decide (xs=ys)
  | [],[]=>rfl
  | [],_::_=>rfl
  | _::_,[]=>rfl
  | x::xs,y::ys=>by
    show ((x == y) && eqL (xs.map V.int) (ys.map V.int))=decide (x::xs=y::ys)
    rw [eqL_ints xs ys,Bool.eq_iff_iff]
    simp
theorem ints_flat (xs:List Int):(xs.map V.int).all flatV=true:=by
  rw [List.all_eq_true]
  intro x hx
  obtain ⟨i,_,rfl⟩:=List.mem_map.mp hx
  rfl
theorem row_ints (r:List Int):(r.map some).map oV=r.map V.int:=by
  rw [List.map_map]
  rfl
theorem atI_head {r:List Int} (h:r≠[]):atI (r.map V.int) 0=some (.int (r.headD 0)):=by
  cases r with
  | nil=>exact absurd rfl h
  | cons v r=>exact atI_nat (j:=0) rfl
def toldV:Option (Nat×Nat×Int)→List V
  | none=>[.str "none"]
  | some (f,p,d)=>[.str "round",.int f,.int p,.int d]
section
variable {P:Program} {w:World} {K:PySem.W.Frag} {mg:Str→Option Value} {base:Heap} {f:Addr} {fd:FuncData}
def sp_refuseN:Sp:=fun vs H Q _=>∃ (ch:V) (c:List Bell),vs=[ch]∧ChoirAt H ch c∧GoodN c∧∀ H',Same H H'→Q .non H'
theorem Cal.weak {k:Nat} {x:Str} {ps:List Str} {sp sp':Sp} (C:Cal P w K mg base k x ps sp) (h:∀ vs H Q E,sp' vs H Q E→sp vs H Q E):Cal P w K mg base k x ps sp':=by
  obtain ⟨f,fd,F,b,kp,m⟩:=C.ex
  exact ⟨f,fd,⟨fun vs H Q E z=>F.len _ _ _ _ (h _ _ _ _ z),fun A outer s H args us vs Q E hr e0 hb r z=>F.run A outer s H args us vs Q E hr e0 hb r (h _ _ _ _ z)⟩,b,kp,m⟩
theorem goodN_no {c:List Bell} (g:GoodN c) {now:List (Option Int)} (fx:Fix c (starts c) now):waitsOf c now=[]:=waits_none fx.1 (nw_all g.nw (fun k hk=>start_some' hk) fx)
theorem cal_refuseN {W:Addr} (C:CalX P w K mg base 9 "refuse_waiting" ["choir"] (sp_refuse W)):Cal P w K mg base 9 "refuse_waiting" ["choir"] sp_refuseN:=by
  refine Cal.weak C.to0 fun vs H Q E h=>?_
  obtain ⟨ch,c,rfl,hch,g,q⟩:=h
  exact ⟨ch,c,rfl,hch,g.fine,fun H' now s _ _=>q H' s,fun H' now l dx _ fx hne _ _ _=>absurd (goodN_no g fx) hne⟩
def sp_round:Sp:=fun vs H Q _=>∃ (ch:V) (c:List Bell) (most:Nat) (R:Nat→List Int),vs=[ch,.int most]∧ChoirAt H ch c∧GoodN c∧most≤1000∧SeqR c R∧∀ (H':Hp) (x:Addr) o,Same H H'→H x=none→RoundIs R most o→H' x=some (.tup (toldV o))→Q (.ref x) H'
theorem sc_round:FnScope ["choir","most","told","shapes","first","later"] ["choir","most"] (defScope s_round_of):=⟨rfl,rfl,rfl,by decide +kernel,rfl,by decide +kernel,by decide +kernel⟩
theorem ok_round (F:Fun K "round_of" "round_of" s_round_of f fd) (B:Blt mg) (C_refuse:Cal P w K mg base 9 "refuse_waiting" ["choir"] sp_refuseN) (C_strokes:Cal P w K mg base 7 "strokes" ["choir","many"] sp_strokes):FnOk P w K mg base CX0 10 f fd ["choir","most"] sp_round:=by
  refine F.ok sc_round (fun vs H Q E h=>?_) (fun cdv A outer s H vs Q E hr h=>?_)
  · obtain ⟨ch,c,most,R,rfl,_⟩:=h
    rfl
  obtain ⟨ch,c,most,R,rfl,hch,g,hm,sq,q⟩:=h
  refine ⟨_,(pss_cons (ps_expr (pe_fn C_refuse hr (by decide) rfl (pa_cons (pv 0) pa_nil)))
    (pss_cons (ps_set (i:=2) sc_round.nd rfl (Or.inl rfl) (pe_fn C_strokes hr (by decide) rfl (pa_cons (pv 0) (pa_cons (pv 1) pa_nil))))
    (pss_cons (ps_setComp (i:=3) ["beats"] [] [] rfl sc_round.nd rfl (Or.inl rfl) (pi_list (pv 2)) (fun _ _ _ _ _=>(pg_name (i:=0) (show List.Nodup [("beats":Str)] by decide +kernel) rfl (Or.inr rfl))) (fun _ _ _ _ _=>pts_nil) (fun _ _ _ _ _=>(pe_comp ["beat"] ["beats"] [0] rfl (pi_listC (K:=K) rfl (pv 0)) (fun _ _ _ _ _=>(pg_name (i:=0) (show List.Nodup [("beat":Str),("beats":Str)] by decide +kernel) rfl (Or.inl rfl))) (fun _ _ _ _ _=>pts_nil) (fun _ _ _ _ _=>(pe_op op_sub (pv 0) (pe_ix (ix_listC (K:=K) rfl) (pv 1) pe_int (fun _ _=>rfl)))))))
    (pss_cons (ps_for PassesOwn.never rfl (pi_range1 rfl B.range_ (pa_cons (pe_callB call_len_seq rfl B.len_ PySem.boot_len (pa_cons (pv 2) pa_nil)) pa_nil)) (pg_name (i:=4) sc_round.nd rfl (Or.inl rfl))
    (pss_one (ps_for PassesOwn.never rfl (pi_range2 rfl B.range_ (pa_cons (pe_op op_add (pv 4) pe_int) (pa_cons (pe_callB call_len_seq rfl B.len_ PySem.boot_len (pa_cons (pv 2) pa_nil)) pa_nil))) (pg_name (i:=5) sc_round.nd rfl (Or.inl rfl))
    (pss_one (ps_if (pt_cmpR (op_eqL hr.units0) (pe_ix ix_list (pv 3) (pv 5) (fun _ _=>rfl)) (pe_ix ix_list (pv 3) (pv 4) (fun _ _=>rfl)) (nomark _))
    (pss_one (ps_ret (pe_tup (pa_cons pe_str (pa_cons (pv 4) (pa_cons (pe_op op_sub (pv 5) (pv 4)) (pa_cons (pe_op op_sub (pe_ix ix_list (pe_ix ix_list (pv 2) (pv 5) (fun _ _=>rfl)) pe_int (fun _ _=>rfl)) (pe_ix ix_list (pe_ix ix_list (pv 2) (pv 4) (fun _ _=>rfl)) pe_int (fun _ _=>rfl))) pa_nil)))))))
    pss_nil)))))
    (pss_one (ps_ret (pe_tup (pa_cons pe_str pa_nil)))))))),?_⟩
  refine ⟨_,rfl,ch,c,rfl,hch,g,fun H1 s1=>?_⟩
  refine ⟨_,rfl,_,rfl,ch,c,most,rfl,hch.mono (Same.tup s1),g.fine,by omega,fun H2 t told rows s2 ht1 ht2 prt hlr hrows=>?_⟩
  have s02:=s1.trans s2
  have htl:=(paired_len prt).trans hlr
  have rne:∀ n,R n≠[]:=fun n e=>by
    have h1:=sq.len n
    rw [e] at h1
    have h2:=g.c1
    rw [← h1] at h2
    exact absurd h2 (by show ¬ 1≤0; omega)
  have rowOf:∀ (n:Nat) v,told[n]?=some v→∃ x,v=.ref x∧H2 x=some (.lst ((R n).map V.int)):=fun n v hv=>by
    obtain ⟨row,hrow,x,rfl,_,hx⟩:=paired_at prt hv
    rw [seq_rows g.nw.slow sq hrows n row hrow,row_ints] at hx
    exact ⟨x,rfl,hx⟩
  clear prt ht1
  refine ⟨_,rfl,t,rfl,⟨_,SqL.of ht2⟩,fun D hD=>?_⟩
  refine comp_list (K:=K) (a:=t) (xs:=told) (fun j ys H3=>Same H2 H3∧ys.length=j∧∀ (n:Nat) v,ys[n]?=some v→∃ x,v=.ref x∧x≠D∧H3 x=some (.lst ((shp (R n)).map V.int))) ⟨same_new hD _,rfl,fun _ _ e=>(nomatch e)⟩ (fun j ys H3 _ ⟨z,_⟩=>SqL.of (z _ _ ht2)) ?_ ?_
  · rintro j y ys H3 hj ⟨s3,hyl,hys⟩ hD3
    obtain ⟨x,rfl,hx⟩:=rowOf j y hj
    have hjm:j<told.length:=(List.getElem?_eq_some_iff.mp hj).1
    have hx3:=s3 _ _ hx
    refine ⟨rfl,tTrue_ite ?_⟩
    refine ⟨_,rfl,x,rfl,⟨_,SqL.of hx3⟩,fun D2 hD2=>?_⟩
    have nD:D2≠D:=fun e=>by rw [e,hD3] at hD2; cases hD2
    refine comp_list (K:=K) (a:=x) (xs:=(R j).map V.int) (fun i zs H4=>Same H3 H4∧zs=(((R j).take i).map (· - (R j).headD 0)).map V.int) ⟨same_new hD2 _,rfl⟩ (fun i zs H4 _ ⟨z,_⟩=>SqL.of (z _ _ hx3)) ?_ ?_
    · rintro i y zs H4 hi ⟨s4,rfl⟩ hD4
      rw [List.getElem?_map] at hi
      obtain ⟨u,hu,rfl⟩:=Option.map_eq_some_iff.mp hi
      have hi6:i<(R j).length:=(List.getElem?_eq_some_iff.mp hu).1
      have h6:=g.c6
      rw [sq.len] at hi6
      refine ⟨rfl,tTrue_ite ?_⟩
      refine ⟨_,rfl,_,rfl,x,_,_,_,rfl,rfl,SqL.of (s4 _ _ hx3),atI_head (rne j),_,_,rfl,rfl,_,hD4,?_,_,⟨s4.upd hD2 _,rfl⟩,?_⟩
      · rw [List.length_map,List.length_map,List.length_take]
        exact small1000 (by omega)
      · rw [take_snoc hu,List.map_append,List.map_append]
        exact upd_same
    · rintro zs H4 ⟨s4,rfl⟩ hD4
      rw [List.length_map,List.take_length] at hD4
      have hD34:=s4 _ _ hD3
      refine ⟨_,hD34,by rw [hyl]; exact small1000 (by omega),_,⟨(s3.trans s4).upd hD _,by rw [List.length_append,hyl]; rfl,fun n v hv=>?_⟩,upd_same⟩
      by_cases hn:n<ys.length
      · rw [List.getElem?_append_left hn] at hv
        obtain ⟨x',rfl,nx,hx'⟩:=hys n v hv
        exact ⟨x',rfl,nx,by rw [upd_ne nx]; exact s4 _ _ hx'⟩
      · have hlt:=(List.getElem?_eq_some_iff.mp hv).1
        rw [List.length_append] at hlt
        have hlt':n<ys.length+1:=hlt
        have en:n=ys.length:=by omega
        rw [en,List.getElem?_concat_length] at hv
        cases hv
        refine ⟨D2,rfl,nD,?_⟩
        rw [upd_ne nD,en,hyl]
        exact hD4
  rintro ys H3 ⟨s3,hyl,hys⟩ hD3
  have s03:=s02.trans s3
  have ht3:=s3 _ _ ht2
  clear hD
  have shapeAt:∀ n,n≤most→∃ x,atI ys (n:Int)=some (.ref x)∧H3 x=some (.lst ((shp (R n)).map V.int)):=fun n hn=>by
    have e:=List.getElem?_eq_getElem (show n<ys.length by omega)
    obtain ⟨x,hv,_,hx⟩:=hys n _ e
    exact ⟨x,by rw [← hv]; exact atI_nat e,hx⟩
  have toldAt:∀ n,n≤most→∃ x,atI told (n:Int)=some (.ref x)∧H3 x=some (.lst ((R n).map V.int)):=fun n hn=>by
    have e:=List.getElem?_eq_getElem (show n<told.length by omega)
    obtain ⟨x,hv,hx⟩:=rowOf n _ e
    exact ⟨x,by rw [← hv]; exact atI_nat e,s3 _ _ hx⟩
  refine ⟨_,rfl,t,_,rfl,.inl (SqL.of ht3),(told.length:Int),rfl,by omega,by omega,?_⟩
  refine for_range (lo:=0) (n:=((told.length:Nat):Int).toNat) (fun i σ H4=>∃ (o4 o5:Option V),σ=[some ch,some (.int most),some (.ref t),some (.ref D),o4,o5]∧H4=H3∧∀ f',f'<i→∀ l,f'<l→l≤most→NoSh R f' l)
    ⟨none,none,rfl,rfl,fun _ h=>absurd h (Nat.not_lt_zero _)⟩ ?_ ?_
  · rintro i σ H4 hi ⟨o4,o5,rfl,rfl,no⟩
    rw [Int.zero_add]
    have him:i≤most:=by omega
    refine ⟨_,rfl,_,_,rfl,rfl,_,rfl,t,_,rfl,.inl (SqL.of ht3),((i:Int)+1),(told.length:Int),rfl,⟨by omega,by omega,by omega,by omega⟩,?_⟩
    refine for_range (lo:=(i:Int)+1) (n:=((told.length:Int) - ((i:Int)+1)).toNat) (fun j σ H5=>∃ (o5:Option V),σ=[some ch,some (.int most),some (.ref t),some (.ref D),some (.int i),o5]∧H5=H4∧∀ l,i<l→l<i+1+j→NoSh R i l)
      ⟨_,rfl,rfl,fun l h1 h2=>by omega⟩ ?_ ?_
    · rintro j σ H5 hj ⟨o5,rfl,rfl,no2⟩
      have hl:i+1+j≤most:=by omega
      have el:(i:Int)+1+(j:Int)=((i+1+j:Nat):Int):=by omega
      rw [el]
      obtain ⟨x1,a1,k1⟩:=shapeAt (i+1+j) hl
      obtain ⟨x2,a2,k2⟩:=shapeAt i him
      refine ⟨_,rfl,_,rfl,D,_,_,_,rfl,rfl,SqL.of hD3,a1,_,rfl,_,rfl,D,_,_,_,rfl,rfl,SqL.of hD3,a2,x1,x2,_,_,rfl,rfl,SqL.of k1,SqL.of k2,ints_flat _,ints_flat _,_,rfl,?_⟩
      have lens:(R i).length=(R (i+1+j)).length:=by rw [sq.len,sq.len]
      refine ite2 (fun cc=>?_) (fun cc=>?_)
      · have cc':eqL ((shp (R (i+1+j))).map V.int) ((shp (R i)).map V.int)=true:=cc
        rw [eqL_ints] at cc'
        have sh:Sh R i (i+1+j) ((R (i+1+j)).headD 0 - (R i).headD 0):=(shp_iff (rne i) lens).mp (of_decide_eq_true cc')
        obtain ⟨y1,b1,m1⟩:=toldAt (i+1+j) hl
        obtain ⟨y2,b2,m2⟩:=toldAt i him
        refine ⟨_,rfl,_,rfl,_,rfl,_,_,rfl,rfl,_,rfl,_,rfl,t,_,_,_,rfl,rfl,SqL.of ht3,b1,y1,_,_,_,rfl,rfl,SqL.of m1,atI_head (rne _),_,rfl,_,rfl,t,_,_,_,rfl,rfl,SqL.of ht3,b2,y2,_,_,_,rfl,rfl,SqL.of m2,atI_head (rne _),_,_,rfl,rfl,(by show 4≤sizeLine; decide),fun T hT=>?_⟩
        refine q _ T (some (i,1+j,(R (i+1+j)).headD 0 - (R i).headD 0)) (s03.trans (same_new hT _)) (s03.free hT) ⟨by omega,by omega,by rw [show i+(1+j)=i+1+j by omega]; exact sh,fun f' l h1 h2 h3=>no f' h1 l h2 h3,fun l h1 h2=>no2 l h1 (by omega)⟩ ?_
        have ep:((i+1+j:Nat):Int) - (i:Int)=((1+j:Nat):Int):=by omega
        rw [upd_same]
        dsimp only
        rw [ep]
        rfl
      · refine ⟨_,rfl,rfl,fun l h1 h2=>?_⟩
        by_cases e:l=i+1+j
        · subst e
          intro d sh
          refine cc ?_
          show eqL ((shp (R (i+1+j))).map V.int) ((shp (R i)).map V.int)=true
          rw [eqL_ints]
          refine decide_eq_true ((shp_iff (rne i) lens).mpr ?_)
          have hd:=sh_head (rne i) sh
          rw [← hd]
          exact sh
        · exact no2 l h1 (by omega)
    · rintro σ H5 ⟨o5,rfl,rfl,no2⟩
      refine ⟨_,_,rfl,rfl,fun f' h1 l h2 h3=>?_⟩
      by_cases e:f'=i
      · subst e
        exact no2 l h2 (by omega)
      · exact no f' (by omega) l h2 h3
  · rintro σ H4 ⟨o4,o5,rfl,rfl,no⟩
    refine ⟨(by show 1≤sizeLine; decide),fun T hT=>?_⟩
    exact q _ T none (s03.trans (same_new hT _)) (s03.free hT) (fun f' l h1 h2=>no f' (by omega) l h1 h2) upd_same
def RowsAt (H:Hp) (t:Addr) (n:Nat) (R:Nat→List Int):Prop:=∃ told:List V,H t=some (.lst told)∧told.length=n∧∀ (k:Nat) v,told[k]?=some v→∃ x,v=.ref x∧H x=some (.lst ((R k).map V.int))
theorem rep_all (n:Nat):(List.replicate n true).all id=true:=by simp
def word:Option (Nat×Nat×Int)→Str
  | none=>"none"
  | some _=>"round"
theorem word_at (o:Option (Nat×Nat×Int)):atI (toldV o) 0=some (.str (word o)):=by
  cases o with
  | none=>exact atI_nat (j:=0) rfl
  | some z=>exact atI_nat (j:=0) rfl
end
end K43
namespace K43
open PySem L2
theorem due_all {bs:List (Option Int)} {v:Int} (h:Due bs (bs.length:Int) (some v)):(∀ o∈bs,∃ u,o=some u∧u≤v)∧some v∈bs:=by
  obtain ⟨h1,h2⟩:=h
  have e:bs.countP (fun o=>leO o v)=bs.length:=by
    have:=List.countP_le_length (p:=fun o=>leO o v) (l:=bs)
    have h1':(bs.length:Int)≤((bs.countP fun o=>leO o v:Nat):Int):=h1
    omega
  have all:∀ o∈bs,∃ u,o=some u∧u≤v:=fun o ho=>leO_some (List.countP_eq_length.mp e o ho)
  refine ⟨all,Classical.byContradiction fun no=>?_⟩
  have e2:bs.countP (fun o=>leO o (v - 1))=bs.length:=List.countP_eq_length.mpr fun o ho=>by
    obtain ⟨u,rfl,hu⟩:=all o ho
    refine decide_eq_true ?_
    have:u≠v:=fun z=>no (z▸ho)
    omega
  have h2':((bs.countP fun o=>leO o (v - 1):Nat):Int)<(bs.length:Int):=h2
  omega
theorem due_one {bs:List (Option Int)} {v:Int} (h:Due bs 1 (some v)):(∀ u,some u∈bs→v≤u)∧some v∈bs:=by
  obtain ⟨h1,h2⟩:=h
  have h1':(1:Int)≤((bs.countP fun o=>leO o v:Nat):Int):=h1
  have h2':((bs.countP fun o=>leO o (v - 1):Nat):Int)<1:=h2
  have low:∀ u,some u∈bs→v≤u:=fun u hu=>by
    have:=List.countP_eq_zero.mp (show bs.countP (fun o=>leO o (v - 1))=0 by omega) _ hu
    have:¬ u≤v - 1:=fun z=>this (decide_eq_true z)
    omega
  refine ⟨low,?_⟩
  obtain ⟨o,ho,z⟩:=List.countP_pos_iff.mp (show 0<bs.countP (fun o=>leO o v) by omega)
  obtain ⟨u,rfl,hu⟩:=leO_some z
  have:=low u ho
  have:u=v:=by omega
  exact this▸ho
def AllS (c:List Bell) (row:List (Option Int)):Prop:=∀ k,k<c.length→∃ u,row[k]?=some (some u)
theorem allS_now {c:List Bell} {before now:List (Option Int)} (fx:Fix c before now) (h:waitsOf c now=[]):AllS c now:=fun k hk=>by
  obtain ⟨o,ho,_⟩:=fx.2 k c[k] (List.getElem?_eq_getElem hk)
  cases o with
  | some u=>exact ⟨u,ho⟩
  | none =>
    have m:(c[k],(none:Option Int))∈(c.zip now).filter fun z=>z.2.isNone:=List.mem_filter.mpr ⟨List.mem_of_getElem? (zip_at (List.getElem?_eq_getElem hk) ho),rfl⟩
    have e:((c.zip now).filter fun z=>z.2.isNone)=[]:=by
      have e:=List.map_eq_nil_iff.mp h
      rwa [List.take_of_length_le (by rw [List.length_zip]; omega)] at e
    rw [e] at m
    cases m
theorem rows_all {c:List Bell} (hc:Slow c) {rows:List (List (Option Int))} (h:Rows c rows) {now:List (Option Int)} (fx:Fix c (starts c) now) (go:AllS c now):∀ (n:Nat) (x:List (Option Int)),rows[n]?=some x→AllS c x
  | 0,x,e,k,hk=>by
    rw [h.first x e]
    exact ⟨c[k].start,by rw [List.getElem?_map,List.getElem?_eq_getElem hk]; rfl⟩
  | n+1,x,e,k,hk=>by
    have nl:n<rows.length:=by have:=(List.getElem?_eq_some_iff.mp e).1; omega
    have ih:=rows_all hc h fx go n rows[n] (List.getElem?_eq_getElem nl)
    have f:=h.next n _ x (List.getElem?_eq_getElem nl) e
    obtain ⟨u,hu⟩:=go k hk
    refine fix_some hc (fun j w hj=>?_) f fx k u hu
    have jl:j<(starts c).length:=(List.getElem?_eq_some_iff.mp hj).1
    exact ih j (by unfold starts at jl; rwa [List.length_map] at jl)
def at2 (rows:List (List (Option Int))) (n x:Nat):Int:=(((rows[n]?).bind (·[x]?)).join).getD 0
theorem at2_of {rows:List (List (Option Int))} {n x:Nat} {row:List (Option Int)} {v:Int} (h:rows[n]?=some row) (h':row[x]?=some (some v)):at2 rows n x=v:=by unfold at2; rw [h]; show ((row[x]?).join).getD 0=v; rw [h']; rfl
def bkN (l:Lis):Nat:=if l.back then 1 else 0
theorem bkN_I (l:Lis):((bkN l:Nat):Int)=bkI l:=by unfold bkN bkI; split <;> rfl
structure Strk (c:List Bell) (sd:Int) (N:Nat) (R:Nat→Nat→Int):Prop where
  z:∀ x b,c[x]?=some b→R 0 x=b.start
  le:∀ n x p l,n<N→lisAt c x p=some l→sd * (R (n+1 - bkN l) l.whom+l.beats)≤sd * R (n+1) x
  ex:∀ n x,n<N→x<c.length→∃ p l,lisAt c x p=some l∧R (n+1) x=R (n+1 - bkN l) l.whom+l.beats
theorem strk_of {c:List Bell} {sd:Int} (fi:Fine c) {rows:List (List (Option Int))} (h:Rows c rows) (hs:SideIs c sd) {now:List (Option Int)} (fx:Fix c (starts c) now) (w0:waitsOf c now=[]) {N:Nat} (hN:rows.length=N+1):Strk c sd N (at2 rows):=by
  have al:=rows_all fi.slow h fx (allS_now fx w0)
  have row:∀ n,n≤N→∃ r,rows[n]?=some r:=fun n hn=>⟨rows[n]'(by omega),List.getElem?_eq_getElem _⟩
  have come1:∀ n,n<N→∀ x y,rows[n]?=some x→rows[n+1]?=some y→∀ l:Lis,l.whom<c.length→come x y l=some (at2 rows (n+1 - bkN l) l.whom+l.beats):=fun n hn x y hx hy l hl=>by
    unfold bkN
    cases hb:l.back with
    | true =>
      obtain ⟨u,hu⟩:=al n x hx l.whom hl
      rw [come_of (w:=u) (by rw [hb]; exact hu)]
      congr 2
      exact (at2_of hx hu).symm
    | false =>
      obtain ⟨u,hu⟩:=al (n+1) y hy l.whom hl
      rw [come_of (w:=u) (by rw [hb]; exact hu)]
      congr 2
      exact (at2_of hy hu).symm
  have due:∀ n,n<N→∀ x b,c[x]?=some b→(∀ l∈b.lis,sd * (at2 rows (n+1 - bkN l) l.whom+l.beats)≤sd * at2 rows (n+1) x)∧∃ l∈b.lis,at2 rows (n+1) x=at2 rows (n+1 - bkN l) l.whom+l.beats:=fun n hn x b hb=>by
    obtain ⟨r,hr⟩:=row n (by omega)
    obtain ⟨r',hr'⟩:=row (n+1) (by omega)
    have f:=h.next n r r' hr hr'
    obtain ⟨o,ho,d⟩:=f.2 x b hb
    have xc:x<c.length:=(List.getElem?_eq_some_iff.mp hb).1
    obtain ⟨v,hv⟩:=al (n+1) r' hr' x xc
    obtain rfl:o=some v:=Option.some.inj (ho.symm.trans hv)
    rw [at2_of hr' hv]
    have lw:∀ l∈b.lis,come r r' l=some (at2 rows (n+1 - bkN l) l.whom+l.beats):=fun l hl=>come1 n hn r r' hr hr' l ((fi.2 x b hb).2.2.2 l hl).1
    have mem:some v∈comesOf b r r'→∃ l∈b.lis,v=at2 rows (n+1 - bkN l) l.whom+l.beats:=fun m=>by
      obtain ⟨l,hl,e⟩:=List.mem_map.mp m
      exact ⟨l,hl,Option.some.inj (e.symm.trans (lw l hl))⟩
    have inn:∀ l∈b.lis,some (at2 rows (n+1 - bkN l) l.whom+l.beats)∈comesOf b r r':=fun l hl=>List.mem_map.mpr ⟨l,hl,lw l hl⟩
    rcases hs with ⟨aa,rfl⟩ | ⟨_,ao,rfl⟩
    · rw [aa b (List.mem_of_getElem? hb)] at d
      have e:b.lis.length=(comesOf b r r').length:=(List.length_map _).symm
      rw [e] at d
      obtain ⟨d1,d2⟩:=due_all d
      refine ⟨fun l hl=>?_,mem d2⟩
      obtain ⟨u,e,hu⟩:=d1 _ (inn l hl)
      have:=Option.some.inj e
      omega
    · rw [ao b (List.mem_of_getElem? hb)] at d
      obtain ⟨d1,d2⟩:=due_one d
      refine ⟨fun l hl=>?_,mem d2⟩
      have:=d1 _ (inn l hl)
      omega
  refine ⟨fun x b hb=>?_,fun n x p l hn hl=>?_,fun n x hn hx=>?_⟩
  · obtain ⟨r,hr⟩:=row 0 (Nat.zero_le _)
    have e:=h.first r hr
    refine at2_of hr ?_
    rw [e,List.getElem?_map,hb]
    rfl
  · obtain ⟨b,hb,hp⟩:=lisAt_bell hl
    exact (due n hn x b hb).1 l (List.mem_of_getElem? hp)
  · obtain ⟨l,hl,e⟩:=(due n hn x c[x] (List.getElem?_eq_getElem hx)).2
    obtain ⟨p,hp⟩:=List.getElem?_of_mem hl
    exact ⟨p,l,lisAt_of (List.getElem?_eq_getElem hx) hp,e⟩
theorem lowR (R:Nat→Int):∀ k:Nat,∃ low:Int,∀ x,x<k→low≤R x
  | 0=>⟨0,fun x h=>absurd h (Nat.not_lt_zero x)⟩
  | k+1=>by
    obtain ⟨low,h⟩:=lowR R k
    refine ⟨if low≤R k then low else R k,fun x hx=>?_⟩
    by_cases e:x=k
    · subst e; split <;> omega
    · have:=h x (by omega)
      split <;> omega
theorem strk_up {c:List Bell} {B:List Nat} {sd mt mb Q D:Int} {N:Nat} {R:Nat→Nat→Int} {h:Nat→Int} (S:Strk c sd N R) (fp:FineP c) (st:StillR c B (gnF c sd mt mb) h) (cl:Closed c B) (lt:∀ b∈B,b<c.length) (Q0:0≤Q)
    (base:∀ y∈B,∀ b,c[y]?=some b→Q * (sd * b.start * mb - h y)≤D):∀ n,n≤N→∀ x∈B,Q * (sd * R n x * mb - h x - sd * mt * n)≤D
  | 0,_,x,hx=>by
    have e:=List.getElem?_eq_getElem (lt x hx)
    have:=base x hx _ e
    rw [S.z x _ e,Int.natCast_zero,Int.mul_zero,Int.sub_zero]
    exact this
  | n+1,hn,x,hx=>by
    have ih:=strk_up S fp st cl lt Q0 base n (by omega)
    obtain ⟨low,hlow⟩:=lowR (R (n+1)) c.length
    have key:∀ m:Nat,∀ x∈B,(R (n+1) x - low).toNat≤m→Q * (sd * R (n+1) x * mb - h x - sd * mt * ((n+1:Nat):Int))≤D:=by
      intro m
      induction m with
      | zero =>
        intro x hx hm
        obtain ⟨p,l,hl,e⟩:=S.ex n x (by omega) (lt x hx)
        have lb:=fp.lis hl
        have wB:l.whom∈B:=cl x hx _ (lisAt_whom hl)
        have s:=st x hx p l hl
        unfold gnF at s
        rw [btF_at hl,bkF_at hl] at s
        have b1:=hlow x (lt x hx)
        cases hb:l.back with
        | false =>
          have b0:bkN l=0:=by unfold bkN; rw [hb]; rfl
          rw [b0] at e
          have:=hlow l.whom lb.1
          have e':R (n+1) x=R (n+1) l.whom+l.beats:=e
          omega
        | true =>
          have b0:bkN l=1:=by unfold bkN; rw [hb]; rfl
          have bI:bkI l=1:=by unfold bkI; rw [hb]; rfl
          rw [b0] at e
          have e':R (n+1) x=R n l.whom+l.beats:=e
          rw [bI] at s
          refine Int.le_trans (Int.mul_le_mul_of_nonneg_left ?_ Q0) (ih _ wB)
          rw [e',Int.natCast_add,Int.natCast_one]
          have q1:sd * (R n l.whom+l.beats) * mb=sd * R n l.whom * mb+sd * (l.beats * mb):=by grind
          have q2:sd * (l.beats * mb - 1 * mt)=sd * (l.beats * mb) - sd * mt:=by grind
          have q3:sd * mt * ((n:Int)+1)=sd * mt * n+sd * mt:=by grind
          rw [q2] at s
          rw [q1,q3]
          omega
      | succ m im =>
        intro x hx hm
        obtain ⟨p,l,hl,e⟩:=S.ex n x (by omega) (lt x hx)
        have lb:=fp.lis hl
        have wB:l.whom∈B:=cl x hx _ (lisAt_whom hl)
        have s:=st x hx p l hl
        unfold gnF at s
        rw [btF_at hl,bkF_at hl] at s
        cases hb:l.back with
        | false =>
          have b0:bkN l=0:=by unfold bkN; rw [hb]; rfl
          have bI:bkI l=0:=by unfold bkI; rw [hb]; rfl
          rw [b0] at e
          have e':R (n+1) x=R (n+1) l.whom+l.beats:=e
          have:=hlow l.whom lb.1
          rw [bI] at s
          refine Int.le_trans (Int.mul_le_mul_of_nonneg_left ?_ Q0) (im _ wB (by omega))
          rw [e']
          have q1:sd * (R (n+1) l.whom+l.beats) * mb=sd * R (n+1) l.whom * mb+sd * (l.beats * mb):=by grind
          have q2:sd * (l.beats * mb - 0 * mt)=sd * (l.beats * mb):=by grind
          rw [q2] at s
          rw [q1]
          omega
        | true =>
          have b0:bkN l=1:=by unfold bkN; rw [hb]; rfl
          have bI:bkI l=1:=by unfold bkI; rw [hb]; rfl
          rw [b0] at e
          have e':R (n+1) x=R n l.whom+l.beats:=e
          rw [bI] at s
          refine Int.le_trans (Int.mul_le_mul_of_nonneg_left ?_ Q0) (ih _ wB)
          rw [e',Int.natCast_add,Int.natCast_one]
          have q1:sd * (R n l.whom+l.beats) * mb=sd * R n l.whom * mb+sd * (l.beats * mb):=by grind
          have q2:sd * (l.beats * mb - 1 * mt)=sd * (l.beats * mb) - sd * mt:=by grind
          have q3:sd * mt * ((n:Int)+1)=sd * mt * n+sd * mt:=by grind
          rw [q2] at s
          rw [q1,q3]
          omega
    exact key _ x hx (Nat.le_refl _)
theorem bkF_nn (c:List Bell):∀ r:List (Nat×Nat),0≤sumG (bkF c) r
  | []=>Int.le_refl _
  | s::r=>by
    have:=bkF_nn c r
    have z:0≤bkF c s.1 s.2:=by
      cases e:lisAt c s.1 s.2 with
      | none=>unfold bkF; rw [e]; decide
      | some l=>rw [bkF_at e]; exact (bkI_01 l).1
    show 0≤bkF c s.1 s.2+sumG (bkF c) r
    omega
theorem strk_ring {c:List Bell} {sd:Int} {N:Nat} {R:Nat→Nat→Int} (S:Strk c sd N R) (hs:sd=1∨sd=-1):∀ {r:List (Nat×Nat)} {s:Nat×Nat} {goal n k:Nat},Leads c (s::r) goal→1≤n→(k:Int)=sumG (bkF c) (s::r)→n+k≤N→
    sd * (R n goal+sumG (btF c) (s::r))≤sd * R (n+k) s.1
  | [],s,goal,n,k,⟨l,h1,h2⟩,n1,hk,hN=>by
    have e1:sumG (bkF c) [s]=bkI l:=by show bkF c s.1 s.2+0=_; rw [bkF_at h1]; omega
    have e2:sumG (btF c) [s]=l.beats:=by show btF c s.1 s.2+0=_; rw [btF_at h1]; omega
    rw [e1,← bkN_I] at hk
    have hk':k=bkN l:=by omega
    have z:=S.le (n+k - 1) s.1 s.2 l (by omega) h1
    rw [show n+k - 1+1=n+k by omega,show n+k - bkN l=n by omega,h2] at z
    rw [e2]
    exact z
  | u::r,s,goal,n,k,⟨⟨l,h1,h2⟩,h3⟩,n1,hk,hN=>by
    have e1:sumG (bkF c) (s::u::r)=bkI l+sumG (bkF c) (u::r):=by show bkF c s.1 s.2+_=_; rw [bkF_at h1]
    have e2:sumG (btF c) (s::u::r)=l.beats+sumG (btF c) (u::r):=by show btF c s.1 s.2+_=_; rw [btF_at h1]
    have nn:=bkF_nn c (u::r)
    obtain ⟨k',hk'⟩:=Int.eq_ofNat_of_zero_le nn
    rw [e1,← bkN_I,hk'] at hk
    have ek:k=bkN l+k':=by omega
    have z:=S.le (n+k - 1) s.1 s.2 l (by omega) h1
    have ih:=strk_ring S hs h3 n1 (k:=k') hk'.symm (by omega)
    rw [show n+k - 1+1=n+k by omega,show n+k - bkN l=n+k' by omega,h2] at z
    rw [e2]
    rcases hs with rfl | rfl <;> omega
end K43
namespace K43
open PySem L2
structure StrkE (c:List Bell) (sd:Int) (R:Nat→Nat→Int):Prop where
  at_:∀ N,Strk c sd N R
theorem ge_all {a b C:Int} (h:∀ j:Nat,(j:Int) * a≤(j:Int) * b+C):a≤b:=by
  refine Classical.byContradiction fun no=>?_
  have lt:b+1≤a:=by omega
  have z:=h (C.toNat+1)
  have e:((C.toNat+1:Nat):Int) * (b+1)≤((C.toNat+1:Nat):Int) * a:=Int.mul_le_mul_of_nonneg_left lt (Int.natCast_nonneg _)
  rw [Int.mul_add,Int.mul_one] at e
  omega
theorem round_mean {c:List Bell} {b:Nat} {B:List Nat} {sd mt mb d:Int} {way ring:List (Nat×Nat)} {h:Nat→Int} {R:Nat→Nat→Int} {n0 p:Nat} (S:StrkE c sd R) (fp:FineP c) (hsd:sd=1∨sd=-1) (pi:PaceIs c b B sd mt mb way ring h) (cl:Closed c B) (lt:∀ x∈B,x<c.length)
    (per:∀ x,x<c.length→∀ n,n0≤n→∀ j:Nat,R (n+j * p) x=R n x+j * d):mt * p=d * mb:=by
  match ring,pi with
  | [],pi=>exact absurd rfl pi.rg.ne
  | st::ring',pi =>
  have stB:=pi.rg.mem st List.mem_cons_self
  have stc:=lt _ stB
  obtain ⟨D,hD⟩:∃ D:Int,∀ y∈B,∀ b',c[y]?=some b'→1 * (sd * b'.start * mb - h y)≤D:=by
    obtain ⟨low,hl⟩:=lowR (fun y=>-(1 * (sd * (((c[y]?).map (·.start)).getD 0) * mb - h y))) c.length
    refine ⟨-low,fun y hy b' hb'=>?_⟩
    have z:=hl y (lt y hy)
    rw [hb'] at z
    have z':low≤-(1 * (sd * b'.start * mb - h y)):=z
    omega
  have up:∀ n,1 * (sd * R n st.1 * mb - h st.1 - sd * mt * n)≤D:=fun n=>strk_up (S.at_ n) fp pi.still cl lt (by decide) hD n (Nat.le_refl _) st.1 stB
  have a1:sd * d * mb≤sd * mt * p:=by
    refine ge_all (C:=D+h st.1+sd * mt * n0 - sd * R n0 st.1 * mb) fun j=>?_
    have z:=up (n0+j * p)
    rw [per _ stc n0 (Nat.le_refl _) j] at z
    have e1:sd * (R n0 st.1+(j:Int) * d) * mb=sd * R n0 st.1 * mb+(j:Int) * (sd * d * mb):=by grind
    have e2:sd * mt * ((n0+j * p:Nat):Int)=sd * mt * n0+(j:Int) * (sd * mt * p):=by rw [Int.natCast_add,Int.natCast_mul]; grind
    rw [e1,e2] at z
    omega
  obtain ⟨k,hk⟩:=Int.eq_ofNat_of_zero_le (show 0≤sumG (bkF c) (st::ring') from by have:=pi.backs; omega)
  have k1:1≤k:=by have:=pi.backs; omega
  have ringj:∀ j n:Nat,1≤n→sd * R n st.1+(j:Int) * (sd * sumG (btF c) (st::ring'))≤sd * R (n+j * k) st.1:=by
    intro j
    induction j with
    | zero=>intro n _; rw [Nat.zero_mul,Int.natCast_zero,Int.zero_mul,Int.add_zero]; exact Int.le_refl _
    | succ j ih =>
      intro n n1
      have z1:=ih n n1
      have z2:=strk_ring (S.at_ (n+j * k+k)) hsd (pi.rg.lead st rfl) (n:=n+j * k) (k:=k) (by omega) hk.symm (Nat.le_refl _)
      rw [Nat.succ_mul,← Nat.add_assoc,Int.natCast_add,Int.natCast_one,Int.add_mul,Int.one_mul]
      have e:sd * (R (n+j * k) st.1+sumG (btF c) (st::ring'))=sd * R (n+j * k) st.1+sd * sumG (btF c) (st::ring'):=Int.mul_add ..
      rw [e] at z2
      omega
  have a2:(p:Int) * (sd * sumG (btF c) (st::ring'))≤k * (sd * d):=by
    have z:=ringj p (n0+1) (by omega)
    rw [Nat.mul_comm p k,per _ stc (n0+1) (by omega) k,Int.mul_add] at z
    have e:sd * ((k:Int) * d)=(k:Int) * (sd * d):=by grind
    rw [e] at z
    omega
  have a3:sd * mt * p≤sd * d * mb:=by
    have mean:=pi.mean
    rw [hk] at mean
    refine Int.le_of_mul_le_mul_left (a:=(k:Int)) ?_ (by omega)
    have z:=Int.mul_le_mul_of_nonneg_right a2 (show 0≤mb by have:=pi.mb1; omega)
    have e1:(p:Int) * (sd * sumG (btF c) (st::ring')) * mb=p * (sd * (sumG (btF c) (st::ring') * mb)):=by grind
    have mean':sumG (btF c) (st::ring') * mb=(k:Int) * mt:=mean
    rw [e1,mean'] at z
    have e2:(p:Int) * (sd * ((k:Int) * mt))=(k:Int) * (sd * mt * p):=by grind
    have e3:(k:Int) * (sd * d) * mb=(k:Int) * (sd * d * mb):=by grind
    rw [e2,e3] at z
    exact z
  have eq:sd * (mt * p)=sd * (d * mb):=by
    have e1:sd * mt * p=sd * (mt * p):=by grind
    have e2:sd * d * mb=sd * (d * mb):=by grind
    omega
  rcases hsd with rfl | rfl <;> omega
theorem mean_le {c:List Bell} {b1 b2:Nat} {B1 B2:List Nat} {sd mt1 mb1 mt2 mb2:Int} {w1 r1 w2 r2:List (Nat×Nat)} {h1 h2:Nat→Int} (p1:PaceIs c b1 B1 sd mt1 mb1 w1 r1 h1) (p2:PaceIs c b2 B2 sd mt2 mb2 w2 r2 h2) (sub:∀ x∈B2,x∈B1):sd * (mt2 * mb1)≤sd * (mt1 * mb2):=by
  match r2,p2 with
  | [],p2=>exact absurd rfl p2.rg.ne
  | st::r,p2 =>
  have z:=leads_le (h:=h1) (g:=gnF c sd mt1 mb1) (p2.rg.lead st rfl) fun u hu l hl=>p1.still u.1 (sub _ (p2.rg.mem u hu)) u.2 l hl
  rw [sumG_gn] at z
  have bk:=p2.backs
  have mean:=p2.mean
  have m2:=p2.mb1
  refine Int.le_of_mul_le_mul_left (a:=sumG (bkF c) (st::r)) ?_ (by omega)
  have z':mb2 * (sd * (sumG (btF c) (st::r) * mb1 - sumG (bkF c) (st::r) * mt1))≤mb2 * 0:=Int.mul_le_mul_of_nonneg_left (by omega) (by omega)
  have e1:mb2 * (sd * (sumG (btF c) (st::r) * mb1 - sumG (bkF c) (st::r) * mt1))=sd * mb1 * (sumG (btF c) (st::r) * mb2) - sumG (bkF c) (st::r) * (sd * (mt1 * mb2)):=by grind
  rw [e1,mean] at z'
  have e2:sd * mb1 * (sumG (bkF c) (st::r) * mt2)=sumG (bkF c) (st::r) * (sd * (mt2 * mb1)):=by grind
  rw [e2] at z'
  omega
theorem frac_same {m1 k1 m2 k2:Nat} (e:m2 * k1=m1 * k2) (g1:Nat.gcd m1 k1=1) (g2:Nat.gcd m2 k2=1):m1=m2∧k1=k2:=by
  have d1:k1 ∣ k2:=(Nat.Coprime.dvd_of_dvd_mul_left (k:=k1) (m:=m1) (n:=k2) (Nat.Coprime.symm g1) ⟨m2,by rw [← e,Nat.mul_comm]⟩)
  have d2:k2 ∣ k1:=(Nat.Coprime.dvd_of_dvd_mul_left (k:=k2) (m:=m2) (n:=k1) (Nat.Coprime.symm g2) ⟨m1,by rw [e,Nat.mul_comm]⟩)
  have ek:=Nat.dvd_antisymm d1 d2
  have d3:m1 ∣ m2:=(Nat.Coprime.dvd_of_dvd_mul_right (k:=m1) (n:=k1) (m:=m2) g1 ⟨k2,e⟩)
  have d4:m2 ∣ m1:=(Nat.Coprime.dvd_of_dvd_mul_right (k:=m2) (n:=k2) (m:=m1) g2 ⟨k1,e.symm⟩)
  exact ⟨Nat.dvd_antisymm d3 d4,ek⟩
theorem mean_same {c:List Bell} {b1 b2:Nat} {B1 B2:List Nat} {sd mt1 mb1 mt2 mb2:Int} {w1 r1 w2 r2:List (Nat×Nat)} {h1 h2:Nat→Int} (hsd:sd=1∨sd=-1) (p1:PaceIs c b1 B1 sd mt1 mb1 w1 r1 h1) (p2:PaceIs c b2 B2 sd mt2 mb2 w2 r2 h2) (same:∀ x,x∈B1↔x∈B2):mt1=mt2∧mb1=mb2:=by
  have a:=mean_le p1 p2 fun x hx=>(same x).mpr hx
  have b:=mean_le p2 p1 fun x hx=>(same x).mp hx
  have e:mt2 * mb1=mt1 * mb2:=by rcases hsd with rfl | rfl <;> omega
  obtain ⟨m1,rfl⟩:=Int.eq_ofNat_of_zero_le p1.mt0
  obtain ⟨m2,rfl⟩:=Int.eq_ofNat_of_zero_le p2.mt0
  obtain ⟨k1,rfl⟩:=Int.eq_ofNat_of_zero_le (show 0≤mb1 by have:=p1.mb1; omega)
  obtain ⟨k2,rfl⟩:=Int.eq_ofNat_of_zero_le (show 0≤mb2 by have:=p2.mb1; omega)
  have g1:Nat.gcd m1 k1=1:=p1.low
  have g2:Nat.gcd m2 k2=1:=p2.low
  have e':m2 * k1=m1 * k2:=by exact_mod_cast e
  obtain ⟨x,y⟩:=frac_same e' g1 g2
  rw [x,y]
  exact ⟨rfl,rfl⟩
end K43
namespace K43
open PySem L2
def seqRows (R:Nat→List Int) (N:Nat):List (List (Option Int)):=(List.range (N+1)).map fun n=>(R n).map some
theorem seqRows_at {R:Nat→List Int} {N n:Nat} {row:List (Option Int)} (h:(seqRows R N)[n]?=some row):n≤N∧row=(R n).map some:=by
  unfold seqRows at h
  rw [List.getElem?_map] at h
  by_cases hn:n<N+1
  · rw [List.getElem?_range hn] at h
    exact ⟨by omega,(Option.some.inj h).symm⟩
  · rw [List.getElem?_eq_none (by rw [List.length_range]; omega)] at h
    cases h
theorem seqRows_get {R:Nat→List Int} {N n:Nat} (h:n≤N):(seqRows R N)[n]?=some ((R n).map some):=by
  unfold seqRows
  rw [List.getElem?_map,List.getElem?_range (by omega)]
  rfl
theorem seq_starts {c:List Bell} {R:Nat→List Int} (s:SeqR c R):(R 0).map some=starts c:=by
  rw [s.first,List.map_map]
  rfl
theorem seqRows_rows {c:List Bell} {R:Nat→List Int} (s:SeqR c R) (N:Nat):Rows c (seqRows R N) where
  first:=fun row h=>by
    rw [(seqRows_at h).2]
    exact seq_starts s
  next:=fun n x y hx hy=>by
    rw [(seqRows_at hx).2,(seqRows_at hy).2]
    exact s.next n
def seqI (R:Nat→List Int) (n x:Nat):Int:=((R n)[x]?).getD 0
theorem seqI_at2 {c:List Bell} {R:Nat→List Int} (s:SeqR c R) {N n x:Nat} (hn:n≤N) (hx:x<c.length):at2 (seqRows R N) n x=seqI R n x:=by
  have hl:x<(R n).length:=by rw [s.len]; exact hx
  have e:(R n)[x]?=some (R n)[x]:=List.getElem?_eq_getElem hl
  refine (at2_of (seqRows_get hn) (v:=(R n)[x]) (by rw [List.getElem?_map,e]; rfl)).trans ?_
  unfold seqI
  rw [e]
  rfl
theorem strkE_of {c:List Bell} {sd:Int} {R:Nat→List Int} (g:GoodN c) (s:SeqR c R) (hs:SideIs c sd):StrkE c sd (seqI R):=⟨fun N=>by
  have fi:=g.fine
  have fx:Fix c (starts c) ((R 1).map some):=by
    have:=s.next 0
    rw [seq_starts s] at this
    exact this
  have S:=strk_of (N:=N) fi (seqRows_rows s N) hs fx (goodN_no g fx) (by unfold seqRows; rw [List.length_map,List.length_range])
  have wl:∀ {x p:Nat} {l:Lis},lisAt c x p=some l→x<c.length∧l.whom<c.length:=fun {x p l} h=>by
    obtain ⟨b,hb,hl⟩:=lisAt_bell h
    exact ⟨(List.getElem?_eq_some_iff.mp hb).1,((fi.2 x b hb).2.2.2 l (List.mem_of_getElem? hl)).1⟩
  refine ⟨fun x b hb=>?_,fun n x p l hn hl=>?_,fun n x hn hx=>?_⟩
  · rw [← seqI_at2 s (Nat.zero_le N) (List.getElem?_eq_some_iff.mp hb).1]
    exact S.z x b hb
  · obtain ⟨h1,h2⟩:=wl hl
    rw [← seqI_at2 s (show n+1 - bkN l≤N by omega) h2,← seqI_at2 s (show n+1≤N by omega) h1]
    exact S.le n x p l hn hl
  · obtain ⟨p,l,hl,e⟩:=S.ex n x hn hx
    obtain ⟨h1,h2⟩:=wl hl
    refine ⟨p,l,hl,?_⟩
    rw [← seqI_at2 s (show n+1 - bkN l≤N by omega) h2,← seqI_at2 s (show n+1≤N by omega) h1]
    exact e⟩
theorem seq_per {c:List Bell} {R:Nat→List Int} (hc:Slow c) (s:SeqR c R) {f p:Nat} {d:Int} (h:Sh R f (f+p) d):∀ x,x<c.length→∀ n,f≤n→∀ j:Nat,seqI R (n+j * p) x=seqI R n x+j * d:=fun x hx n hn j=>by
  have far:=Sh.far hc s h (n - f)
  rw [show f+p+(n - f)=(f+(n - f))+p by omega,show f+(n - f)=n by omega] at far
  have t:=Sh.times hc s far j
  unfold Sh at t
  unfold seqI
  rw [t,List.getElem?_map,List.getElem?_eq_getElem (show x<(R n).length by rw [s.len]; exact hx)]
  rfl
theorem goodN_P {c:List Bell} (g:GoodN c):FineP c:=⟨g.c6,fun b hb=>by
  obtain ⟨k,hk⟩:=List.getElem?_of_mem hb
  obtain ⟨h1,h2,_,_,_,h6⟩:=g.b k b hk
  exact ⟨h1,h2,h6⟩⟩
theorem allAll_of {c:List Bell} (h:SortC 0 c):allAll c:=fun b hb=>by
  rcases (h b hb).2.1 rfl with e | e <;> (unfold wants; rw [e])
theorem allOne_of {c:List Bell} (h:SortC 1 c):allOne c:=fun b hb=>by
  rcases (h b hb).2.2 rfl with e | e <;> (unfold wants; rw [e])
theorem side_one {c:List Bell} {x y:Int} (h:SideIs c x) (h':SideIs c y):x=y:=by
  rcases h with ⟨a,e⟩ | ⟨a,_,e⟩ <;> rcases h' with ⟨a',e'⟩ | ⟨a',_,e'⟩
  · rw [e,e']
  · exact absurd a a'
  · exact absurd a' a
  · rw [e,e']
theorem side_01 {c:List Bell} {x:Int} (h:SideIs c x):x=1∨x=-1:=by
  rcases h with ⟨_,e⟩ | ⟨_,_,e⟩
  · exact .inl e
  · exact .inr e
theorem pace_B {c:List Bell} (g:GoodN c) {b:Nat} (hb:b<c.length) {B:List Nat} {sd mt mb:Int} {way ring:List (Nat×Nat)} {h:Nat→Int} (pi:PaceIs c b B sd mt mb way ring h):Closed c B∧∀ x∈B,x<c.length:=by
  refine ⟨fun x hx k hk=>?_,fun x hx=>?_⟩
  · refine (pi.mem k).mpr (.inr ?_)
    rcases (pi.mem x).mp hx with rfl | hx
    · exact .one hk
    · exact .more hx hk
  · rcases (pi.mem x).mp hx with rfl | hx
    · exact hb
    · exact hx.lt (goodN_P g).w
theorem pace_round {c:List Bell} {R:Nat→List Int} (g:GoodN c) (s:SeqR c R) {f p:Nat} {d:Int} (sh:Sh R f (f+p) d) {b:Nat} (hb:b<c.length) {B:List Nat} {sd mt mb:Int} {way ring:List (Nat×Nat)} {h:Nat→Int} (pi:PaceIs c b B sd mt mb way ring h):mt * p=d * mb:=by
  obtain ⟨cl,lt⟩:=pace_B g hb pi
  exact round_mean (strkE_of g s pi.side) (goodN_P g) (side_01 pi.side) pi cl lt (seq_per g.nw.slow s sh)
end K43
namespace L2
open PySem PySem.Spec PyProof.Rows
section
variable {X:Cx}
theorem op_eqTC {K:PySem.W.Frag} (hK:X.K=K) (hu:X.A.units+64<cLine):OpR X (compareOp .Eq) (fun x y H Q=>∃ (p q:Addr) (xs ys:List V) (e:Nat→Bool),x=.ref p∧y=.ref q∧SqT K H p xs∧SqT K H q ys∧(∀ (i:Nat) u v,xs[i]?=some u→ys[i]?=some v→EqH K H 0 u v (e i))∧
    Q (.bl ((List.range (min xs.length ys.length)).all e && xs.length == ys.length)) H):=by
  subst hK
  intro pins s σ H x y v u Q I rx ry h
  obtain ⟨p,q,xs,ys,e,rfl,rfl,ha,hb,he,hq⟩:=h
  cases rx
  cases ry
  obtain ⟨us,r1,p1,_⟩:=I.tuple ha
  obtain ⟨ws,r2,p2,_⟩:=I.tuple hb
  have l1:=r1.length
  have l2:=r2.length
  refine SeqAt.eq_tupleAt (e:=e) (IsTup.tup p1) (IsTup.tup p2) (by omega) (each_at r1 r2 fun i x y u v e1 e2 ru rv=>(he i x y e1 e2).at I (by show X.A.units+1+_<cLine; omega) ru rv) ⟨.bl _,H,I,?_,hq⟩
  show Value.bool _=Value.bool _
  rw [List.size_toArray,List.size_toArray,← l1,← l2]
theorem op_eqLC {K:PySem.W.Frag} (hK:X.K=K) (hu:X.A.units<cLine):OpR X (compareOp .Eq) (rEqL K false):=hK▸op_eqL hu
end
end L2
namespace K43
open PySem L2
section
variable {P:Program} {w:World} {K:PySem.W.Frag} {mg:Str→Option Value} {base:Heap} {f:Addr} {fd:FuncData}
def sp_lwhole:Sp:=fun vs H Q _=>∃ i:Int,vs=[.int i]∧Q (.bl true) H
theorem sc_lwhole:FnScope ["_law_thing"] ["_law_thing"] (defScope s_whole):=⟨rfl,rfl,rfl,by decide +kernel,rfl,by decide +kernel,by decide +kernel⟩
theorem ok_lwhole (F:Fun K "_law_whole" "_law_whole" s_whole f fd) (B:Blt mg):FnOk P w K mg base CX0 1 f fd ["_law_thing"] sp_lwhole:=by
  refine F.ok sc_lwhole (fun vs H Q E h=>?_) (fun cdv A outer s H vs Q E hr h=>?_)
  · obtain ⟨i,rfl,_⟩:=h
    rfl
  obtain ⟨i,rfl,q⟩:=h
  refine ⟨_,(pss_one (ps_ret (pe_and (pe_callB (call_isT "int") rfl B.isinstance_ PyProof.Rows.boot_isinstance (pa_cons (pv 0) (pa_cons (pe_bltn (v:=.ty "int") rfl B.int_ PyProof.Rows.boot_int rfl) pa_nil))) (pe_one (pe_not (pe_callB (call_isT "bool") rfl B.isinstance_ PyProof.Rows.boot_isinstance (pa_cons (pv 0) (pa_cons (pe_bltn (v:=.ty "bool") rfl B.bool_ PyProof.Rows.boot_bool rfl) pa_nil)))))))),?_⟩
  refine ⟨_,rfl,_,_,_,rfl,.int i,kit_ii K,_,rfl,iteT ?_⟩
  refine ⟨_,rfl,_,_,_,rfl,.int i,kit_ib K,_,rfl,?_⟩
  exact q
def sp_mean:Sp:=fun vs H Q _=>∃ (a:Addr) (mt mb d p:Int),vs=[.ref a,.int d,.int p]∧H a=some (.tup [.int mt,.int mb])∧1≤mb∧mb≤6∧0≤mt∧mt≤40000∧mt * p=d * mb∧Q (.bl true) H
theorem sc_mean:FnScope ["_law_told","_law_beats","_law_many","_law_top","_law_bottom"] ["_law_told","_law_beats","_law_many"] (defScope s_mean):=⟨rfl,rfl,rfl,by decide +kernel,rfl,by decide +kernel,by decide +kernel⟩
theorem ok_mean (F:Fun K "_law_mean" "_law_mean" s_mean f fd) (C_whole:Cal P w K mg base 1 "_law_whole" ["_law_thing"] sp_lwhole):FnOk P w K mg base CX0 2 f fd ["_law_told","_law_beats","_law_many"] sp_mean:=by
  refine F.ok sc_mean (fun vs H Q E h=>?_) (fun cdv A outer s H vs Q E hr h=>?_)
  · obtain ⟨a,mt,mb,d,p,rfl,_⟩:=h
    rfl
  obtain ⟨a,mt,mb,d,p,rfl,ha,mb1,mb6,mt0,mt6,e,q⟩:=h
  refine ⟨_,(pss_cons (ps_asg (pv 0) (pg_tup rfl (pgs_cons (pg_name (i:=3) sc_mean.nd rfl (Or.inl rfl)) (pgs_cons (pg_name (i:=4) sc_mean.nd rfl (Or.inl rfl)) pgs_nil))))
    (pss_one (ps_ret (pe_and (pe_fn C_whole hr (by decide) rfl (pa_cons (pv 3) pa_nil)) (pe_and (pe_fn C_whole hr (by decide) rfl (pa_cons (pv 4) pa_nil)) (pe_and (pe_cmpR op_gt (pv 4) pe_int (nomark _)) (pe_one (pe_cmpR op_eq (pe_op op_mul (pv 3) (pv 2)) (pe_op op_mul (pv 1) (pv 4)) (nomark _))))))))),?_⟩
  refine ⟨_,rfl,a,[.int mt,.int mb],rfl,SqT.of ha,rfl,_,_,rfl,_,_,rfl,rfl,?_⟩
  refine ⟨_,rfl,mt,rfl,_,rfl,iteT ?_⟩
  refine ⟨_,rfl,mb,rfl,_,rfl,iteT ?_⟩
  refine ⟨_,rfl,_,_,rfl,rfl,_,rfl,?_⟩
  rw [decide_eq_true (show (0:Int)<mb by omega)]
  refine iteT ?_
  refine ⟨_,rfl,_,rfl,_,_,rfl,rfl,.inl ⟨by omega,by omega⟩,_,rfl,_,rfl,_,_,rfl,rfl,.inr ⟨by omega,by omega⟩,?_⟩
  refine ⟨rfl,?_⟩
  show Q (.bl (decide (V.int (mt * p)=V.int (d * mb)))) H
  rw [e,decide_eq_true rfl]
  exact q
def sp_lowest:Sp:=fun vs H Q _=>∃ (a:Addr) (mt mb:Int),vs=[.ref a]∧H a=some (.tup [.int mt,.int mb])∧0≤mt∧1≤mb∧Int.gcd mt mb=1∧Q (.bl true) H
theorem sc_lowest:FnScope ["_law_told","_law_one","_law_other"] ["_law_told"] (defScope s_lowest):=⟨rfl,rfl,rfl,by decide +kernel,rfl,by decide +kernel,by decide +kernel⟩
theorem ok_lowest (F:Fun K "_law_lowest" "_law_lowest" s_lowest f fd):FnOk P w K mg base CX0 1 f fd ["_law_told"] sp_lowest:=by
  refine F.ok sc_lowest (fun vs H Q E h=>?_) (fun cdv A outer s H vs Q E hr h=>?_)
  · obtain ⟨a,mt,mb,rfl,_⟩:=h
    rfl
  obtain ⟨l0,mt,mb,rfl,ha,mt0,mb1,lo,q⟩:=h
  refine ⟨_,(pss_cons (ps_asg (pv 0) (pg_tup rfl (pgs_cons (pg_name (i:=1) sc_lowest.nd rfl (Or.inl rfl)) (pgs_cons (pg_name (i:=2) sc_lowest.nd rfl (Or.inl rfl)) pgs_nil))))
    (pss_cons (ps_while PassesOwn.never (pt_cmpR op_ne (pv 2) pe_int (nomark _))
    (pss_one (ps_par (i:=1) (j:=2) rfl sc_lowest.nd rfl rfl (by decide) rfl rfl (pa_cons (pv 2) (pa_cons (pe_op op_mod (pv 1) (pv 2)) pa_nil)) (by rfl))))
    (pss_one (ps_ret (pe_cmpR op_eq (pv 1) pe_int (nomark _)))))),?_⟩
  refine ⟨_,rfl,l0,[.int mt,.int mb],rfl,SqT.of ha,rfl,_,_,rfl,_,_,rfl,rfl,?_⟩
  obtain ⟨a,rfl⟩:=Int.eq_ofNat_of_zero_le mt0
  obtain ⟨b,rfl⟩:=Int.eq_ofNat_of_zero_le (show 0≤mb by omega)
  have lo':Nat.gcd a b=1:=lo
  refine ⟨fun m σ H'=>H'=H∧∃ (x y:Nat),σ=[some (.ref l0),some (.int x),some (.int y)]∧y=m∧Nat.gcd x y=Nat.gcd a b,⟨b,rfl,a,b,rfl,rfl,rfl⟩,?_⟩
  rintro m σ H' ⟨rfl,x,y,rfl,rfl,e⟩
  refine ⟨_,rfl,rfl,_,rfl,?_⟩
  refine ite2 (fun c=>⟨_,fun σ' H' h=>h,?_⟩) (fun c=>?_)
  · have hy:y≠0:=fun z=>by
      subst z
      exact absurd c (by decide)
    refine ⟨_,rfl,_,rfl,_,rfl,_,_,rfl,rfl,(show (0:Int)<(y:Int) by omega),_,_,rfl,?_⟩
    refine ⟨x % y,Nat.mod_lt _ (by omega),rfl,y,x % y,?_,rfl,?_⟩
    · rw [← cast_mod]
      rfl
    · rw [step_gcd (by omega)]
      exact e
  · have y0:y=0:=by
      have c':(!decide (V.int (y:Int)=V.int 0))=false:=Bool.eq_false_iff.mpr c
      have c2:decide (V.int (y:Int)=V.int 0)=true:=by simpa using c'
      have c3:V.int (y:Int)=V.int 0:=of_decide_eq_true c2
      injection c3 with c4
      omega
    refine ⟨_,rfl,rfl,?_⟩
    rw [y0,Nat.gcd_zero_right,lo'] at e
    rw [e,decide_eq_true (show V.int ((1:Nat):Int)=V.int 1 from rfl)]
    exact q
end
end K43
namespace K43
open PySem L2
def MeanOf (c:List Bell) (H:Hp) (k:Nat) (v:V):Prop:=∃ (mA:Addr) (B:List Nat) (sd mt mb:Int) (way ring:List (Nat×Nat)) (h:Nat→Int),v=.ref mA∧H mA=some (.tup [.int mt,.int mb])∧PaceIs c k B sd mt mb way ring h
theorem MeanOf.same {c:List Bell} {H H':Hp} {k:Nat} {v:V} (s:Same H H') (h:MeanOf c H k v):MeanOf c H' k v:=by
  obtain ⟨mA,B,sd,mt,mb,way,ring,h,e,h1,h2⟩:=h
  exact ⟨mA,B,sd,mt,mb,way,ring,h,e,s _ _ h1,h2⟩
theorem snoc_at {α:Type} {ys:List α} {v x:α} {n:Nat} (h:(ys++[v])[n]?=some x):(n<ys.length∧ys[n]?=some x)∨(n=ys.length∧x=v):=by
  by_cases hn:n<ys.length
  · rw [List.getElem?_append_left hn] at h
    exact .inl ⟨hn,h⟩
  · have hlt:=(List.getElem?_eq_some_iff.mp h).1
    rw [List.length_append] at hlt
    have hlt':n<ys.length+1:=hlt
    have en:n=ys.length:=by omega
    rw [en,List.getElem?_concat_length] at h
    exact .inr ⟨en,(Option.some.inj h).symm⟩
theorem rep_snoc (n:Nat):List.replicate n (V.bl true)++[V.bl true]=List.replicate (n+1) (V.bl true):=List.replicate_succ'.symm
theorem rep_map (n:Nat):List.replicate n (V.bl true)=(List.replicate n true).map V.bl:=by rw [List.map_replicate]
theorem nV_range (n:Nat):((List.range n).map fun (i:Nat)=>V.int (i:Int))=((List.range n).map fun (i:Nat)=>(i:Int)).map V.int:=by rw [List.map_map]; rfl
theorem nV_ints (R:List Nat):nV R=(R.map fun (i:Nat)=>(i:Int)).map V.int:=by unfold nV; rw [List.map_map]; rfl
theorem cast_inj {x y:List Nat} (h:(x.map fun (i:Nat)=>(i:Int))=y.map fun (i:Nat)=>(i:Int)):x=y:=(List.map_inj_right (fun a b e=>by omega)).mp h
theorem hear_same {c:List Bell} (hears:∀ k,k<c.length→HearsIs c k (List.range c.length)) {k1 k2:Nat} (h1:k1<c.length) (h2:k2<c.length) {B1 B2:List Nat} {s1 s2 mt1 mb1 mt2 mb2:Int} {w1 r1 w2 r2:List (Nat×Nat)} {g1 g2:Nat→Int} (p1:PaceIs c k1 B1 s1 mt1 mb1 w1 r1 g1) (p2:PaceIs c k2 B2 s2 mt2 mb2 w2 r2 g2):mt1=mt2∧mb1=mb2:=by
  have e:=side_one p1.side p2.side
  subst e
  have inB:∀ {k:Nat} {B:List Nat} {mt mb:Int} {w r:List (Nat×Nat)} {g:Nat→Int},k<c.length→PaceIs c k B s1 mt mb w r g→∀ x,x∈B↔x<c.length:=fun {k B mt mb w r g} hk p x=>by
    rw [p.mem x,← (hears k hk).2 x,List.mem_range]
    constructor
    · rintro (rfl | h)
      · exact hk
      · exact h
    · exact .inr
  exact mean_same (side_01 p1.side) p1 p2 fun x=>(inB h1 p1 x).trans (inB h2 p2 x).symm
section
variable {P:Program} {w:World} {K:PySem.W.Frag} {mg:Str→Option Value} {base:Heap} {f:Addr} {fd:FuncData}
def sp_law (K:PySem.W.Frag):Sp:=fun vs H Q _=>∃ (a:Addr) (ns:List Int),vs=[.ref a]∧SqL K H a (ns.map V.int)∧ns.length≤63∧∀ H',Q (.bl true) H'
theorem sc_law:FnScope ["_law_script","_law_pack_here","_law_most","_law_choir_here","_law_means","_law_told"] ["_law_script"] (defScope s_law):=⟨rfl,rfl,rfl,by decide +kernel,rfl,by decide +kernel,by decide +kernel⟩
theorem ok_law {W M:Addr} (F:Fun K "law" "law" s_law f fd) (B:Blt mg) (C_pack:Cal P w K mg base 2 "_law_pack" ["_law_script"] (sp_pack K)) (C_draw:Cal P w K mg base 1 "_law_draw" ["_law_pack_here","_law_many"] (sp_draw K)) (C_going:Cal P w K mg base 4 "_law_going" ["_law_pack_here"] (sp_going K))
    (C_pace:Cal P w K mg base 10 "pace" ["choir","bell"] (fun vs H Q _=>sp_pace W M vs H Q E0)) (C_round:Cal P w K mg base 10 "round_of" ["choir","most"] sp_round) (C_hears:Cal P w K mg base 1 "hears" ["choir","bell"] sp_hears) (C_mean:Cal P w K mg base 2 "_law_mean" ["_law_told","_law_beats","_law_many"] sp_mean) (C_lowest:Cal P w K mg base 1 "_law_lowest" ["_law_told"] sp_lowest):FnOk P w K mg base CX0 11 f fd ["_law_script"] (sp_law K):=by
  refine F.ok sc_law (fun vs H Q E h=>?_) (fun cdv A outer s H vs Q E hr h=>?_)
  · obtain ⟨a,ns,rfl,_⟩:=h
    rfl
  obtain ⟨a,ns,rfl,hS,h63,q⟩:=h
  refine ⟨_,(pss_cons (ps_set (i:=1) sc_law.nd rfl (Or.inl rfl) (pe_fn C_pack hr (by decide) rfl (pa_cons (pv 0) pa_nil)))
    (pss_cons (ps_set (i:=2) sc_law.nd rfl (Or.inl rfl) (pe_op op_add pe_int (pe_fn C_draw hr (by decide) rfl (pa_cons (pv 1) (pa_cons pe_int pa_nil)))))
    (pss_cons (ps_set (i:=3) sc_law.nd rfl (Or.inr rfl) (pe_fn C_going hr (by decide) rfl (pa_cons (pv 1) pa_nil)))
    (pss_cons (ps_set (i:=4) sc_law.nd rfl (Or.inr rfl) (pe_comp ["_law_k"] ["_law_choir_here"] [3] rfl (pi_range1 rfl B.range_ (pa_cons (pe_callB call_len_seq rfl B.len_ PySem.boot_len (pa_cons (pv 3) pa_nil)) pa_nil)) (fun _ _ _ _ _=>(pg_name (i:=0) (show List.Nodup [("_law_k":Str),("_law_choir_here":Str)] by decide +kernel) rfl (Or.inl rfl))) (fun _ _ _ _ _=>pts_nil) (fun _ _ _ _ _=>(pe_ix (ix_tupC (K:=K) rfl) (pe_fn C_pace hr (by decide) rfl (pa_cons (pv 1) (pa_cons (pv 0) pa_nil))) pe_int (fun _ _=>rfl)))))
    (pss_cons (ps_if (pt_not (pt_val (pe_callB (call_all rfl) rfl B.all_ PyProof.Rows.boot_all (pa_cons (pe_comp ["_law_mean_here"] [] [] rfl (pi_list (pv 4)) (fun _ _ _ _ _=>(pg_name (i:=0) (show List.Nodup [("_law_mean_here":Str)] by decide +kernel) rfl (Or.inl rfl))) (fun _ _ _ _ _=>pts_nil) (fun _ _ _ _ _=>(pe_fn C_lowest hr (by decide) rfl (pa_cons (pv 0) pa_nil)))) pa_nil))))
    (pss_one (ps_ret pe_bl))
    pss_nil)
    (pss_cons (ps_set (i:=5) sc_law.nd rfl (Or.inr rfl) (pe_fn C_round hr (by decide) rfl (pa_cons (pv 3) (pa_cons (pv 2) pa_nil))))
    (pss_cons (ps_if (pt_cmpR op_eq (pe_ix ix_tup (pv 5) pe_int (fun _ _=>rfl)) pe_str (nomark _))
    (pss_one (ps_ret (pe_callB (call_all rfl) rfl B.all_ PyProof.Rows.boot_all (pa_cons (pe_comp ["_law_mean_here"] ["_law_told"] [5] rfl (pi_list (pv 4)) (fun _ _ _ _ _=>(pg_name (i:=0) (show List.Nodup [("_law_mean_here":Str),("_law_told":Str)] by decide +kernel) rfl (Or.inl rfl))) (fun _ _ _ _ _=>pts_nil) (fun _ _ _ _ _=>(pe_fn C_mean hr (by decide) rfl (pa_cons (pv 0) (pa_cons (pe_ix (ix_tupC (K:=K) rfl) (pv 1) pe_int (fun _ _=>rfl)) (pa_cons (pe_ix (ix_tupC (K:=K) rfl) (pv 1) pe_int (fun _ _=>rfl)) pa_nil)))))) pa_nil))))
    pss_nil)
    (pss_cons (ps_if (pt_val (pe_callB (call_all rfl) rfl B.all_ PyProof.Rows.boot_all (pa_cons (pe_comp ["_law_k"] ["_law_choir_here"] [3] rfl (pi_range1 rfl B.range_ (pa_cons (pe_callB call_len_seq rfl B.len_ PySem.boot_len (pa_cons (pv 3) pa_nil)) pa_nil)) (fun _ _ _ _ _=>(pg_name (i:=0) (show List.Nodup [("_law_k":Str),("_law_choir_here":Str)] by decide +kernel) rfl (Or.inl rfl))) (fun _ _ _ _ _=>pts_nil) (fun _ _ _ _ _=>(pe_cmpR (op_eqLC (K:=K) rfl hr.units0) (pe_fn C_hears hr (by decide) rfl (pa_cons (pv 1) (pa_cons (pv 0) pa_nil))) (pe_listRange rfl rfl B.list_ rfl B.range_ (pa_cons (pe_callB (call_len_seqC (K:=K) rfl) rfl B.len_ PySem.boot_len (pa_cons (pv 1) pa_nil)) pa_nil)) (nomark _)))) pa_nil)))
    (pss_one (ps_ret (pe_callB (call_all rfl) rfl B.all_ PyProof.Rows.boot_all (pa_cons (pe_comp ["_law_mean_here"] ["_law_means"] [4] rfl (pi_list (pv 4)) (fun _ _ _ _ _=>(pg_name (i:=0) (show List.Nodup [("_law_mean_here":Str),("_law_means":Str)] by decide +kernel) rfl (Or.inl rfl))) (fun _ _ _ _ _=>pts_nil) (fun _ _ _ _ _=>(pe_cmpR (op_eqTC (K:=K) rfl hr.units) (pv 0) (pe_ix (ix_listC (K:=K) rfl) (pv 1) pe_int (fun _ _=>rfl)) (nomark _)))) pa_nil))))
    pss_nil)
    (pss_one (ps_ret pe_bl)))))))))),?_⟩
  refine ⟨_,rfl,a,ns,rfl,hS,fun p H1 hp0 s1 P1=>?_⟩
  refine ⟨_,rfl,a,p,ns,60,rfl,P1,by decide,by decide,fun d1 H2 d10 d11 s2 P2=>?_⟩
  refine ⟨_,_,rfl,rfl,?_⟩
  obtain ⟨m,hm⟩:∃ m:Nat,1+d1=(m:Int):=⟨(1+d1).toNat,by omega⟩
  dsimp only
  rw [hm]
  refine ⟨_,rfl,a,p,ns,rfl,P2,fun ch c H4 s4 P4 hch g ⟨so,so01,sc⟩=>?_⟩
  obtain ⟨R,sq⟩:=seq_exists g.nw
  have c1:=g.c1
  have c6:=g.c6
  have mixed:¬ (¬ allAll c∧¬ allOne c):=fun ⟨x,y⟩=>by
    rcases so01 with rfl | rfl
    · exact x (allAll_of sc)
    · exact y (allOne_of sc)
  obtain ⟨ca,cv,rfl,hca,prc⟩:=id hch
  have lcv:=paired_len prc
  refine ⟨_,rfl,ca,_,rfl,.inr (SqT.of hca),_,rfl,(by rw [lcv]; omega),(by rw [lcv]; omega),fun D hD=>?_⟩
  rw [lcv,Int.toNat_natCast]
  refine comp_range (lo:=0) (n:=c.length) (fun j ys H5=>Same H4 H5∧ys.length=j∧∀ (k:Nat) v,ys[k]?=some v→MeanOf c H5 k v) ⟨same_new hD _,rfl,fun k v hv=>by cases hv⟩ ?_ ?_
  · rintro j ys H5 hj ⟨s5,hyl,hys⟩ hD5
    rw [Int.zero_add]
    refine ⟨rfl,tTrue_ite ?_⟩
    refine ⟨_,rfl,_,rfl,.ref ca,c,j,rfl,hch.mono (Same.tup s5),g.fine,goodN_P g,hj,fun H' now l dx _ fx hne _ _ _=>absurd (goodN_no g fx) hne,fun H' now _ _ _ x y=>absurd ⟨x,y⟩ mixed,?_⟩
    intro H6 now T mA wA rA nA Bs sd mt mb way ring h s6 fx _ T0 _ _ _ hT hmA _ _ _ pi
    refine ⟨T,_,_,_,rfl,rfl,SqT.of hT,rfl,_,s6 _ _ hD5,by rw [hyl]; exact small1000 (by omega),_,⟨?_,by rw [List.length_append,hyl]; rfl,fun k v hv=>?_⟩,upd_same⟩
    · exact (s5.trans s6).upd hD _
    · have nD:∀ {x:Addr} {o:HO},H6 x=some o→(∀ z,o≠.lst z)→x≠D:=fun {x o} hx no e=>by
        rw [e,s6 _ _ hD5] at hx
        exact no _ (Option.some.inj hx).symm
      rcases snoc_at hv with ⟨_,hv⟩ | ⟨rfl,rfl⟩
      · obtain ⟨mA',B',sd',mt',mb',w',r',h',e,h1,h2⟩:=hys k v hv
        exact ⟨mA',B',sd',mt',mb',w',r',h',e,by rw [upd_ne (nD (s6 _ _ h1) (fun z e=>by cases e))]; exact s6 _ _ h1,h2⟩
      · rw [hyl]
        exact ⟨mA,Bs,sd,mt,mb,way,ring,h,rfl,by rw [upd_ne (nD hmA (fun z e=>by cases e))]; exact hmA,pi⟩
  rintro ys H5 ⟨s5,hyl,hys⟩ hD5
  clear hD
  refine ⟨_,rfl,D,rfl,⟨_,SqL.of hD5⟩,fun D2 hD2=>?_⟩
  refine comp_list (K:=K) (a:=D) (xs:=ys) (fun j zs H6=>Same H5 H6∧zs=List.replicate j (V.bl true)) ⟨same_new hD2 _,rfl⟩ (fun j zs H6 _ ⟨z,_⟩=>SqL.of (z _ _ hD5)) ?_ ?_
  · rintro j y zs H6 hj ⟨s6,rfl⟩ hD6
    obtain ⟨mA,Bs,sd,mt,mb,way,ring,h,rfl,hmA,pi⟩:=hys j y hj
    have jl:j<ys.length:=(List.getElem?_eq_some_iff.mp hj).1
    refine ⟨rfl,tTrue_ite ?_⟩
    refine ⟨_,rfl,mA,mt,mb,rfl,s6 _ _ hmA,pi.mt0,pi.mb1,pi.low,_,hD6,by rw [List.length_replicate]; exact small1000 (by omega),_,⟨s6.upd hD2 _,rfl⟩,?_⟩
    rw [rep_snoc]
    exact upd_same
  rintro zs H6 ⟨s6,rfl⟩ hD6
  clear hD2
  rw [rep_map] at hD6
  refine ⟨D2,_,rfl,SqL.of hD6,_,rfl,?_⟩
  rw [rep_all]
  refine iteF ?_
  have hD_6:=s6 _ _ hD5
  have hys6:∀ (k:Nat) v,ys[k]?=some v→MeanOf c H6 k v:=fun k v hv=>(hys k v hv).same s6
  have s46:=s5.trans s6
  have hch6:=hch.mono (Same.tup s46)
  refine ⟨_,rfl,_,rfl,.ref ca,c,m,R,rfl,hch6,g,by omega,sq,fun H7 x o s7 hx0 ro hx=>?_⟩
  have hD7:=s7 _ _ hD_6
  have hys7:∀ (k:Nat) v,ys[k]?=some v→MeanOf c H7 k v:=fun k v hv=>(hys6 k v hv).same s7
  refine ⟨_,rfl,x,_,_,_,rfl,rfl,SqT.of hx,word_at o,rfl,_,rfl,?_⟩
  cases o with
  | some z =>
    obtain ⟨fi,pp,d⟩:=z
    refine iteT ?_
    obtain ⟨p1,fp,sh,no1,no2⟩:=id ro
    refine ⟨_,rfl,D,rfl,⟨_,SqL.of hD7⟩,fun D3 hD3=>?_⟩
    refine comp_list (K:=K) (a:=D) (xs:=ys) (fun j zs H8=>Same H7 H8∧zs=List.replicate j (V.bl true)) ⟨same_new hD3 _,rfl⟩ (fun j zs H8 _ ⟨z,_⟩=>SqL.of (z _ _ hD7)) ?_ ?_
    · rintro j y zs H8 hj ⟨s8,rfl⟩ hD8
      obtain ⟨mA,Bs,sd,mt,mb,way,ring,h,rfl,hmA,pi⟩:=hys7 j y hj
      have jl:j<ys.length:=(List.getElem?_eq_some_iff.mp hj).1
      refine ⟨rfl,tTrue_ite ?_⟩
      refine ⟨_,rfl,_,rfl,x,_,_,_,rfl,rfl,SqT.of (s8 _ _ hx),rfl,_,rfl,x,_,_,_,rfl,rfl,SqT.of (s8 _ _ hx),rfl,mA,mt,mb,d,(pp:Int),rfl,s8 _ _ hmA,pi.mb1,pi.mb6,pi.mt0,pi.mt6,pace_round g sq sh (by omega) pi,_,hD8,by rw [List.length_replicate]; exact small1000 (by omega),_,⟨s8.upd hD3 _,rfl⟩,?_⟩
      rw [rep_snoc]
      exact upd_same
    rintro zs H8 ⟨s8,rfl⟩ hD8
    rw [rep_map] at hD8
    refine ⟨D3,_,rfl,SqL.of hD8,?_⟩
    rw [rep_all]
    exact q _
  | none =>
    refine iteF ?_
    refine ⟨_,rfl,ca,_,rfl,.inr (SqT.of (s7 _ _ (s46 _ _ hca))),_,rfl,(by rw [lcv]; omega),(by rw [lcv]; omega),fun D3 hD3=>?_⟩
    rw [lcv,Int.toNat_natCast]
    refine comp_range (lo:=0) (n:=c.length) (fun j zs H8=>Same H7 H8∧∃ bs:List Bool,zs=bs.map V.bl∧bs.length=j∧∀ (k:Nat),bs[k]?=some true→HearsIs c k (List.range c.length)) ⟨same_new hD3 _,[],rfl,rfl,fun k hk=>by cases hk⟩ ?_ ?_
    · rintro j zs H8 hj ⟨s8,bs,rfl,hbl,hbs⟩ hD8
      rw [Int.zero_add]
      refine ⟨rfl,tTrue_ite ?_⟩
      have hch8:=hch6.mono (Same.tup (s7.trans s8))
      refine ⟨_,rfl,_,rfl,.ref ca,c,j,rfl,hch8,(goodN_P g).w,hj,fun H9 l Rh s9 l0 hl hh=>?_⟩
      refine ⟨_,rfl,ca,_,rfl,.inr (SqT.of (s9 _ _ (s8 _ _ (s7 _ _ (s46 _ _ hca))))),c.length,(by rw [lcv]),by omega,fun L hL=>?_⟩
      have s10:=same_new hL (.lst ((List.range c.length).map fun (i:Nat)=>V.int (i:Int)))
      have hL10:=upd_same (H:=H9) (a:=L) (o:=.lst ((List.range c.length).map fun (i:Nat)=>V.int (i:Int)))
      generalize upd H9 L (.lst ((List.range c.length).map fun (i:Nat)=>V.int (i:Int)))=H10 at s10 hL10 ⊢
      have hl10:=s10 _ _ hl
      rw [nV_range] at hL10
      rw [nV_ints] at hl10
      refine ⟨l,L,_,_,rfl,rfl,SqL.of hl10,SqL.of hL10,ints_flat _,ints_flat _,?_⟩
      rw [if_neg (by decide),eqL_ints]
      refine ⟨_,s10 _ _ (s9 _ _ hD8),by rw [List.length_map,hbl]; exact small1000 (by omega),_,⟨(s8.trans (s9.trans s10)).upd hD3 _,bs++[decide ((Rh.map fun (i:Nat)=>(i:Int))=(List.range c.length).map fun (i:Nat)=>(i:Int))],rfl,by rw [List.length_append,hbl]; rfl,fun k hk=>?_⟩,?_⟩
      · rcases snoc_at hk with ⟨_,hk⟩ | ⟨rfl,e⟩
        · exact hbs k hk
        · have:=cast_inj (of_decide_eq_true e.symm)
          rw [← this,hbl]
          exact hh
      · rw [List.map_append]
        exact upd_same
    rintro zs H8 ⟨s8,bs,rfl,hbl,hbs⟩ hD8
    refine ⟨D3,_,rfl,SqL.of hD8,_,rfl,?_⟩
    refine ite2 (fun z=>?_) (fun _=>q _)
    have hall:∀ k,k<c.length→HearsIs c k (List.range c.length):=fun k hk=>by
      have e:=List.getElem?_eq_getElem (show k<bs.length by omega)
      have t:=List.all_eq_true.mp z _ (List.mem_of_getElem? e)
      refine hbs k ?_
      rw [e]
      exact congrArg some t
    have hD_8:=s8 _ _ hD7
    have hys8:∀ (k:Nat) v,ys[k]?=some v→MeanOf c H8 k v:=fun k v hv=>(hys7 k v hv).same s8
    have e0:=List.getElem?_eq_getElem (show 0<ys.length by omega)
    obtain ⟨m0,B0,sd0,mt0,mb0,way0,ring0,h0,ev0,hm0,pi0⟩:=hys8 0 _ e0
    rw [ev0] at e0
    refine ⟨_,rfl,D,rfl,⟨_,SqL.of hD_8⟩,fun D4 hD4=>?_⟩
    refine comp_list (K:=K) (a:=D) (xs:=ys) (fun j zs H9=>Same H8 H9∧zs=List.replicate j (V.bl true)) ⟨same_new hD4 _,rfl⟩ (fun j zs H9 _ ⟨z,_⟩=>SqL.of (z _ _ hD_8)) ?_ ?_
    · rintro j y zs H9 hj ⟨s9,rfl⟩ hD9
      obtain ⟨mA,Bs,sd,mt,mb,way,ring,h,rfl,hmA,pi⟩:=hys8 j y hj
      have jl:j<ys.length:=(List.getElem?_eq_some_iff.mp hj).1
      obtain ⟨rfl,rfl⟩:=hear_same hall (show j<c.length by omega) (show 0<c.length by omega) pi pi0
      refine ⟨rfl,tTrue_ite ?_⟩
      refine ⟨_,rfl,_,rfl,D,_,_,_,rfl,rfl,SqL.of (s9 _ _ hD_8),atI_nat (j:=0) e0,mA,m0,_,_,(fun _=>true),rfl,rfl,SqT.of (s9 _ _ hmA),SqT.of (s9 _ _ hm0),fun i u v eu ev=>?_,?_⟩
      · rw [eu] at ev
        cases ev
        have hi:∀ z:Int,eqV (.int z) (.int z)=true:=fun z=>beq_self_eq_true z
        have eu':u=.int mt∨u=.int mb:=by
          have:=List.mem_of_getElem? eu
          simpa using this
        rcases eu' with rfl | rfl
        · have:=EqH.flat (K:=K) (H:=H9) (n:=0) (x:=.int mt) (y:=.int mt) rfl rfl
          rw [hi] at this
          exact this
        · have:=EqH.flat (K:=K) (H:=H9) (n:=0) (x:=.int mb) (y:=.int mb) rfl rfl
          rw [hi] at this
          exact this
      · refine ⟨_,hD9,by rw [List.length_replicate]; exact small1000 (by omega),_,⟨s9.upd hD4 _,rfl⟩,?_⟩
        show (upd H9 D4 (.lst (List.replicate j (V.bl true)++[V.bl true]))) D4=_
        rw [rep_snoc]
        exact upd_same
    rintro zs H9 ⟨s9,rfl⟩ hD9
    rw [rep_map] at hD9
    refine ⟨D4,_,rfl,SqL.of hD9,?_⟩
    rw [rep_all]
    exact q _
end
end K43
namespace K43
open PySem L2
theorem excC_mk {K:PySem.W.Frag} {C:Addr} (h:PySem.W.excIn K C [.type "ValueError",.type "Exception",.type "BaseException",.type "object"] "ValueError.__new__"=true):ExcC K C:=h
theorem len5 {α:Type}:∀ {us:List α},us.length=5→∃ a b c d e,us=[a,b,c,d,e]
  | [a,b,c,d,e],_=>⟨a,b,c,d,e,rfl⟩
theorem mkx_mk {K:PySem.W.Frag} {C f:Addr} (i:PySem.W.findIn K (.ref C) "__init__"=some (some (.ref f))) (ex:excInF K C f=true) (fn:PySem.W.isFn K (.ref f)=true) (kp:PySem.W.keepIn K (.ref C)=true):MkX K C f:=⟨ex,fn,kp⟩
theorem xset_mk {K:PySem.W.Frag} {C:Addr} {y:Str} (sa:PySem.W.findIn K (.ref C) "__setattr__"=some (some (.builtin "object.__setattr__"))) (po:overX K C=true) (tk:PySem.W.takerIn K C y=some none) (hd:PySem.W.hasDictIn K C=true):XSet K C y:=⟨sa,po,tk,hd⟩
theorem own_mk {K:PySem.W.Frag} {C fi ff fw:Addr} (i:PySem.W.findIn K (.ref C) "__init__"=some (some (.ref fi))) (fl:PySem.W.findIn K (.ref C) "falls"=some (some (.ref ff))) (wl:PySem.W.findIn K (.ref C) "wants"=some (some (.ref fw))) (pg:PySem.W.plainGet K C Str.empty=true) (hd:PySem.W.hasDictIn K C=true) (po:PySem.W.plainOver K C=true)
    (sa:PySem.W.findIn K (.ref C) "__setattr__"=some (some (.builtin "object.__setattr__"))) (n:PySem.W.findIn K (.ref C) "need"=some none) (mk:PySem.W.makesIn K C=true) (fn:PySem.W.isFn K (.ref fi)=true) (kc:PySem.W.keepIn K (.ref C)=true)
    (ffn:PySem.W.isFn K (.ref ff)=true) (fk:PySem.W.keepIn K (.ref ff)=true) (wfn:PySem.W.isFn K (.ref fw)=true) (wk:PySem.W.keepIn K (.ref fw)=true):Own K C fi ff fw:=⟨⟨pg,hd,po,sa⟩,n,⟨mk,i,fn,kc⟩,⟨fl,ffn,fk⟩,⟨wl,wfn,wk⟩⟩
theorem clsfn_mk {K:PySem.W.Frag} {C g:Addr} {m:Str} (a:PySem.W.findCls K (.ref C) (.type "type") m=some (.val (.ref g))) (rd:PySem.W.readsIn K C (.type "type")=true)
    (sp:PySem.W.specialIn K (.ref C) "__getattribute__"=some (some (.builtin "type.__getattribute__"))) (kp:PySem.W.keepIn K (.ref g)=true):ClsFn K C m g:=⟨rd,a,sp,kp⟩
theorem all {P:Program} {w:World} {K:PySem.W.Frag} {h:Heap} {mg:Str→Option Value} {fa R A Y S fR fA fY fS ff fw gW W M:Addr} (X:K.In h) (G:h.Ns mainGlobals mg) (hfa:mg "law"=some (.ref fa)) (B:Blt mg) (aW:PySem.W.nsIn K mainGlobals "Waiting"=some (some (.ref W))) (aM:PySem.W.nsIn K mainGlobals "Mixed"=some (some (.ref M)))
    (MW:MkX K W gW) (xsW:XSet K W "names") (FIW:∃ fd,Fun K "__init__" "Waiting.__init__" s_winit gW fd)
    (xM:ExcC K M)
    (aR:PySem.W.nsIn K mainGlobals "Rule"=some (some (.ref R))) (aA:PySem.W.nsIn K mainGlobals "All"=some (some (.ref A))) (aY:PySem.W.nsIn K mainGlobals "Any"=some (some (.ref Y))) (aS:PySem.W.nsIn K mainGlobals "Some"=some (some (.ref S)))
    (cR:ClsFn K R "__init__" fR) (oA:Own K A fA ff fw) (oY:Own K Y fY ff fw) (oS:Own K S fS ff fw)
    (FR:∃ fd,Fun K "__init__" "Rule.__init__" s_Rinit fR fd) (FA:∃ fd,Fun K "__init__" "All.__init__" s_Ainit fA fd) (FY:∃ fd,Fun K "__init__" "Any.__init__" s_Yinit fY fd) (FS:∃ fd,Fun K "__init__" "Some.__init__" s_Sinit fS fd) (FF:∃ fd,Fun K "falls" "Rule.falls" s_falls ff fd) (FW:∃ fd,Fun K "wants" "Rule.wants" s_Rwants fw fd)
    (F_is_whole:FunAt K "is_whole" s_is_whole) (F_rule_of_text:FunAt K "rule_of_text" s_text) (F_rule_of:FunAt K "rule_of" s_rule_of) (F_rule_of_bell:FunAt K "rule_of_bell" s_rule_of_bell) (F_listening_comes:FunAt K "listening_comes" s_comes) (F_next_found:FunAt K "next_found" s_found) (F_strokes_behind:FunAt K "strokes_behind" s_behind) (F_strokes:FunAt K "strokes" s_strokes) (F_waiting:FunAt K "waiting" s_waiting) (F_refuse_waiting:FunAt K "refuse_waiting" s_refuse_waiting) (F_side_of:FunAt K "side_of" s_side_of) (F_hears:FunAt K "hears" s_hears) (F_greatest_common:FunAt K "greatest_common" s_greatest_common) (F_fraction:FunAt K "fraction" s_fraction) (F_mean_that_all_beat:FunAt K "mean_that_all_beat" s_mean_that_all_beat) (F_gain:FunAt K "gain" s_gain) (F_lift_once:FunAt K "lift_once" s_lift_once) (F_ring_from:FunAt K "ring_from" s_ring_from) (F_settled:FunAt K "settled" s_settled) (F_mean_of:FunAt K "mean_of" s_mean_of) (F_way_to:FunAt K "way_to" s_way_to) (F_pace:FunAt K "pace" s_pace) (F_round_of:FunAt K "round_of" s_round_of) (F__law_nth:FunAt K "_law_nth" s_nth) (F__law_whole:FunAt K "_law_whole" s_whole) (F__law_pack:FunAt K "_law_pack" s_pack) (F__law_next:FunAt K "_law_next" s_next) (F__law_draw:FunAt K "_law_draw" s_draw) (F__law_name:FunAt K "_law_name" s_name) (F__law_listening:FunAt K "_law_listening" s_listening) (F__law_rule:FunAt K "_law_rule" s_rule) (F__law_choir:FunAt K "_law_choir" s_choir) (F__law_about:FunAt K "_law_about" s_about) (F__law_turned:FunAt K "_law_turned" s_turned) (F__law_going:FunAt K "_law_going" s_going) (F__law_mean:FunAt K "_law_mean" s_mean) (F__law_lowest:FunAt K "_law_lowest" s_lowest) (F_law:FunAt K "law" s_law) :
    ∃ fd:FuncData,(∀ (s:Shared) (u:Value),BindsTo s fd ⟨[u],[]⟩ [("_law_script",u)])∧∀ base:Heap,K.In base→base.Ns mainGlobals mg→FnOk P w K mg base CX0 11 fa fd ["_law_script"] (sp_law K):=by
  refine F_law.law X G hfa (fun _ _ _ _ _ _ _=>rfl) fun base _ _ f fd F=>?_
  obtain ⟨dIW,FIW⟩:=FIW
  have GWI:FnOk P w K mg base CX0 1 gW dIW ["self","names"] (sp_winit W):=ok_winit FIW B xsW
  have bWI:Binds K dIW ["self","names"] []:=FIW.binds (ps:=["self","names"]) fun _ _ _ _ _ _ us hl=>by obtain ⟨a,b,rfl⟩:=len2 hl; rfl
  obtain ⟨dR,FR⟩:=FR; obtain ⟨dA,FA⟩:=FA; obtain ⟨dY,FY⟩:=FY; obtain ⟨dS,FS⟩:=FS; obtain ⟨df,FF⟩:=FF; obtain ⟨dw,FW⟩:=FW
  have mR:=PySem.W.mg_of X G aR
  have GR:FnOk P w K mg base CX0 1 fR dR ["self","need"] (sp_init K):=ok_Rinit FR
  have bR:Binds K dR ["self","need"] []:=FR.binds (ps:=["self","need"]) fun _ _ _ _ _ _ us hl=>by obtain ⟨a,b,rfl⟩:=len2 hl; rfl
  have GA:FnOk P w K mg base CX0 2 fA dA ["self","many"] (sp_init K):=ok_Ainit FA mR cR GR bR
  have bA:Binds K dA ["self","many"] []:=FA.binds (ps:=["self","many"]) fun _ _ _ _ _ _ us hl=>by obtain ⟨a,b,rfl⟩:=len2 hl; rfl
  have GY:FnOk P w K mg base CX0 2 fY dY ["self"] (sp_init1 K):=ok_Yinit FY mR cR GR bR
  have bY:Binds K dY ["self"] []:=FY.binds (ps:=["self"]) fun _ _ _ _ _ _ us hl=>by obtain ⟨a,rfl⟩:=len1 hl; rfl
  have GS:FnOk P w K mg base CX0 2 fS dS ["self","need"] (sp_init K):=ok_Sinit FS mR cR GR bR
  have bS:Binds K dS ["self","need"] []:=FS.binds (ps:=["self","need"]) fun _ _ _ _ _ _ us hl=>by obtain ⟨a,b,rfl⟩:=len2 hl; rfl
  have GF:FnOk P w K mg base CX0 1 ff df ["self","beats"] (sp_falls K):=ok_falls FF B
  have bF:Binds K df ["self","beats"] []:=FF.binds (ps:=["self","beats"]) fun _ _ _ _ _ _ us hl=>by obtain ⟨a,b,rfl⟩:=len2 hl; rfl
  have GW:FnOk P w K mg base CX0 1 fw dw ["self"] (sp_rwants K):=ok_rwants FW
  have bW:Binds K dw ["self"] []:=FW.binds (ps:=["self"]) fun _ _ _ _ _ _ us hl=>by obtain ⟨a,rfl⟩:=len1 hl; rfl
  have C_is_whole:Cal P w K mg base 1 "is_whole" ["thing"] sp_whole:=F_is_whole.cal X G (fun _ _ _ _ _ _ us hl=>by obtain ⟨a,rfl⟩:=len1 hl; rfl) fun f fd F=>ok_is_whole F B
  have C_rule_of_text:Cal P w K mg base 4 "rule_of_text" ["text","many"] (sp_text K ff fw):=F_rule_of_text.cal X G (fun _ _ _ _ _ _ us hl=>by obtain ⟨a,b,rfl⟩:=len2 hl; rfl) fun f fd F=>ok_text F (PySem.W.mg_of X G aA) (PySem.W.mg_of X G aY) oA oY GA bA GY bY
  have C_rule_of:Cal P w K mg base 5 "rule_of" ["word","many"] (sp_rule K ff fw):=F_rule_of.cal X G (fun _ _ _ _ _ _ us hl=>by obtain ⟨a,b,rfl⟩:=len2 hl; rfl) fun f fd F=>ok_rule_of F B (PySem.W.mg_of X G aS) oS GS bS C_rule_of_text C_is_whole
  have C_rule_of_bell:Cal P w K mg base 6 "rule_of_bell" ["bell"] (sp_bellrule K ff fw):=F_rule_of_bell.cal X G (fun _ _ _ _ _ _ us hl=>by obtain ⟨a,rfl⟩:=len1 hl; rfl) fun f fd F=>ok_rule_of_bell F B C_rule_of
  have C_listening_comes:Cal P w K mg base 1 "listening_comes" ["listening","before","now"] sp_comes:=F_listening_comes.cal X G (fun _ _ _ _ _ _ us hl=>by obtain ⟨a,b,c,rfl⟩:=len3 hl; rfl) fun f fd F=>ok_comes F
  have C_next_found:Cal P w K mg base 2 "next_found" ["choir","rules","before","now"] (sp_found K ff fw):=F_next_found.cal X G (fun _ _ _ _ _ _ us hl=>by obtain ⟨a,b,c,d,rfl⟩:=len4 hl; rfl) fun f fd F=>ok_found F B C_listening_comes GF bF
  have C_strokes_behind:Cal P w K mg base 3 "strokes_behind" ["choir","rules","before"] (sp_behind K ff fw):=F_strokes_behind.cal X G (fun _ _ _ _ _ _ us hl=>by obtain ⟨a,b,c,rfl⟩:=len3 hl; rfl) fun f fd F=>ok_behind F C_next_found
  have C_strokes:Cal P w K mg base 7 "strokes" ["choir","many"] sp_strokes:=F_strokes.cal X G (fun _ _ _ _ _ _ us hl=>by obtain ⟨a,b,rfl⟩:=len2 hl; rfl) fun f fd F=>ok_strokes F B C_rule_of_bell C_strokes_behind
  have C_waiting:Cal P w K mg base 8 "waiting" ["choir"] sp_waiting:=F_waiting.cal X G (fun _ _ _ _ _ _ us hl=>by obtain ⟨a,rfl⟩:=len1 hl; rfl) fun f fd F=>ok_waiting F B C_strokes
  have C_refuse_waiting:CalX P w K mg base 9 "refuse_waiting" ["choir"] (sp_refuse W):=F_refuse_waiting.calX X G (fun _ _ _ _ _ _ us hl=>by obtain ⟨a,rfl⟩:=len1 hl; rfl) fun f fd F=>ok_refuse F B (PySem.W.mg_of X G aW) MW GWI bWI C_waiting
  have C_side_of:CalX P w K mg base 7 "side_of" ["choir"] (sp_side M):=F_side_of.calX X G (fun _ _ _ _ _ _ us hl=>by obtain ⟨a,rfl⟩:=len1 hl; rfl) fun f fd F=>ok_side F B (PySem.W.mg_of X G aM) xM GW bW C_rule_of_bell
  have C_hears:Cal P w K mg base 1 "hears" ["choir","bell"] sp_hears:=F_hears.cal X G (fun _ _ _ _ _ _ us hl=>by obtain ⟨a,b,rfl⟩:=len2 hl; rfl) fun f fd F=>ok_hears F B
  have C_greatest_common:Cal P w K mg base 1 "greatest_common" ["one","other"] sp_gcd:=F_greatest_common.cal X G (fun _ _ _ _ _ _ us hl=>by obtain ⟨a,b,rfl⟩:=len2 hl; rfl) fun f fd F=>ok_gcd F
  have C_fraction:Cal P w K mg base 2 "fraction" ["top","bottom"] sp_fraction:=F_fraction.cal X G (fun _ _ _ _ _ _ us hl=>by obtain ⟨a,b,rfl⟩:=len2 hl; rfl) fun f fd F=>ok_fraction F B C_greatest_common
  have C_mean_that_all_beat:Cal P w K mg base 1 "mean_that_all_beat" ["choir","side"] sp_meanall:=F_mean_that_all_beat.cal X G (fun _ _ _ _ _ _ us hl=>by obtain ⟨a,b,rfl⟩:=len2 hl; rfl) fun f fd F=>ok_meanall F B
  have C_gain:Cal P w K mg base 1 "gain" ["listening","mean","side"] sp_gain:=F_gain.cal X G (fun _ _ _ _ _ _ us hl=>by obtain ⟨a,b,c,rfl⟩:=len3 hl; rfl) fun f fd F=>ok_gain F
  have C_lift_once:Cal P w K mg base 1 "lift_once" ["choir","bells","gains","heights","places"] sp_lift:=F_lift_once.cal X G (fun _ _ _ _ _ _ us hl=>by obtain ⟨a,b,c,d,e,rfl⟩:=len5 hl; rfl) fun f fd F=>ok_lift F B
  have C_ring_from:Cal P w K mg base 1 "ring_from" ["choir","places","bell"] sp_ringfrom:=F_ring_from.cal X G (fun _ _ _ _ _ _ us hl=>by obtain ⟨a,b,c,rfl⟩:=len3 hl; rfl) fun f fd F=>ok_ringfrom F
  have C_settled:Cal P w K mg base 2 "settled" ["choir","bells","mean","side"] sp_settled:=F_settled.cal X G (fun _ _ _ _ _ _ us hl=>by obtain ⟨a,b,c,d,rfl⟩:=len4 hl; rfl) fun f fd F=>ok_settled F B C_gain C_lift_once C_ring_from
  have C_mean_of:Cal P w K mg base 3 "mean_of" ["choir","ring"] sp_meanof:=F_mean_of.cal X G (fun _ _ _ _ _ _ us hl=>by obtain ⟨a,b,rfl⟩:=len2 hl; rfl) fun f fd F=>ok_meanof F B C_fraction
  have C_way_to:Cal P w K mg base 1 "way_to" ["choir","bell","goal"] sp_wayto:=F_way_to.cal X G (fun _ _ _ _ _ _ us hl=>by obtain ⟨a,b,c,rfl⟩:=len3 hl; rfl) fun f fd F=>ok_wayto F B
  have C_pace:CalX P w K mg base 10 "pace" ["choir","bell"] (sp_pace W M):=F_pace.calX X G (fun _ _ _ _ _ _ us hl=>by obtain ⟨a,b,rfl⟩:=len2 hl; rfl) fun f fd F=>ok_pace F B C_refuse_waiting C_side_of C_hears C_mean_that_all_beat C_settled C_mean_of C_fraction C_way_to
  have C_round_of:Cal P w K mg base 10 "round_of" ["choir","most"] sp_round:=F_round_of.cal X G (fun _ _ _ _ _ _ us hl=>by obtain ⟨a,b,rfl⟩:=len2 hl; rfl) fun f fd F=>ok_round F B (cal_refuseN C_refuse_waiting) C_strokes
  have C__law_nth:Cal P w K mg base 1 "_law_nth" ["_law_script","_law_k"] (sp_nth K):=F__law_nth.cal X G (fun _ _ _ _ _ _ us hl=>by obtain ⟨a,b,rfl⟩:=len2 hl; rfl) fun f fd F=>ok_nth F B
  have C__law_whole:Cal P w K mg base 1 "_law_whole" ["_law_thing"] sp_lwhole:=F__law_whole.cal X G (fun _ _ _ _ _ _ us hl=>by obtain ⟨a,rfl⟩:=len1 hl; rfl) fun f fd F=>ok_lwhole F B
  have C__law_pack:Cal P w K mg base 2 "_law_pack" ["_law_script"] (sp_pack K):=F__law_pack.cal X G (fun _ _ _ _ _ _ us hl=>by obtain ⟨a,rfl⟩:=len1 hl; rfl) fun f fd F=>ok_pack F C__law_nth
  have C__law_next:Cal P w K mg base 2 "_law_next" ["_law_pack_here"] (sp_next K):=F__law_next.cal X G (fun _ _ _ _ _ _ us hl=>by obtain ⟨a,rfl⟩:=len1 hl; rfl) fun f fd F=>ok_next F C__law_nth
  have C__law_draw:Cal P w K mg base 1 "_law_draw" ["_law_pack_here","_law_many"] (sp_draw K):=F__law_draw.cal X G (fun _ _ _ _ _ _ us hl=>by obtain ⟨a,b,rfl⟩:=len2 hl; rfl) fun f fd F=>ok_draw F B
  have C__law_name:Cal P w K mg base 2 "_law_name" ["_law_pack_here","_law_seen"] (sp_name K):=F__law_name.cal X G (fun _ _ _ _ _ _ us hl=>by obtain ⟨a,b,rfl⟩:=len2 hl; rfl) fun f fd F=>ok_name F B C__law_draw
  have C__law_listening:Cal P w K mg base 2 "_law_listening" ["_law_pack_here","_law_k","_law_many","_law_waits"] (sp_listening K):=F__law_listening.cal X G (fun _ _ _ _ _ _ us hl=>by obtain ⟨a,b,c,d,rfl⟩:=len4 hl; rfl) fun f fd F=>ok_listening F B C__law_draw
  have C__law_rule:Cal P w K mg base 2 "_law_rule" ["_law_pack_here","_law_style","_law_count"] (sp_rulep K):=F__law_rule.cal X G (fun _ _ _ _ _ _ us hl=>by obtain ⟨a,b,c,rfl⟩:=len3 hl; rfl) fun f fd F=>ok_rulep F C__law_draw
  have C__law_choir:Cal P w K mg base 3 "_law_choir" ["_law_pack_here","_law_most","_law_waits"] (sp_choir K):=F__law_choir.cal X G (fun _ _ _ _ _ _ us hl=>by obtain ⟨a,b,c,rfl⟩:=len3 hl; rfl) fun f fd F=>ok_choir F B C__law_draw C__law_next C__law_name C__law_rule C__law_listening
  have C__law_about:Cal P w K mg base 1 "_law_about" ["_law_choir_here"] (sp_about K):=F__law_about.cal X G (fun _ _ _ _ _ _ us hl=>by obtain ⟨a,rfl⟩:=len1 hl; rfl) fun f fd F=>ok_about F B
  have C__law_turned:Cal P w K mg base 1 "_law_turned" ["_law_choir_here","_law_at"] (sp_turned K):=F__law_turned.cal X G (fun _ _ _ _ _ _ us hl=>by obtain ⟨a,b,rfl⟩:=len2 hl; rfl) fun f fd F=>ok_turned F B
  have C__law_going:Cal P w K mg base 4 "_law_going" ["_law_pack_here"] (sp_going K):=F__law_going.cal X G (fun _ _ _ _ _ _ us hl=>by obtain ⟨a,rfl⟩:=len1 hl; rfl) fun f fd F=>ok_going F B C__law_draw C__law_next C__law_choir C__law_turned C__law_about
  have C__law_mean:Cal P w K mg base 2 "_law_mean" ["_law_told","_law_beats","_law_many"] sp_mean:=F__law_mean.cal X G (fun _ _ _ _ _ _ us hl=>by obtain ⟨a,b,c,rfl⟩:=len3 hl; rfl) fun f fd F=>ok_mean F C__law_whole
  have C__law_lowest:Cal P w K mg base 1 "_law_lowest" ["_law_told"] sp_lowest:=F__law_lowest.cal X G (fun _ _ _ _ _ _ us hl=>by obtain ⟨a,rfl⟩:=len1 hl; rfl) fun f fd F=>ok_lowest F
  exact ok_law F B C__law_pack C__law_draw C__law_going C_pace.to0 C_round_of C_hears C__law_mean C__law_lowest
end K43
def PySem.W.Fast.tw4459318918378146994:Nat:=0
def PySem.W.Fast.tw7820317849644243482:Nat:=0
def PySem.W.Fast.tw8506974149969943591:Nat:=0
def PySem.W.Fast.tw16309891014884920216:Nat:=0
def PySem.W.Fast.tw6457223922064562495:Nat:=0
def PySem.W.Fast.tw11997580438738856852:Nat:=0
def PySem.W.Fast.tw14440999880147103487:Nat:=0
def PySem.W.Fast.tw11265285147152226528:Nat:=0
def PySem.W.Fast.tw3192449033992263589:Nat:=0
def PySem.W.Fast.tw3895819917730242650:Nat:=0
def PySem.W.Fast.tw7522113761132220918:Nat:=0
def PySem.W.Fast.tw9102185175996212172:Nat:=0
def PySem.W.Fast.tw15899170564033392680:Nat:=0
def PySem.W.Fast.tw3001437291427170397:Nat:=0
def PySem.W.Fast.tw3138512759458540891:Nat:=0
def PySem.W.Fast.tw18284182394651878903:Nat:=0
open PySem PySem.W PyProof.Rows
set_option maxRecDepth 100000 in
set_option maxHeartbeats 0 in
theorem PySem.Challenge.cw_earbells_k43_whole_round_and_pace_holds : PySem.Challenge.rw_earbells_k43_whole_round_and_pace.Holds := by
  w_on; o_law; k_head; (case hw=>w_witness2)
  k_fill
  refine L2.walk_ofK (l:=PySem.Challenge.rw_earbells_k43_whole_round_and_pace) (n:=63) (k:=11) (x:="_law_script") (CX:=L2.CX0) (sp:=K43.sp_law) rfl (by decide) rfl ⟨rfl,by decide,by decide⟩ (fun w h Y=>PySem.W.kIn_of Y) ?F (fun K H a ns hl hO hS=>⟨a,ns,rfl,hS,hl,fun _=>rfl⟩) (fun _ _ _ _ z=>z)
  case F =>
    intro w mg fa h KX G hmg
    refine' K43.all KX G hmg ?B ?aW ?aM ?MW ?xsW ?FIW ?xM ?aR ?aA ?aY ?aS ?cR ?oA ?oY ?oS ?FR ?FA ?FY ?FS ?FF ?FW ?F_is_whole ?F_rule_of_text ?F_rule_of ?F_rule_of_bell ?F_listening_comes ?F_next_found ?F_strokes_behind ?F_strokes ?F_waiting ?F_refuse_waiting ?F_side_of ?F_hears ?F_greatest_common ?F_fraction ?F_mean_that_all_beat ?F_gain ?F_lift_once ?F_ring_from ?F_settled ?F_mean_of ?F_way_to ?F_pace ?F_round_of ?F__law_nth ?F__law_whole ?F__law_pack ?F__law_next ?F__law_draw ?F__law_name ?F__law_listening ?F__law_rule ?F__law_choir ?F__law_about ?F__law_turned ?F__law_going ?F__law_mean ?F__law_lowest ?F_law
    case B =>
      refine' K43.blt_mk KX G ?z1 ?z2 ?z3 ?z4 ?z5 ?z6 ?z7 ?z8 ?z9 ?z10 ?z11 ?z12 ?z13 ?z14 ?z15 ?z16 ?z17 ?z18 ?z19 ?z20
      all_goals k_is
    (case aW=>k_is); (case aM=>k_is)
    (case MW=>refine' K43.mkx_mk ?MaW ?MbW ?McW ?MdW; (case MaW=>k_is); (case MbW=>kernel_rfl); (case McW=>k_is); (case MdW=>k_is))
    (case xsW=>refine' K43.xset_mk ?XaW ?XbW ?XcW ?XdW; (case XbW=>kernel_rfl); all_goals k_is)
    (case FIW=>refine' L2.fun_ex ?WlW ?WcW ?WkW; (case WlW=>k_is); (case WcW=>k_is); (case WkW=>k_is))
    (case xM=>refine' K43.excC_mk ?xMa; (case xMa=>k_exc))
    (case aR=>k_is); (case aA=>k_is); (case aY=>k_is); (case aS=>k_is)
    (case cR=>refine' K43.clsfn_mk ?cRa ?cRb ?cRc ?cRd; (case cRa=>k_is); (case cRb=>k_is); (case cRc=>k_is); (case cRd=>k_is))
    (case oA=>refine' K43.own_mk ?oAa ?oAb ?oAc ?oAd ?oAe ?oAf ?oAg ?oAh ?oAi ?oAj ?oAk ?oAl ?oAm ?oAn ?oAo; (case oAa=>k_is); (case oAb=>k_is); (case oAc=>k_is); all_goals k_is)
    (case oY=>refine' K43.own_mk ?oYa ?oYb ?oYc ?oYd ?oYe ?oYf ?oYg ?oYh ?oYi ?oYj ?oYk ?oYl ?oYm ?oYn ?oYo; (case oYa=>k_is); (case oYb=>k_is); (case oYc=>k_is); all_goals k_is)
    (case oS=>refine' K43.own_mk ?oSa ?oSb ?oSc ?oSd ?oSe ?oSf ?oSg ?oSh ?oSi ?oSj ?oSk ?oSl ?oSm ?oSn ?oSo; (case oSa=>k_is); (case oSb=>k_is); (case oSc=>k_is); all_goals k_is)
    (case FR=>refine' L2.fun_ex ?FRl ?FRc ?FRk; (case FRl=>k_is); (case FRc=>k_is); (case FRk=>k_is))
    (case FA=>refine' L2.fun_ex ?FAl ?FAc ?FAk; (case FAl=>k_is); (case FAc=>k_is); (case FAk=>k_is))
    (case FY=>refine' L2.fun_ex ?FYl ?FYc ?FYk; (case FYl=>k_is); (case FYc=>k_is); (case FYk=>k_is))
    (case FS=>refine' L2.fun_ex ?FSl ?FSc ?FSk; (case FSl=>k_is); (case FSc=>k_is); (case FSk=>k_is))
    (case FF=>refine' L2.fun_ex ?FFl ?FFc ?FFk; (case FFl=>k_is); (case FFc=>k_is); (case FFk=>k_is))
    (case FW=>refine' L2.fun_ex ?FWl ?FWc ?FWk; (case FWl=>k_is); (case FWc=>k_is); (case FWk=>k_is))
    all_goals (refine' L2.funAt_mk ?a ?l ?c ?k; (case a=>k_is); (case l=>k_is); (case c=>k_is); (case k=>k_is))
#print axioms PySem.Challenge.cw_earbells_k43_whole_round_and_pace_holds
end
