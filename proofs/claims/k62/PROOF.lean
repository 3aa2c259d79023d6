import PyProof.Rows.All
import Wide.All
import OpenK.AllK
import Wide.FinOn
import Lean
import PyProof.EqAt
import PyProof.EqKinds
import PyProof.TupleCall
import PyProof.NeKinds
import PySem.Challenge.RW_earbells_k62_later_strokes
set_option Elab.async false
set_option linter.all false
set_option maxRecDepth 100000
noncomputable section
namespace PySem.W.Fast
def tw9575807408379907687:Nat:=0
def tw13445403042571561119:Nat:=0
def tw13816738068430846353:Nat:=0
def tw11332116256206159885:Nat:=0
def tw8293235620699454226:Nat:=0
def tw12846227625848253111:Nat:=0
def tw12038054065319653341:Nat:=0
def tw1630625159122481244:Nat:=0
def tw14901085403927233211:Nat:=0
def tw6132271195381761508:Nat:=0
def tw3343623809068800330:Nat:=0
def tw9437658506118909997:Nat:=0
def tw6082596849383982012:Nat:=0
def tw15082634446986504776:Nat:=0
def tw11524248455647679262:Nat:=0
def tw9983480500485551708:Nat:=0
def tw4624767026837657951:Nat:=0
def tw15700223846959501711:Nat:=0
def tw3557496196514897891:Nat:=0
def tw970479088272289668:Nat:=0
def tw3427559309357196875:Nat:=0
def tw7513446295631200274:Nat:=0
def tw3166271715679926853:Nat:=0
def tw1203536215696709548:Nat:=0
def tw339329549038001098:Nat:=0
def tw14146296305872485471:Nat:=0
def tw6238534418062057900:Nat:=0
def tw4135971946811354389:Nat:=0
def tw8558403651419967974:Nat:=0
def tw7966309497108251351:Nat:=0
def tw3231402163293307238:Nat:=0
def tw8482547811293376141:Nat:=0
def tw5905417058778186860:Nat:=0
def tw7029911128549971817:Nat:=0
def tw5912508404993002778:Nat:=0
def tw12256748536299791546:Nat:=0
def tw12141298395815736436:Nat:=0
def tw7629623770478956784:Nat:=0
def tw15078776687396524531:Nat:=0
def tw15929482943893869402:Nat:=0
def tw4606809168257746138:Nat:=0
def tw2182440309741642759:Nat:=0
def tw12043131877859323169:Nat:=0
def tw2587081419327500641:Nat:=0
def tw7368671396201471777:Nat:=0
def tw4354443009103928728:Nat:=0
def tw1711487579967840850:Nat:=0
def tw14245153569221361366:Nat:=0
def tw2249929011175456453:Nat:=0
def tw18180586083382363592:Nat:=0
def tw5152705010305749803:Nat:=0
def tw13689759687859362261:Nat:=0
def tw8710899538607669155:Nat:=0
def tw10912671937789291879:Nat:=0
def tw11512958190640142720:Nat:=0
def tw12610308500823644968:Nat:=0
def tw1112030660628052416:Nat:=0
def tw9821712750915809418:Nat:=0
def tw7002950317218515743:Nat:=0
def tw6709046555664510701:Nat:=0
def tw9924632846123088183:Nat:=0
def tw7471235689397116845:Nat:=0
def tw9116007608679730386:Nat:=0
def tw17034481258312254220:Nat:=0
def tw17820160797291605901:Nat:=0
def tw1440704359144219872:Nat:=0
def tw7449596024536063801:Nat:=0
def tw8542098257567624572:Nat:=0
def tw3792410014935760211:Nat:=0
def tw8087785210589775747:Nat:=0
def tw17653636994680174159:Nat:=0
def tw3843846332389532821:Nat:=0
def tw6080826134684862996:Nat:=0
def tw406604299410285565:Nat:=0
def tw10281852256870388574:Nat:=0
def tw15006634420857111324:Nat:=0
def tw16393736192082775233:Nat:=0
def tw99549690442571139:Nat:=0
def tw7171988378510549837:Nat:=0
def tw14608137125690325280:Nat:=0
def tw10093636289093832319:Nat:=0
def tw14621671431147972062:Nat:=0
def tw8213120545195841484:Nat:=0
def tw699633025590246815:Nat:=0
def tw10242148519256541424:Nat:=0
def tw10147783698441165840:Nat:=0
def tw12334801147295360950:Nat:=0
def tw8189246646351495480:Nat:=0
def tw18123954942814726234:Nat:=0
def tw17921522645917891341:Nat:=0
def tw18439922307093263636:Nat:=0
def tw13079763789181843165:Nat:=0
def tw2107095337742807398:Nat:=0
def tw16478475470506719385:Nat:=0
def tw3072241856026980694:Nat:=0
def tw5110748936878549909:Nat:=0
def tw5018189352411645380:Nat:=0
def tw6249287244744390193:Nat:=0
def tw5285924017735699044:Nat:=0
def tw16189722086793335628:Nat:=0
def tw3424181936930097819:Nat:=0
def tw6812610798181523096:Nat:=0
def tw3016043672736719688:Nat:=0
def tw2373240521729692150:Nat:=0
def tw11557743713861515982:Nat:=0
def tw11687887657536221711:Nat:=0
def tw9271698536686009825:Nat:=0
def tw14904165826711682575:Nat:=0
def tw7622925246770389676:Nat:=0
def tw7696571218551142029:Nat:=0
def tw6734729576433774836:Nat:=0
def tw8547274388411400095:Nat:=0
def tw3818459874297493196:Nat:=0
def tw17866474959764425843:Nat:=0
def tw17869471284646113956:Nat:=0
def tw10775052082687152476:Nat:=0
def tw1513859161981113957:Nat:=0
def tw13424622137360888889:Nat:=0
def tw16567719784123967310:Nat:=0
def tw3127263845635434131:Nat:=0
def tw4090438069533593405:Nat:=0
def tw3339724017731891170:Nat:=0
def tw8208598542495987787:Nat:=0
def tw953408155694273524:Nat:=0
def tw17224564515747451030:Nat:=0
def tw7959211717995839995:Nat:=0
def tw17912226657835864010:Nat:=0
def tw12483679917757270870:Nat:=0
def tw3803506053519768068:Nat:=0
def tw12729018660756662556:Nat:=0
def tw17130551854732716285:Nat:=0
def tw2294862136451153316:Nat:=0
def tw9892216994813000020:Nat:=0
def tw10288097937729590929:Nat:=0
def tw13805054586818630969:Nat:=0
def tw9223092498430458122:Nat:=0
def tw8155258813881305074:Nat:=0
def tw5004237544909218548:Nat:=0
def tw9266768416242684567:Nat:=0
def tw17330255340187622014:Nat:=0
def tw14388901966650917701:Nat:=0
def tw162226319095001515:Nat:=0
def tw7554299074385652625:Nat:=0
def tw5041463193352057999:Nat:=0
def tw10113876349322593269:Nat:=0
def tw7867484191008914406:Nat:=0
def tw4079333280861516353:Nat:=0
def tw1975969561448621070:Nat:=0
def tw5554109846613070554:Nat:=0
def tw10714647118877864447:Nat:=0
def tw449623968544652731:Nat:=0
def tw4986009452804344495:Nat:=0
def tw3244573928685059254:Nat:=0
def tw17865631680320683865:Nat:=0
def tw17894090926182090303:Nat:=0
def tw17052849087820502342:Nat:=0
def tw612694034766154682:Nat:=0
def tw3488667300844249768:Nat:=0
def tw11542245936949145298:Nat:=0
def tw14589085737430123924:Nat:=0
def tw3786214936470201037:Nat:=0
def tw8875268889933684278:Nat:=0
def tw6442853712174324309:Nat:=0
def tw10421964667377274298:Nat:=0
def tw4794714665900504000:Nat:=0
def tw18158172554946641091:Nat:=0
def tw8148176469982755899:Nat:=0
def tw17372589905044807717:Nat:=0
def tw12162733805076485766:Nat:=0
def tw9394718785076525838:Nat:=0
def tw1045196894540627170:Nat:=0
def tw10181521289026134763:Nat:=0
def tw9413049768709231276:Nat:=0
def tw2655531221619703801:Nat:=0
def tw987462878212208399:Nat:=0
def tw10305128903817193229:Nat:=0
def tw1639178179903501443:Nat:=0
def tw6047326961315354474:Nat:=0
def tw8012416569176469192:Nat:=0
def tw14842743601540372400:Nat:=0
def tw6327732882598326332:Nat:=0
def tw3984882236570174633:Nat:=0
def tw9063608438034087711:Nat:=0
def tw9992870403438244716:Nat:=0
def tw256452500748888176:Nat:=0
def tw18395352965227835992:Nat:=0
def tw2854135030488368315:Nat:=0
def tw17385690047291323443:Nat:=0
def tw14116170505192201554:Nat:=0
def tw16192676831709820027:Nat:=0
def tw16210943679832181008:Nat:=0
def tw13128074479146242968:Nat:=0
def tw8685436791222233765:Nat:=0
def tw14373013246517516219:Nat:=0
def tw983084113881943885:Nat:=0
def tw6843369253737962237:Nat:=0
def tw8003975565402745504:Nat:=0
def tw17698311749007957421:Nat:=0
def tw18444351891343639821:Nat:=0
def tw8142827919526366642:Nat:=0
def tw3320648726095112833:Nat:=0
def tw3007227920788303125:Nat:=0
def tw9866578446704210059:Nat:=0
def tw9660881769112251356:Nat:=0
def tw4500556048379070552:Nat:=0
def tw11291631564635811787:Nat:=0
def tw15089100325712032120:Nat:=0
def tw7419176215174742217:Nat:=0
def tw6255249562102199208:Nat:=0
def tw7150453506850319576:Nat:=0
def tw8609830487073366933:Nat:=0
def tw4629562675153690398:Nat:=0
def tw13177447690811763444:Nat:=0
def tw1886095910612648671:Nat:=0
def tw11464717378332146059:Nat:=0
def tw4940926781909204626:Nat:=0
def tw17218866870968469471:Nat:=0
def tw7671688739827291871:Nat:=0
def tw2229762742570757760:Nat:=0
def tw4555483921649948005:Nat:=0
def tw11217290345129466674:Nat:=0
def tw15564076648131899679:Nat:=0
def tw4274283965860016123:Nat:=0
def tw7527555174689801802:Nat:=0
def tw14496319045722117294:Nat:=0
def tw16480002415077213552:Nat:=0
def tw18125899096544655387:Nat:=0
def tw12321458884237614308:Nat:=0
def tw14405282067575375917:Nat:=0
def tw17478300037842665249:Nat:=0
def tw16078050128190732204:Nat:=0
def tw3407697730346051731:Nat:=0
def tw10788818699234589328:Nat:=0
def tw5993394832542867067:Nat:=0
def tw11207551682475785686:Nat:=0
def tw1134751764917026814:Nat:=0
def tw16022831130675615036:Nat:=0
def tw18372612448785239355:Nat:=0
def tw5300538709838458484:Nat:=0
def tw9406396929016690938:Nat:=0
def tw6759763091675636274:Nat:=0
def tw6009725755503177432:Nat:=0
def tw12775863900840426253:Nat:=0
def tw13022731932521428899:Nat:=0
def tw3448417792253391856:Nat:=0
def tw17781314847607789801:Nat:=0
def tw5435075192840661084:Nat:=0
def tw6389236945519568926:Nat:=0
def tw15246231136076994404:Nat:=0
def tw14129997913041529287:Nat:=0
def tw3798439883985767291:Nat:=0
def tw3083813078473052462:Nat:=0
def tw173012022449635839:Nat:=0
def tw16347278725281090916:Nat:=0
def tw7941782543423211707:Nat:=0
def tw5897896695575275473:Nat:=0
def tw753151742496001370:Nat:=0
def tw6748283911433728019:Nat:=0
def tw13215143658185712557:Nat:=0
def tw6544859133634216557:Nat:=0
def tw8948981076688667503:Nat:=0
def tw3845792339870207639:Nat:=0
def tw1151554196835327559:Nat:=0
def tw5534240876471654474:Nat:=0
def tw13103780246926155448:Nat:=0
def tw680407247976768197:Nat:=0
def tw1950151632374811214:Nat:=0
def tw16968205906099609352:Nat:=0
def tw5258863052988413776:Nat:=0
def tw10691953065154281737:Nat:=0
def tw5397981735488509589:Nat:=0
def tw6897355932014649473:Nat:=0
def tw13041006304673055844:Nat:=0
def tw6389695051849675793:Nat:=0
def tw4186213633567714344:Nat:=0
def tw14814281182450859564:Nat:=0
def tw18307152137826274552:Nat:=0
def tw11647964125102647949:Nat:=0
def tw11733725568777871392:Nat:=0
def tw9088065803434306702:Nat:=0
def tw17663261791132150625:Nat:=0
def tw5229693437017002316:Nat:=0
def tw8115896865683105144:Nat:=0
def tw4200929309090407955:Nat:=0
def tw15430923103481830153:Nat:=0
def tw14298295181940381026:Nat:=0
def tw16272742382827909408:Nat:=0
def tw15190228131391731916:Nat:=0
def tw5269281855915142453:Nat:=0
def tw17670164534668014881:Nat:=0
def tw11257838275293922469:Nat:=0
def tw8712562457775448468:Nat:=0
def tw17554962506545305997:Nat:=0
def tw1357350611080045482:Nat:=0
def tw12438808950477720324:Nat:=0
def tw17091363976841013960:Nat:=0
def tw13156151697200583013:Nat:=0
def tw17494362215728734371:Nat:=0
def tw7896844495362278651:Nat:=0
def tw14538779188217059207:Nat:=0
def tw11609899801901467940:Nat:=0
def tw1735502241503506571:Nat:=0
def tw18408873931658564131:Nat:=0
def tw8362467690907570230:Nat:=0
def tw2314064129639566556:Nat:=0
def tw4399521225109490926:Nat:=0
def tw13018270449359763869:Nat:=0
def tw9525377274393928593:Nat:=0
def tw14452630116186715869:Nat:=0
def tw2246383385690496255:Nat:=0
def tw4333678410767947717:Nat:=0
def tw16704406815118509268:Nat:=0
def tw6352385324268663242:Nat:=0
def tw17176094326350751348:Nat:=0
def tw17963202459888933188:Nat:=0
def tw1596897830495409453:Nat:=0
def tw16445140413506442050:Nat:=0
def tw1454706709235324211:Nat:=0
def tw3947663736578146424:Nat:=0
def tw4625652989394060776:Nat:=0
def tw8174110714596537846:Nat:=0
def tw7307850977856050382:Nat:=0
def tw11420825463859259630:Nat:=0
def tw11329447740186504394:Nat:=0
def tw17408025092610506555:Nat:=0
def tw7682277106782326763:Nat:=0
def tw16623867407711288693:Nat:=0
def tw4419299576998176662:Nat:=0
def tw5218430535363159606:Nat:=0
def tw9275282353118141036:Nat:=0
def tw3711070954477542949:Nat:=0
def tw4247024733489961192:Nat:=0
def tw1067916016878354556:Nat:=0
def tw10315140448203263477:Nat:=0
def tw16343711669584151824:Nat:=0
def tw16600800737734110960:Nat:=0
def tw16668993669967354284:Nat:=0
def tw8564551178906585197:Nat:=0
def tw15628830043496634152:Nat:=0
def tw6828947515680190142:Nat:=0
def tw6615322995547944557:Nat:=0
def tw17216283202503836705:Nat:=0
def tw17063868190368367706:Nat:=0
def tw327309141875171617:Nat:=0
def tw4191767793277629345:Nat:=0
def tw13480008814064054743:Nat:=0
def tw12609397680711379314:Nat:=0
def tw11023057945843192846:Nat:=0
def tw5131386739258648787:Nat:=0
def tw6124985707380321707:Nat:=0
def tw5308932306985331027:Nat:=0
def tw13669847431488281816:Nat:=0
def tw12001556935212536516:Nat:=0
def tw16126527640427003621:Nat:=0
def tw4851233506413627827:Nat:=0
def tw432278029560148887:Nat:=0
def tw10107079115468475919:Nat:=0
def tw15770104369193729220:Nat:=0
def tw11370141248186282330:Nat:=0
def tw8906311042400445138:Nat:=0
def tw17318603518005199290:Nat:=0
def tw614348546261016282:Nat:=0
def tw14784164093329903732:Nat:=0
def tw10029034842479136267:Nat:=0
def tw1406658320542933240:Nat:=0
def tw7681670457305590082:Nat:=0
def tw3101933976230049069:Nat:=0
def tw11451503769522364011:Nat:=0
def tw1225053540945542509:Nat:=0
def tw9782197743301044033:Nat:=0
def tw4946932805047918026:Nat:=0
def tw10318764631174240539:Nat:=0
def tw8878730513192043803:Nat:=0
def tw17368458263212985488:Nat:=0
def tw11515583478028396923:Nat:=0
def tw8807862726372161947:Nat:=0
def tw17936834846703124148:Nat:=0
def tw10568546890223570371:Nat:=0
def tw17990243842992254565:Nat:=0
def tw17780830173698274648:Nat:=0
def tw5119583083062478473:Nat:=0
def tw18050414610013562610:Nat:=0
def tw7219596397505681138:Nat:=0
def tw4126009065891548091:Nat:=0
def tw10738490151827832901:Nat:=0
def tw6349513464226157122:Nat:=0
def tw12873480483443695611:Nat:=0
def tw8510477394993488517:Nat:=0
def tw2825182520050650864:Nat:=0
def tw1025578451058066872:Nat:=0
def tw17146992961009599393:Nat:=0
def tw2742664186531511452:Nat:=0
def tw14043859796854718072:Nat:=0
def tw14174578890935993136:Nat:=0
def tw6304760087716230869:Nat:=0
def tw7495386051552934060:Nat:=0
def tw13887377082550449802:Nat:=0
def tw5005180011007282684:Nat:=0
def tw13074534573524436835:Nat:=0
def tw3161332127118438054:Nat:=0
def tw10182192739665089350:Nat:=0
def tw6870450639285822332:Nat:=0
def tw18229638266307439494:Nat:=0
def tw13361293644669619132:Nat:=0
def tw16951284685150444533:Nat:=0
def tw14184976632798040125:Nat:=0
def tw17698563427782828054:Nat:=0
def tw3438038238976136938:Nat:=0
def tw11816838668595380733:Nat:=0
def tw689123041979790737:Nat:=0
def tw9315976846920748170:Nat:=0
def tw7677745237314810561:Nat:=0
def tw3141110524389534306:Nat:=0
def tw17450165893223809869:Nat:=0
def tw17238673815350046887:Nat:=0
def tw16363975222352076765:Nat:=0
def tw16547661393759288519:Nat:=0
def tw15617286507884537508:Nat:=0
def tw11263366262809349310:Nat:=0
def tw15744993126608095936:Nat:=0
def tw3396206900384615531:Nat:=0
def tw16432215083356145310:Nat:=0
def tw17559126755112934602:Nat:=0
def tw7586678287970510526:Nat:=0
def tw6986592593397757662:Nat:=0
def tw8099605210310869011:Nat:=0
def tw9738822452023614689:Nat:=0
def tw14787372053737740918:Nat:=0
def tw10796503965779326678:Nat:=0
def tw8083731034411733801:Nat:=0
def tw14637426583817394823:Nat:=0
def tw12602329498929669878:Nat:=0
def tw7604629004320961803:Nat:=0
def tw13920748478522520739:Nat:=0
def tw14571518545866535097:Nat:=0
def tw1528485895326228616:Nat:=0
def tw18064836162403844054:Nat:=0
def tw64497674344195319:Nat:=0
def tw11146241323914579177:Nat:=0
def tw13381905318103246024:Nat:=0
def tw2390901862812048759:Nat:=0
def tw14582714798597492057:Nat:=0
def tw16974489467152799649:Nat:=0
def tw4571567963124628249:Nat:=0
def tw6939195736006081484:Nat:=0
def tw6896993899474037929:Nat:=0
def tw9689759628558364622:Nat:=0
end PySem.W.Fast
namespace L2
open PySem PySem.Spec PyProof.Rows
abbrev Key:=Sum Int Str
def keyIs:Key→Value→Bool
  | .inl k,v=>Value.isInt k v
  | .inr x,v=>Value.isStrOf x v
def keyH (w:World):Key→Int
  | .inl k=>hashInt k
  | .inr x=>hashStr w x
theorem keyIs_shape:∀ {k:Key} {v:Value},keyIs k v=true→(∃ i t,k=Sum.inl i∧v=Value.int i t)∨(∃ x t,k=Sum.inr x∧v=Value.str x t)
  | .inl i,v,h=>by
    obtain ⟨t,e⟩:=Value.isInt_shape (k:=i) (v:=v) h
    exact .inl ⟨i,t,rfl,e⟩
  | .inr x,v,h=>by
    obtain ⟨t,e⟩:=Value.isStrOf_shape (x:=x) (v:=v) h
    exact .inr ⟨x,t,rfl,e⟩
theorem key_ll (a b:Int):decide ((Sum.inl a:Key)=Sum.inl b)=(a == b):=by
  by_cases e:a=b
  · subst e; simp
  · have h:¬ (Sum.inl a:Key)=Sum.inl b:=fun q=>e (Sum.inl.inj q)
    rw [decide_eq_false h]
    exact (beq_eq_false_iff_ne.mpr e).symm
theorem key_rr (a b:Str):decide ((Sum.inr a:Key)=Sum.inr b)=decide (a=b):=by
  by_cases e:a=b
  · subst e; simp
  · have h:¬ (Sum.inr a:Key)=Sum.inr b:=fun q=>e (Sum.inr.inj q)
    rw [decide_eq_false h,decide_eq_false e]
theorem key_lr (a:Int) (b:Str):decide ((Sum.inl a:Key)=Sum.inr b)=false:=decide_eq_false (fun q=>nomatch q)
theorem key_rl (a:Str) (b:Int):decide ((Sum.inr a:Key)=Sum.inl b)=false:=decide_eq_false (fun q=>nomatch q)
def mixKind (prog:Program) (w:World):PySem.KeyKind prog w Key where
  is:=keyIs
  hash:=keyH w
  inj:=fun v a b ha hb=>by
    rcases keyIs_shape ha with ⟨i,t,rfl,rfl⟩ | ⟨x,t,rfl,rfl⟩
    · rcases keyIs_shape hb with ⟨j,u,rfl,e⟩ | ⟨y,u,rfl,e⟩
      · injection e with e1 _; rw [e1]
      · exact nomatch e
    · rcases keyIs_shape hb with ⟨j,u,rfl,e⟩ | ⟨y,u,rfl,e⟩
      · exact nomatch e
      · injection e with e1 _; rw [e1]
  byValue:=fun k v h=>by
    rcases keyIs_shape h with ⟨i,t,rfl,rfl⟩ | ⟨x,t,rfl,rfl⟩ <;> rfl
  pyHash:=fun hv h=>by
    rcases keyIs_shape hv with ⟨i,t,rfl,rfl⟩ | ⟨x,t,rfl,rfl⟩
    · exact wpAny_pyHash_int h
    · exact wpAny_pyHash_str h
  eqBool:=fun hu hv h=>by
    rcases keyIs_shape hu with ⟨i,t,rfl,rfl⟩ | ⟨x,t,rfl,rfl⟩
    · rcases keyIs_shape hv with ⟨j,u,rfl,rfl⟩ | ⟨y,u,rfl,rfl⟩
      · rw [key_ll] at h; exact wpAny_eqBool_int h
      · rw [key_lr] at h; exact SeqAt.EqAt.int_str i t y u _ _ _ _ h
    · rcases keyIs_shape hv with ⟨j,u,rfl,rfl⟩ | ⟨y,u,rfl,rfl⟩
      · rw [key_rl] at h; exact SeqAt.EqAt.str_int x t j u _ _ _ _ h
      · rw [key_rr] at h; exact wpAny_eqBool_str h
  «strs»:=fun k x t v h=>by
    rcases keyIs_shape h with ⟨i,u,rfl,e⟩ | ⟨y,u,rfl,e⟩
    · exact nomatch e
    · injection e with e1 _
      subst e1
      cases v <;> rfl
end L2
namespace L2
open PySem PySem.Spec PyProof.Rows
inductive V where
  | non | bl (b:Bool) | int (i:Int) | str (x:Str) | byt (b:Array UInt8) | flt (b:UInt64) | ref (a:Addr) | ty (n:String)
  deriving DecidableEq
def RelV:V→Value→Prop
  | .non,u=>u=Value.none
  | .bl b,u=>u=Value.bool b
  | .int i,u=>∃ t,u=Value.int i t
  | .str x,u=>∃ t,u=Value.str x t
  | .byt b,u=>∃ t,u=Value.bytes b t
  | .flt b,u=>∃ t,u=Value.float b t
  | .ref a,u=>u=Value.ref a
  | .ty n,u=>u=Value.type n
abbrev Vals:List V→List Value→Prop:=Paired RelV
theorem Vals.length {xs:List V} {us:List Value} (r:Vals xs us):xs.length=us.length:=Paired.length r
theorem Vals.get:∀ {xs:List V} {us:List Value} {i:Nat} {x:V},Vals xs us→xs[i]?=some x→∃ u,us[i]?=some u∧RelV x u
  | _,_,_,_,.nil,e=>by simp at e
  | _,_,0,_,.cons r _,e=>by simp at e; subst e; exact ⟨_,rfl,r⟩
  | _,_,i+1,x,.cons _ t,e=>by
    obtain ⟨u,h1,h2⟩:=Vals.get (i:=i) (x:=x) t (by simpa using e)
    exact ⟨u,by simpa using h1,h2⟩
theorem Vals.set {x:V} {u:Value} (r:RelV x u):∀ {xs:List V} {us:List Value} (i:Nat),Vals xs us→Vals (xs.set i x) (us.set i u)
  | _,_,_,.nil=>.nil
  | _,_,0,.cons _ t=>.cons r t
  | _,_,i+1,.cons q t=>.cons q (Vals.set r i t)
theorem Vals.append:∀ {xs ys:List V} {us ws:List Value},Vals xs us→Vals ys ws→Vals (xs++ys) (us++ws)
  | _,_,_,_,.nil,s=>s
  | _,_,_,_,.cons r t,s=>.cons r (Vals.append t s)
theorem Vals.take:∀ {xs:List V} {us:List Value} (n:Nat),Vals xs us→Vals (xs.take n) (us.take n)
  | _,_,0,_=>.nil
  | _,_,_+1,.nil=>.nil
  | _,_,n+1,.cons r t=>.cons r (Vals.take n t)
theorem Vals.drop:∀ {xs:List V} {us:List Value} (n:Nat),Vals xs us→Vals (xs.drop n) (us.drop n)
  | _,_,0,r=>r
  | _,_,_+1,.nil=>.nil
  | _,_,n+1,.cons _ t=>Vals.drop n t
def RelO:Option V→Option Value→Prop
  | some v,some u=>RelV v u
  | none,none=>True
  | _,_=>False
def KV {κ:Type}:List (κ×V)→List (κ×Value)→Prop:=Paired fun (p:κ×V) (q:κ×Value)=>p.1=q.1∧RelV p.2 q.2
def kV:Key→V
  | .inl i=>.int i
  | .inr x=>.str x
inductive HO where
  | lst (xs:List V)
  | tup (xs:List V)
  | dK (kvs:List (Key×V)) | dT (kvs:List (List Key×V))
  | set (S:Int→Bool) (n:Nat)
  | ins (C dx:Addr) (fs:List (Str×V))
  | own (x:Addr)
  | xd (fs:List (Str×V))
  | met (f x:Addr)
  | rng (lo hi:Int)
  | frz (o:Obj) (u:HO)
  | tbl (ps:Array Value)
  | ext (φ:Heap→Prop)
abbrev Hp:=Addr→Option HO
def upd (H:Hp) (a:Addr) (o:HO):Hp:=fun b=>if b=a then some o else H b
theorem upd_same {H:Hp} {a:Addr} {o:HO}:upd H a o a=some o:=by unfold upd; rw [if_pos rfl]
theorem upd_ne {H:Hp} {a b:Addr} {o:HO} (h:b≠a):upd H a o b=H b:=by unfold upd; rw [if_neg h]
theorem ne_of {H:Hp} {a b:Addr} {o u:HO} (h:H a=some o) (h':H b=some u) (d:o≠u):a≠b:=by
  intro e; subst e; rw [h] at h'; exact d (Option.some.inj h')
theorem ne_of_none {H:Hp} {a b:Addr} {o:HO} (h:H a=some o) (h':H b=none):a≠b:=by
  intro e; subst e; rw [h] at h'; cases h'
section
variable (P:Program) (w:World)
def ObjOk (H:Hp) (h:Heap) (a:Addr):HO→Prop
  | .lst xs=>xs.length≤sizeLine∧∃ (its:List Value) (n:Nat),Vals xs its∧h.get? a=some { cls:=.type "list",data:=.seq its.toArray n }
  | .tup xs=>xs.length≤sizeLine∧∃ its:List Value,Vals xs its∧IsTup h a its.toArray
  | .dK kvs=>kvs.length≤sizeLine∧(a == sysModules)=false∧∃ vs,KV kvs vs∧h.DictOf (mixKind P w) a vs
  | .dT kvs=>kvs.length≤sizeLine∧(a == sysModules)=false∧∃ xs:List (List Key×Addr×Value),
      Paired (fun (p:List Key×V) (q:List Key×Addr×Value)=>p.1=q.1∧H q.2.1=some (.tup (p.1.map kV))∧RelV p.2 q.2.2) kvs xs∧
      ∃ o es ep,h.get? a=some o∧o.ExactDict∧o.data=.dict es ep∧es.toList=xs.map (entryOfKey (tupleKind (mixKind P w)))∧(xs.map (·.1)).Nodup
  | .set S n=>h.SetOf (intKind P w) a S n
  | .ins C dx fs=>H dx=some (.own a)∧fs.length≤1000∧dx≠a∧h.get? a=some (PySem.W.instObj C dx)∧
      ∃ mA,h.Ns1 dx mA∧(∀ f,RelO (fs.lookup f) (mA f))∧PySem.Within mA (fs.map (·.1))
  | .own _=>∃ o,h.get? a=some o
  | .xd fs=>∃ mA,h.Ns1 a mA∧∀ f,RelO (fs.lookup f) (mA f)
  | .rng lo hi=>∃ t u v,h.get? a=some { cls:=.type "range",data:=.fields #[.int lo t,.int hi u,.int 1 v] }
  | .frz o u=>h.get? a=some o∧ObjOk H h a u
  | .tbl ps=>h.get? a=some { cls:=.none,data:=.fields ps }
  | .met f x=>h.get? a=some (PySem.W.methodObj (.ref f) (.ref x))
  | .ext φ=>φ h∧(∃ o,h.get? a=some o)∧∀ h1 h2:Heap,φ h1→(∀ o,h1.get? a=some o→h2.get? a=some o)→φ h2
def HOk (H:Hp) (h:Heap):Prop:=∀ a o,H a=some o→ObjOk P w H h a o
end
section
variable {P:Program} {w:World} {H H':Hp} {h h':Heap} {a:Addr} {o:HO}
theorem ObjOk.lt (x:ObjOk P w H h a o):a<h.objs.size:=by
  cases o with
  | lst xs=>obtain ⟨_,_,_,_,e⟩:=x; exact Heap.lt_size e
  | tup xs=>obtain ⟨_,_,_,p⟩:=x; exact p.lt
  | dK kvs=>obtain ⟨_,_,_,_,o,_,_,e,_⟩:=x; exact Heap.lt_size e
  | dT kvs=>obtain ⟨_,_,_,_,o,_,_,e,_⟩:=x; exact Heap.lt_size e
  | set S n=>obtain ⟨o,_,_,_,e,_⟩:=x; exact Heap.lt_size e
  | ins C dx fs=>obtain ⟨_,_,_,e,_⟩:=x; exact Heap.lt_size e
  | own y=>obtain ⟨_,e⟩:=x; exact Heap.lt_size e
  | xd fs=>obtain ⟨_,⟨_,_,_,e,_⟩,_⟩:=x; exact Heap.lt_size e
  | rng lo hi=>obtain ⟨_,_,_,e⟩:=x; exact Heap.lt_size e
  | frz ob u=>obtain ⟨e,_⟩:=x; exact Heap.lt_size e
  | tbl ps=>exact Heap.lt_size (show h.get? a=some _ from x)
  | met f y=>exact Heap.lt_size (show h.get? a=some _ from x)
  | ext φ=>obtain ⟨_,⟨_,e⟩,_⟩:=x; exact Heap.lt_size e
theorem Paired.mapP {α β:Type} {F G:α→β→Prop}:∀ {l₁:List α} {l₂:List β},Paired F l₁ l₂→(∀ a b,F a b→G a b)→Paired G l₁ l₂
  | _,_,.nil,_=>.nil
  | _,_,.cons r t,f=>.cons (f _ _ r) (Paired.mapP t f)
theorem ObjOk.stay (x:ObjOk P w H h a o) (k:∀ b u,(b=a∨H b=some (.own a))→h.get? b=some u→h'.get? b=some u)
    (ho:∀ b,H b=some (.own a)→H' b=some (.own a)) (ht:∀ b xs,H b=some (.tup xs)→H' b=some (.tup xs)):ObjOk P w H' h' a o:=by
  induction o with
  | lst xs=>obtain ⟨z,its,n,r,e⟩:=x; exact ⟨z,its,n,r,k _ _ (.inl rfl) e⟩
  | tup xs=>obtain ⟨z,its,r,ob,e,c⟩:=x; exact ⟨z,its,r,ob,k _ _ (.inl rfl) e,c⟩
  | dK kvs=>obtain ⟨z,y,vs,r,ob,es,ep,e,c⟩:=x; exact ⟨z,y,vs,r,ob,es,ep,k _ _ (.inl rfl) e,c⟩
  | dT kvs =>
    obtain ⟨z,y,xs,r,ob,es,ep,e,c⟩:=x
    exact ⟨z,y,xs,Paired.mapP r fun p q z=>⟨z.1,ht _ _ z.2.1,z.2.2⟩,ob,es,ep,k _ _ (.inl rfl) e,c⟩
  | set S n=>obtain ⟨ob,es,ep,t,e,c⟩:=x; exact ⟨ob,es,ep,t,k _ _ (.inl rfl) e,c⟩
  | ins C dx fs =>
    obtain ⟨d,z,ne,e,mA,⟨od,es,ep,e2,c⟩,r⟩:=x
    exact ⟨ho _ d,z,ne,k _ _ (.inl rfl) e,mA,⟨od,es,ep,k _ _ (.inr d) e2,c⟩,r⟩
  | own y=>obtain ⟨ob,e⟩:=x; exact ⟨ob,k _ _ (.inl rfl) e⟩
  | xd fs=>obtain ⟨mA,⟨od,es,ep,e,c⟩,r⟩:=x; exact ⟨mA,⟨od,es,ep,k _ _ (.inl rfl) e,c⟩,r⟩
  | rng lo hi=>obtain ⟨t,u,v,e⟩:=x; exact ⟨t,u,v,k _ _ (.inl rfl) e⟩
  | frz ob u ih=>obtain ⟨e,q⟩:=x; exact ⟨k _ _ (.inl rfl) e,ih q⟩
  | tbl ps =>
    have e:h.get? a=some { cls:=.none,data:=.fields ps }:=x
    show h'.get? a=some { cls:=.none,data:=.fields ps }
    exact k a _ (.inl rfl) e
  | met f y =>
    have e:h.get? a=some (PySem.W.methodObj (.ref f) (.ref y)):=x
    show h'.get? a=some (PySem.W.methodObj (.ref f) (.ref y))
    exact k a _ (.inl rfl) e
  | ext φ=>obtain ⟨p,⟨o,e⟩,st⟩:=x; exact ⟨st _ _ p fun o q=>k _ _ (.inl rfl) q,⟨o,k _ _ (.inl rfl) e⟩,st⟩
theorem HOk.lt (x:HOk P w H h) (e:H a=some o):a<h.objs.size:=(x a o e).lt
theorem HOk.fresh (x:HOk P w H h) (e:h.objs.size≤a):H a=none:=by
  cases q:H a with
  | none=>rfl
  | some u=>exact absurd (Nat.lt_of_lt_of_le (x.lt q) e) (Nat.lt_irrefl _)
theorem HOk.kept (x:HOk P w H h) (k:∀ b u,h.get? b=some u→h'.get? b=some u):HOk P w H h':=fun a o e =>
  (x a o e).stay (fun b u _ q=>k b u q) (fun _ q=>q) fun _ _ q=>q
theorem HOk.laid (x:HOk P w H h) (k:∀ b u,h.get? b=some u→h'.get? b=some u) (hp:h.objs.size≤a) (new:ObjOk P w (upd H a o) h' a o):HOk P w (upd H a o) h':=fun b u e=>by
  have hn:=x.fresh hp
  by_cases hb:b=a
  · subst hb; rw [upd_same] at e; cases e; exact new
  · rw [upd_ne hb] at e
    exact (x b u e).stay (fun c v _ q=>k c v q) (fun c q=>by rw [upd_ne (ne_of_none q hn)]; exact q) fun c xs q=>by rw [upd_ne (ne_of_none q hn)]; exact q
end
def Rd (H:Hp) (a:Addr) (u:HO):Prop:=H a=some u∨∃ o,H a=some (.frz o u)
theorem Rd.ok {P:Program} {w:World} {H:Hp} {h:Heap} {a:Addr} {u:HO} (r:Rd H a u) (x:HOk P w H h):ObjOk P w H h a u:=by
  rcases r with r | ⟨o,r⟩
  · exact x a u r
  · obtain ⟨_,q⟩:=x a _ r
    exact q
def Mut:Option HO→Prop
  | some (.lst _)=>True
  | some (.dK _)=>True
  | some (.dT _)=>True
  | some (.set _ _)=>True
  | some (.ins _ _ _)=>True
  | some (.ext _)=>True
  | _=>False
section
variable {P:Program} {w:World} {H:Hp} {h h':Heap} {x e:Addr} {o':HO}
theorem HOk.write (ok:HOk P w H h) (mu:Mut (H x)) (he:e=x∨H e=some (.own x)) (k:∀ b u,b≠e→h.get? b=some u→h'.get? b=some u) (heo:∃ u,h'.get? e=some u)
    (new:ObjOk P w (upd H x o') h' x o'):HOk P w (upd H x o') h':=fun b u q=>by
  have nown:∀ c y,H c=some (.own y)→c≠x:=fun c y r z=>by subst z; rw [r] at mu; exact mu
  have ntup:∀ c xs,H c=some (.tup xs)→c≠x:=fun c xs r z=>by subst z; rw [r] at mu; exact mu
  by_cases hb:b=x
  · subst hb; rw [upd_same] at q; cases q; exact new
  · rw [upd_ne hb] at q
    by_cases hbe:b=e
    · have q':H b=some (.own x):=by
        rcases he with z | z
        · exact absurd (hbe.trans z) hb
        · rw [hbe]; exact z
      rw [q] at q'; cases q'
      obtain ⟨v,hv⟩:=heo
      exact ⟨v,by rw [hbe]; exact hv⟩
    · refine (ok b u q).stay (fun c v hc r=>k c v ?_ r) (fun c r=>by rw [upd_ne (nown c b r)]; exact r) fun c xs r=>by rw [upd_ne (ntup c xs r)]; exact r
      rcases hc with rfl | hc
      · exact hbe
      · rintro rfl
        rcases he with z | z
        · exact nown c b hc z
        · rw [hc] at z; cases z; exact hb rfl
end
structure Un (fs ex:List Addr) (H H':Hp) (h h':Heap):Prop where
  keep:∀ b o,h.get? b=some o→H b=none→b∉fs→b∉ex→h'.get? b=some o
  slot:∀ b o,h.get? b=some o→H b=none→b∈fs→b∉ex→∃ sl,h'.get? b=some { o with slots:=sl }
  free:∀ b o,h.get? b=some o→H b=none→b∉ex→H' b=none
  there:∀ b o,h.get? b=some o→b∉ex→∃ o',h'.get? b=some o'
  tups:∀ b xs,H b=some (.tup xs)→H' b=some (.tup xs)
  frzs:∀ b o u,H b=some (.frz o u)→H' b=some (.frz o u)
  tbls:∀ b ps,H b=some (.tbl ps)→∃ more,H' b=some (.tbl (ps++more))
section
variable {fs fs' ex ex':List Addr} {H H1 H2:Hp} {h h1 h2 h':Heap} {a x e:Addr} {o:HO}
theorem Un.any (u:Un fs ex H H1 h h1) {b:Addr} {ob:Obj} (q:h.get? b=some ob) (n:H b=none) (hx:b∉ex):∃ sl,h1.get? b=some { ob with slots:=sl }:=by
  by_cases hb:b∈fs
  · exact u.slot b ob q n hb hx
  · exact ⟨ob.slots,u.keep b ob q n hb hx⟩
theorem Un.kept (k:∀ b u,h.get? b=some u→h'.get? b=some u):Un fs ex H H h h' :=
  ⟨fun b ob q _ _ _=>k b ob q,fun b ob q _ _ _=>⟨ob.slots,k b ob q⟩,fun _ _ _ n _=>n,fun b ob q _=>⟨ob,k b ob q⟩,fun _ _ q=>q,fun _ _ _ q=>q,fun _ ps q=>⟨#[],by rw [q]; simp⟩⟩
theorem Un.refl:Un fs ex H H h h:=Un.kept fun _ _ q=>q
theorem Un.laid (k:∀ b u,h.get? b=some u→h'.get? b=some u) (hp:h.objs.size≤a) (hn:H a=none):Un fs ex H (upd H a o) h h' where
  keep:=fun b u q _ _ _=>k b u q
  slot:=fun b u q _ _ _=>⟨u.slots,k b u q⟩
  free:=fun b u q n _=>by rw [upd_ne (Nat.ne_of_lt (Nat.lt_of_lt_of_le (Heap.lt_size q) hp))]; exact n
  there:=fun b u q _=>⟨u,k b u q⟩
  tups:=fun b xs q=>by rw [upd_ne (ne_of_none q hn)]; exact q
  frzs:=fun b u xs q=>by rw [upd_ne (ne_of_none q hn)]; exact q
  tbls:=fun b ps q=>⟨#[],by rw [upd_ne (ne_of_none q hn),q]; simp⟩
theorem Un.write (mu:Mut (H x)) (he:e=x∨H e=some (.own x)) (k:∀ b u,b≠e→h.get? b=some u→h'.get? b=some u) (heo:∃ u,h'.get? e=some u):Un fs ex H (upd H x o) h h':=by
  have hx:∀ b,H b=none→b≠x:=fun b n z=>by subst z; rw [n] at mu; exact mu
  have hb:∀ b,H b=none→b≠e:=fun b n z=>by
    subst z
    rcases he with r | r
    · exact hx b n r
    · rw [n] at r; cases r
  have hm:∀ b u,H b=some u→¬ Mut (some u)→b≠x:=fun b u q nm z=>by subst z; rw [q] at mu; exact nm mu
  refine ⟨fun b u q n _ _=>k b u (hb b n) q,fun b u q n _ _=>⟨u.slots,k b u (hb b n) q⟩,fun b u q n _=>by rw [upd_ne (hx b n)]; exact n,fun b u q _=>?_,
    fun b xs q=>by rw [upd_ne (hm b _ q fun z=>z)]; exact q,fun b u xs q=>by rw [upd_ne (hm b _ q fun z=>z)]; exact q,fun b ps q=>⟨#[],by rw [upd_ne (hm b _ q fun z=>z),q]; simp⟩⟩
  by_cases hbe:b=e
  · subst hbe; exact heo
  · exact ⟨u,k b u hbe q⟩
end
def trk (h:Heap) (H:Hp):List Addr:=(List.range h.objs.size).filter fun a=>(H a).isSome
def hidT (h:Heap) (H:Hp):Heap:=PySem.W.hideAll h (trk h H)
theorem hidT_size (h:Heap) (H:Hp):(hidT h H).objs.size=h.objs.size:=PySem.W.hideAll_size _ _
theorem hidT_get {h:Heap} {H:Hp} {b:Addr} {o:Obj} (e:h.get? b=some o) (n:H b=none):(hidT h H).get? b=some o :=
  PySem.W.hideAll_get _ e fun hm=>by
    have q:(H b).isSome=true:=(List.mem_filter.mp hm).2
    rw [n] at q; simp at q
theorem of_hidT {h:Heap} {H:Hp} {b:Addr} {o:Obj} (e:(hidT h H).get? b=some o):h.get? b=some o∧H b=none:=by
  have e':h.get? b=some o:=PySem.W.of_hideAll (trk h H) e
  refine ⟨e',?_⟩
  cases q:H b with
  | none=>rfl
  | some x =>
    have hm:b∈trk h H:=List.mem_filter.mpr ⟨List.mem_range.mpr (Heap.lt_size e'),by simp [q]⟩
    have z:(hidT h H).get? b=none:=PySem.W.hideAll_none (trk h H) hm
    rw [z] at e; cases e
def allNews (g h:Heap) (L:Addr):List (Addr×Obj):=(List.range h.objs.size).filterMap fun a=>if a=L∨(g.get? a).isSome=true then none else (h.get? a).map fun o=>(a,o)
def rest (g h:Heap) (L d:Addr):List (Addr×Obj):=(allNews g h L).filter fun p=>decide (p.1≠d)
end L2
namespace L2
open PySem PySem.Spec PyProof.Rows
structure Mod (K:PySem.W.Frag) (mg:Str→Option Value) (base:Heap):Prop where
  kin:K.In base
  glob:base.Ns mainGlobals mg
  blt:∃ mb,base.Ns builtinsNs mb∧∀ x:Str,x≠"__name__"→mb x=bootBuiltins x
  nolimit:base.NoLimit
structure Cx where
  prog:Program
  w:World
  K:PySem.W.Frag
  mg:Str→Option Value
  base:Heap
  A:Around
  N:List Str
  s₀:Shared
  H₀:Hp
  env:Env
  outer:List Env
  stack:List Env
  ex:List Addr
  fn:Str→Bool
  calm:Bool
  pn:List (Addr×Obj)
  xe:Value→Shared→Prop
def frs (l:List Env):List Addr:=l.filterMap (·.frame)
abbrev Cx.fs (X:Cx):List Addr:=frs X.outer
def Vis (sc:Scope) (x:Str):Prop:=sc.names.lookup x=some .local∨sc.names.lookup x=some .cell∨sc.names.lookup x=some .free
def Loc (sc:Scope) (x:Str):Prop:=sc.names.lookup x=some .local∨sc.names.lookup x=some .cell
def Look (env:Env) (h:Heap) (m:Str→Option Value) (x:Str) (u:Value):Prop :=
  (env.kindOf x=some .local∧m x=some u)∨((env.kindOf x=some .cell∨env.kindOf x=some .free)∧∃ c,env.cells.lookup x=some c∧h.IsCell c (some u))
structure Cx.Ok (X:Cx):Prop where
  mod:Mod X.K X.mg X.base
  kind:X.env.scope.kind=.function
  glob:X.env.globals=mainGlobals
  blt:X.env.builtins=builtinsNs
  above:X.s₀.heap.objs.size≤X.env.locals
  inj:∀ x y c,X.env.cells.lookup x=some c→X.env.cells.lookup y=some c→x=y
  has:∀ x,(X.env.kindOf x=some .cell∨X.env.kindOf x=some .free)→∃ c,X.env.cells.lookup x=some c
  cab:∀ x c,X.fn x=true→X.env.cells.lookup x=some c→X.s₀.heap.objs.size≤c
  hd:X.calm=true→X.A.handled=none
  frames:X.A.frames=some X.stack
  stk:X.stack=X.outer∨(X.stack=X.env::X.outer∧X.env.frame=some X.env.locals)
  exf:∀ b∈X.ex,b≠X.env.locals∧∀ x c,X.env.cells.lookup x=some c→c≠b
  bs:∀ b o,X.base.get? b=some o→X.s₀.heap.get? b=some o∧X.H₀ b=none
  bsz:X.base.objs.size≤X.s₀.heap.objs.size
  noex:∀ b o,X.base.get? b=some o→b∉X.ex
  exfs:∀ b∈X.ex,b∉X.fs
  funs:X.s₀.heap.FunFrames X.base X.outer
  frf:∀ b∈X.fs,X.H₀ b=none
structure Inv (X:Cx) (pins:List (Addr×Obj)) (σ:List (Option V)) (H:Hp) (s:Shared):Prop where
  ok:X.Ok
  os:s.os=X.s₀.os
  bare:AllBare s.gens
  base:Un X.fs X.ex X.H₀ H X.s₀.heap s.heap
  loc:∃ m,s.heap.Ns X.env.locals m∧∀ (i:Nat) (x:Str) (v:V),X.N[i]?=some x→σ[i]?=some (some v)→Vis X.env.scope x→∃ u,RelV v u∧Look X.env s.heap m x u
  cell:∀ x c,X.env.cells.lookup x=some c→∃ v,s.heap.IsCell c v
  free:H X.env.locals=none
  freeC:∀ x c,X.env.cells.lookup x=some c→H c=none
  pin:∀ p∈X.pn++pins,s.heap.get? p.1=some p.2∧H p.1=none∧p.1≠X.env.locals∧p.1∉X.fs∧∀ v,p.2.data≠.cell v
  hok:HOk X.prog X.w H s.heap
  len:σ.length=X.N.length
section
variable {X:Cx} {pins:List (Addr×Obj)} {σ:List (Option V)} {H H':Hp} {s:Shared} {h':Heap}
theorem Cx.Ok.nofr (ok:X.Ok) {b:Addr} {o:Obj} (e:X.base.get? b=some o):b∉X.fs:=fun hb=>by
  have:=(ok.funs.mem hb).1
  rw [e] at this; cases this
theorem Inv.bs (I:Inv X pins σ H s):∀ b o,X.base.get? b=some o→s.heap.get? b=some o∧H b=none:=fun b o e =>
  ⟨I.base.keep b o (I.ok.bs b o e).1 (I.ok.bs b o e).2 (I.ok.nofr e) (I.ok.noex b o e),I.base.free b o (I.ok.bs b o e).1 (I.ok.bs b o e).2 (I.ok.noex b o e)⟩
theorem Inv.bk (I:Inv X pins σ H s):∀ b o,X.base.get? b=some o→s.heap.get? b=some o:=fun b o e=>(I.bs b o e).1
theorem Inv.mod (I:Inv X pins σ H s):Mod X.K X.mg X.base:=I.ok.mod
theorem Inv.kIn (I:Inv X pins σ H s):X.K.In s.heap:=I.ok.mod.kin.keeps I.bk
theorem Inv.fr (I:Inv X pins σ H s):∃ m,Fr X.base X.env.locals s.heap m :=
  let ⟨m,hn,_⟩:=I.loc
  ⟨m,hn,I.bk,Nat.le_trans I.ok.bsz I.ok.above⟩
theorem Inv.lt (I:Inv X pins σ H s):X.env.locals<s.heap.objs.size:=let ⟨_,hn,_⟩:=I.loc; hn.lt
theorem Inv.sz (I:Inv X pins σ H s):X.s₀.heap.objs.size≤s.heap.objs.size:=Nat.le_trans I.ok.above (Nat.le_of_lt I.lt)
theorem Inv.nofs (I:Inv X pins σ H s) {a:Addr} (h:s.heap.objs.size≤a):a∉X.fs:=fun hb=>by
  obtain ⟨_,o,ho,_⟩:=I.ok.funs.mem hb
  exact absurd (Nat.lt_of_lt_of_le (Heap.lt_size ho) (Nat.le_trans I.sz h)) (Nat.lt_irrefl _)
theorem Inv.cne (I:Inv X pins σ H s):∀ x c,X.env.cells.lookup x=some c→c≠X.env.locals:=fun x c e z=>by
  obtain ⟨v,o,ho,hd⟩:=I.cell x c e
  obtain ⟨m,⟨o',es,ep,ho',hd',_⟩,_⟩:=I.loc
  rw [z,ho'] at ho; cases ho; rw [hd'] at hd; cases hd
theorem Inv.funs (I:Inv X pins σ H s):s.heap.FunFrames X.base X.outer:=by
  have all:∀ (l:List Env),(∀ b∈frs l,b∈X.fs)→X.s₀.heap.FunFrames X.base l→s.heap.FunFrames X.base l:=by
    intro l
    induction l with
    | nil=>intro _ _; trivial
    | cons env r ih =>
      intro hs hl
      obtain ⟨hk,⟨L,o,hf,hn,ho,hd⟩,hr⟩:=hl
      have hL:L∈X.fs:=hs L (by unfold frs; rw [List.filterMap_cons,hf]; exact List.mem_cons_self)
      obtain ⟨sl,e⟩:=I.base.slot L o ho (I.ok.frf L hL) hL fun z=>I.ok.exfs L z hL
      exact ⟨hk,⟨L,_,hf,hn,e,hd⟩,ih (fun b hb=>hs b (by unfold frs; rw [List.filterMap_cons,hf]; exact List.mem_cons_of_mem _ hb)) hr⟩
  exact all X.outer (fun _ hb=>hb) I.ok.funs
theorem Inv.stack (I:Inv X pins σ H s):s.heap.FunFrames X.base X.stack:=by
  rcases I.ok.stk with e | ⟨e,hf⟩
  · rw [e]; exact I.funs
  · rw [e]
    obtain ⟨m,hn,_⟩:=I.loc
    refine .cons (by rw [I.ok.kind]; decide) hf hn ?_ I.funs
    exact Heap.get?_none_of_le (Nat.le_trans I.ok.bsz I.ok.above)
theorem Inv.stkSub (I:Inv X pins σ H s):∀ b∈frs X.stack,b∈X.env.locals::X.fs:=fun b hb=>by
  rcases I.ok.stk with e | ⟨e,hf⟩
  · rw [e] at hb; exact List.mem_cons_of_mem _ hb
  · rw [e] at hb
    unfold frs at hb
    rw [List.filterMap_cons,hf] at hb
    exact hb
theorem Inv.stkFree (I:Inv X pins σ H s):∀ b∈frs X.stack,H b=none:=fun b hb=>by
  rcases List.mem_cons.mp (I.stkSub b hb) with e | hb
  · rw [e]; exact I.free
  · obtain ⟨_,o,ho,_⟩:=I.ok.funs.mem hb
    exact I.base.free b o ho (I.ok.frf b hb) fun z=>I.ok.exfs b z hb
theorem Inv.step {g':Array GenState} {t':Nat} {d':Drawn} {ch:List Addr} (I:Inv X pins σ H s)
    (hch:∀ b∈ch,(b∈X.ex∨X.s₀.heap.objs.size≤b)∧b≠X.env.locals∧(∀ x c,X.env.cells.lookup x=some c→c≠b)∧∀ p∈X.pn++pins,p.1≠b)
    (keep:∀ b o,b≠X.env.locals→b∉X.fs→b∉ch→s.heap.get? b=some o→H b=none→h'.get? b=some o)
    (slot:∀ b o,b≠X.env.locals→b∈X.fs→b∉ch→s.heap.get? b=some o→H b=none→∃ sl,h'.get? b=some { o with slots:=sl }) (free:∀ b o,b∉ch→s.heap.get? b=some o→H b=none→H' b=none)
    (there:∀ b o,b∉ch→s.heap.get? b=some o→∃ o',h'.get? b=some o')
    (tups:∀ b xs,H b=some (.tup xs)→H' b=some (.tup xs)) (frzs:∀ b o u,H b=some (.frz o u)→H' b=some (.frz o u)) (tbls:∀ b ps,H b=some (.tbl ps)→∃ more,H' b=some (.tbl (ps++more)))
    (ns:∀ m,s.heap.Ns X.env.locals m→h'.Ns X.env.locals m) (hok:HOk X.prog X.w H' h') (hg:AllBare g') :
    Inv X pins σ H' { s with heap:=h',gens:=g',drawn:=d',toks:=t' }:=by
  have neL:∀ b o,X.s₀.heap.get? b=some o→b≠X.env.locals:=fun b o e=>Nat.ne_of_lt (Nat.lt_of_lt_of_le (Heap.lt_size e) I.ok.above)
  have neC:∀ b o,X.s₀.heap.get? b=some o→b∉X.ex→b∉ch:=fun b o e hx hb=>by
    rcases (hch b hb).1 with z | z
    · exact hx z
    · exact absurd (Nat.lt_of_lt_of_le (Heap.lt_size e) z) (Nat.lt_irrefl _)
  have cellK:∀ x c,X.env.cells.lookup x=some c→∀ v,s.heap.IsCell c v→h'.IsCell c v:=fun x c e v ⟨o,ho,hd⟩=>by
    have nch:c∉ch:=fun z=>(hch c z).2.2.1 x c e rfl
    by_cases hc:c∈X.fs
    · obtain ⟨sl,q⟩:=slot c o (I.cne x c e) hc nch ho (I.freeC x c e)
      exact ⟨_,q,hd⟩
    · exact ⟨o,keep c o (I.cne x c e) hc nch ho (I.freeC x c e),hd⟩
  refine ⟨I.ok,I.os,hg,⟨fun b o e n hb hx=>?_,fun b o e n hb hx=>?_,fun b o e n hx=>?_,fun b o e hx=>?_,fun b xs e=>tups b xs (I.base.tups b xs e),fun b o xs e=>frzs b o xs (I.base.frzs b o xs e),fun b ps e=>?_⟩,?_,fun x c e=>?_,?_,fun x c e=>?_,fun p hp=>?_,hok,I.len⟩
  · exact keep b o (neL b o e) hb (neC b o e hx) (I.base.keep b o e n hb hx) (I.base.free b o e n hx)
  · obtain ⟨sl,e1⟩:=I.base.slot b o e n hb hx
    obtain ⟨sl',e2⟩:=slot b _ (neL b o e) hb (neC b o e hx) e1 (I.base.free b o e n hx)
    exact ⟨sl',e2⟩
  · obtain ⟨o',e1⟩:=I.base.there b o e hx
    exact free b o' (neC b o e hx) e1 (I.base.free b o e n hx)
  · obtain ⟨o',e1⟩:=I.base.there b o e hx
    exact there b o' (neC b o e hx) e1
  · obtain ⟨m1,e1⟩:=I.base.tbls b ps e
    obtain ⟨m2,e2⟩:=tbls b _ e1
    exact ⟨m1++m2,by rw [e2,Array.append_assoc]⟩
  · obtain ⟨m,hn,hl⟩:=I.loc
    refine ⟨m,ns m hn,fun i x v e1 e2 e3=>?_⟩
    obtain ⟨u,r,l⟩:=hl i x v e1 e2 e3
    refine ⟨u,r,?_⟩
    rcases l with l | ⟨k,c,e,z⟩
    · exact .inl l
    · exact .inr ⟨k,c,e,cellK x c e _ z⟩
  · obtain ⟨v,z⟩:=I.cell x c e
    exact ⟨v,cellK x c e v z⟩
  · obtain ⟨m,⟨o,_,_,ho,_⟩,_⟩:=I.loc
    exact free _ o (fun z=>(hch _ z).2.1 rfl) ho I.free
  · obtain ⟨v,o,ho,hd⟩:=I.cell x c e
    exact free c o (fun z=>(hch c z).2.2.1 x c e rfl) ho (I.freeC x c e)
  · obtain ⟨e,n,ne,nf,d⟩:=I.pin p hp
    have nch:p.1∉ch:=fun z=>(hch p.1 z).2.2.2 p hp rfl
    exact ⟨keep p.1 p.2 ne nf nch e n,free p.1 p.2 nch e n,ne,nf,d⟩
theorem Inv.un {t':Nat} (I:Inv X pins σ H s) (u:Un X.fs [] H H' s.heap h') (hok:HOk X.prog X.w H' h'):Inv X pins σ H' { s with heap:=h',toks:=t' }:=by
  obtain ⟨m,⟨o,es,ep,ho,r⟩,_⟩:=id I.loc
  obtain ⟨sl,hL⟩:=u.any ho I.free (by simp)
  exact I.step (g':=s.gens) (d':=s.drawn) (ch:=[]) (fun _ z=>nomatch z) (fun b o _ hb _ e n=>u.keep b o e n hb (by simp)) (fun b o _ hb _ e n=>u.slot b o e n hb (by simp)) (fun b o _ e n=>u.free b o e n (by simp)) (fun b o _ e=>u.there b o e (by simp)) u.tups u.frzs u.tbls (fun m' hm=>by
    obtain ⟨o',es',ep',ho',r'⟩:=hm
    rw [ho] at ho'; cases ho'
    exact ⟨_,es',ep',hL,r'⟩) hok I.bare
theorem Inv.call {g':Array GenState} {t':Nat} {d':Drawn} {ch:List Addr} (I:Inv X pins σ H s) (u:Un (frs X.stack) ch H H' s.heap h') (hok:HOk X.prog X.w H' h') (hg:AllBare g')
    (hch:∀ b∈ch,(b∈X.ex∨X.s₀.heap.objs.size≤b)∧b≠X.env.locals∧(∀ x c,X.env.cells.lookup x=some c→c≠b)∧∀ p∈X.pn++pins,p.1≠b) :
    Inv X pins σ H' { s with heap:=h',gens:=g',drawn:=d',toks:=t' }:=by
  obtain ⟨m,⟨o,es,ep,ho,r⟩,_⟩:=id I.loc
  obtain ⟨sl,hL⟩:=u.any ho I.free fun z=>(hch _ z).2.1 rfl
  exact I.step (ch:=ch) hch (fun b o hL hb hc e n=>u.keep b o e n (fun z=>(List.mem_cons.mp (I.stkSub b z)).elim hL hb) hc) (fun b o _ _ hc e n=>u.any e n hc) (fun b o hc e n=>u.free b o e n hc) (fun b o hc e=>u.there b o e hc) u.tups u.frzs u.tbls (fun m' hm=>by
    obtain ⟨o',es',ep',ho',r'⟩:=hm
    rw [ho] at ho'; cases ho'
    exact ⟨_,es',ep',hL,r'⟩) hok hg
theorem Inv.turned {t':Nat} {it:Addr} (I:Inv X pins σ H s) (k:∀ b o,b≠it→s.heap.get? b=some o→h'.get? b=some o) (hn:H it=none) (hL:it≠X.env.locals)
    (h1:it∈X.ex∨X.s₀.heap.objs.size≤it) (h2:∀ x c,X.env.cells.lookup x=some c→c≠it) (h3:∀ p∈X.pn++pins,p.1≠it):Inv X pins σ H { s with heap:=h',toks:=t' }:=by
  have nit:∀ b u,H b=some u→b≠it:=fun b u e z=>by rw [z,hn] at e; cases e
  refine I.step (g':=s.gens) (d':=s.drawn) (ch:=[it]) (fun b hb=>?_) (fun b o _ _ hc e _=>k b o (fun z=>hc (by simp [z])) e) (fun b o _ _ hc e _=>⟨o.slots,k b o (fun z=>hc (by simp [z])) e⟩) (fun _ _ _ _ n=>n)
    (fun b o hc e=>⟨o,k b o (fun z=>hc (by simp [z])) e⟩) (fun _ _ e=>e) (fun _ _ _ e=>e) (fun b ps e=>⟨#[],by rw [e]; simp⟩) (fun m hm=>?_) (fun b u e=>?_) I.bare
  · have e:b=it:=by simpa using hb
    subst e
    exact ⟨h1,hL,h2,h3⟩
  · obtain ⟨o,es,ep,ho,r⟩:=hm
    exact ⟨o,es,ep,k _ o (Ne.symm hL) ho,r⟩
  · refine (I.hok b u e).stay (fun c v hc q=>k c v ?_ q) (fun _ q=>q) fun _ _ q=>q
    rcases hc with z | z
    · rw [z]; exact nit b u e
    · exact nit c _ z
theorem Inv.tok (I:Inv X pins σ H s) (t:Nat):Inv X pins σ H { s with toks:=t }:=I.un (h':=s.heap) (t':=t) Un.refl I.hok
theorem Inv.kept {t':Nat} (I:Inv X pins σ H s) (k:∀ b u,s.heap.get? b=some u→h'.get? b=some u):Inv X pins σ H { s with heap:=h',toks:=t' }:=I.un (Un.kept k) (I.hok.kept k)
theorem Inv.laid {a:Addr} {o:HO} {t':Nat} (I:Inv X pins σ H s) (k:∀ b u,s.heap.get? b=some u→h'.get? b=some u) (hp:s.heap.objs.size≤a) (new:ObjOk X.prog X.w (upd H a o) h' a o) :
    Inv X pins σ (upd H a o) { s with heap:=h',toks:=t' }:=I.un (Un.laid k hp (I.hok.fresh hp)) (I.hok.laid k hp new)
theorem Inv.write {x e:Addr} {o:HO} {t':Nat} (I:Inv X pins σ H s) (mu:Mut (H x)) (he:e=x∨H e=some (.own x)) (k:∀ b u,b≠e→s.heap.get? b=some u→h'.get? b=some u) (heo:∃ u,h'.get? e=some u)
    (new:ObjOk X.prog X.w (upd H x o) h' x o):Inv X pins σ (upd H x o) { s with heap:=h',toks:=t' }:=I.un (Un.write mu he k heo) (I.hok.write mu he k heo new)
theorem Inv.weak {σ':List (Option V)} (I:Inv X pins σ H s) (hl:σ'.length=σ.length) (w:∀ (i:Nat) v,σ'[i]?=some (some v)→σ[i]?=some (some v)):Inv X pins σ' H s :=
  ⟨I.ok,I.os,I.bare,I.base,let ⟨m,hn,hl'⟩:=I.loc; ⟨m,hn,fun i x v e1 e2 e3=>hl' i x v e1 (w i v e2) e3⟩,I.cell,I.free,I.freeC,I.pin,I.hok,hl.trans I.len⟩
theorem Inv.pins_of {pins':List (Addr×Obj)} (I:Inv X pins σ H s) (h:∀ p∈pins',s.heap.get? p.1=some p.2∧H p.1=none∧p.1≠X.env.locals∧p.1∉X.fs∧∀ v,p.2.data≠.cell v):Inv X pins' σ H s :=
  ⟨I.ok,I.os,I.bare,I.base,I.loc,I.cell,I.free,I.freeC,fun p hp=>(List.mem_append.mp hp).elim (fun z=>I.pin p (List.mem_append_left _ z)) (h p),I.hok,I.len⟩
theorem nodup_ix {N:List Str} (hN:N.Nodup) {i j:Nat} {x:Str} (a:N[i]?=some x) (b:N[j]?=some x):i=j:=by
  obtain ⟨h1,e1⟩:=List.getElem?_eq_some_iff.mp a
  obtain ⟨h2,e2⟩:=List.getElem?_eq_some_iff.mp b
  exact (List.getElem_inj hN).mp (e1.trans e2.symm)
theorem store_ok2 {M:Model} {A:Around} {E:Value→Shared→Prop} {i:Nat} {x:Str} {v:V} {u:Value} {Q:Unit→Shared→Prop} (I:Inv X pins σ H s) (hN:X.N.Nodup) (hi:X.N[i]?=some x) (hx:Loc X.env.scope x) (r:RelV v u)
    (h:∀ s',Inv X pins (σ.set i (some v)) H s'→(∃ a,Heap.SameBut a s.heap s'.heap∧(a=X.env.locals∨X.env.cells.lookup x=some a))→Q () s') (hf:X.fn x=true∨X.env.scope.names.lookup x=some .local:=by first | exact .inl rfl | exact .inr rfl | assumption):wpAny M A (storeName X.env x u) Q E s:=by
  obtain ⟨m,hn,hl⟩:=id I.loc
  have hcls:(X.env.scope.kind == .class || (X.env.scope.kind == .module && X.env.locals != X.env.globals))=false:=by rw [I.ok.kind]; rfl
  have hiσ:i<σ.length:=by rw [I.len]; exact (List.getElem?_eq_some_iff.mp hi).1
  have cne:=I.cne
  have tracked:∀ {a:Addr} {h':Heap},(∃ o,s.heap.get? a=some o∧H a=none)→Heap.SameBut a s.heap h'→HOk X.prog X.w H h':=fun {a h'} ha hs b ob e=>by
    obtain ⟨_,_,hfree⟩:=ha
    refine (I.hok b ob e).stay (fun c w' hc q=>(hs.2 c ?_).trans q) (fun _ q=>q) fun _ _ q=>q
    rintro rfl
    rcases hc with rfl | hc
    · rw [hfree] at e; cases e
    · rw [hfree] at hc; cases hc
  rcases hx with hk | hk
  · refine wpAny_storeName_local hk hn (fun h' hn' hs=>?_) hcls
    obtain ⟨oL,_,_,hoL,_⟩:=id hn
    refine h _ ⟨I.ok,I.os,I.bare,⟨fun b o e n hb hx=>?_,fun b o e n hb hx=>?_,I.base.free,fun b o e hx=>?_,I.base.tups,I.base.frzs,I.base.tbls⟩,⟨_,hn',fun j y v' e1 e2 e3=>?_⟩,fun y c e=>?_,I.free,I.freeC,fun p hp=>?_,tracked ⟨oL,hoL,I.free⟩ hs,by simpa using I.len⟩ ⟨_,hs,.inl rfl⟩
    · exact (hs.2 b (Nat.ne_of_lt (Nat.lt_of_lt_of_le (Heap.lt_size e) I.ok.above))).trans (I.base.keep b o e n hb hx)
    · obtain ⟨sl,e1⟩:=I.base.slot b o e n hb hx
      exact ⟨sl,(hs.2 b (Nat.ne_of_lt (Nat.lt_of_lt_of_le (Heap.lt_size e) I.ok.above))).trans e1⟩
    · obtain ⟨o',e1⟩:=I.base.there b o e hx
      exact ⟨o',(hs.2 b (Nat.ne_of_lt (Nat.lt_of_lt_of_le (Heap.lt_size e) I.ok.above))).trans e1⟩
    · by_cases hj:j=i
      · subst hj
        rw [hi] at e1; cases e1
        rw [List.getElem?_set_self hiσ] at e2
        cases e2
        exact ⟨u,r,.inl ⟨hk,by simp⟩⟩
      · rw [List.getElem?_set_ne (Ne.symm hj)] at e2
        obtain ⟨u',r',q⟩:=hl j y v' e1 e2 e3
        refine ⟨u',r',?_⟩
        rcases q with ⟨k,e⟩ | ⟨k,c,e,z⟩
        · refine .inl ⟨k,?_⟩
          have:y≠x:=fun e=>hj (nodup_ix hN e1 (e▸hi))
          simp [this,e]
        · exact .inr ⟨k,c,e,z.sameBut hs (cne y c e)⟩
    · obtain ⟨w',z⟩:=I.cell y c e
      exact ⟨w',z.sameBut hs (cne y c e)⟩
    · obtain ⟨e,n,ne,nf,d⟩:=I.pin p hp
      exact ⟨(hs.2 p.1 ne).trans e,n,ne,nf,d⟩
  · have hfn:X.fn x=true:=by
      rcases hf with z | z
      · exact z
      · rw [z] at hk; cases hk
    obtain ⟨c,hc⟩:=I.ok.has x (.inl hk)
    obtain ⟨w',z⟩:=I.cell x c hc
    refine wpAny_storeName_cell I.ok.kind hk hc z (fun h' hc' hs=>?_)
    obtain ⟨oc,hoc,hocd⟩:=id z
    refine h { s with heap:=h' } ⟨I.ok,I.os,I.bare,⟨fun b o e n hb hx=>?_,fun b o e n hb hx=>?_,I.base.free,fun b o e hx=>?_,I.base.tups,I.base.frzs,I.base.tbls⟩,⟨m,hn.sameBut hs (Ne.symm (cne x c hc)),fun j y v' e1 e2 e3=>?_⟩,fun y c' e=>?_,I.free,I.freeC,fun p hp=>?_,tracked ⟨oc,hoc,I.freeC x c hc⟩ hs,by simpa using I.len⟩ ⟨c,hs,.inr hc⟩
    · exact (hs.2 b (Nat.ne_of_lt (Nat.lt_of_lt_of_le (Heap.lt_size e) (I.ok.cab x c hfn hc)))).trans (I.base.keep b o e n hb hx)
    · obtain ⟨sl,e1⟩:=I.base.slot b o e n hb hx
      exact ⟨sl,(hs.2 b (Nat.ne_of_lt (Nat.lt_of_lt_of_le (Heap.lt_size e) (I.ok.cab x c hfn hc)))).trans e1⟩
    · obtain ⟨o',e1⟩:=I.base.there b o e hx
      exact ⟨o',(hs.2 b (Nat.ne_of_lt (Nat.lt_of_lt_of_le (Heap.lt_size e) (I.ok.cab x c hfn hc)))).trans e1⟩
    · by_cases hj:j=i
      · subst hj
        rw [hi] at e1; cases e1
        rw [List.getElem?_set_self hiσ] at e2
        cases e2
        exact ⟨u,r,.inr ⟨.inl hk,c,hc,hc'⟩⟩
      · rw [List.getElem?_set_ne (Ne.symm hj)] at e2
        obtain ⟨u',r',q⟩:=hl j y v' e1 e2 e3
        refine ⟨u',r',?_⟩
        rcases q with q | ⟨k,c',e,z'⟩
        · exact .inl q
        · refine .inr ⟨k,c',e,z'.sameBut hs ?_⟩
          rintro rfl
          exact hj (nodup_ix hN e1 (I.ok.inj _ _ _ e hc▸hi))
    · by_cases hcc:c'=c
      · subst hcc; exact ⟨_,hc'⟩
      · obtain ⟨w2,z2⟩:=I.cell y c' e
        exact ⟨w2,z2.sameBut hs hcc⟩
    · obtain ⟨e,n,ne,nf,d⟩:=I.pin p hp
      refine ⟨(hs.2 p.1 ?_).trans e,n,ne,nf,d⟩
      intro q
      rw [q,hoc] at e
      have q':oc=p.2:=Option.some.inj e
      exact d w' (by rw [← q']; exact hocd)
theorem store_ok {M:Model} {A:Around} {E:Value→Shared→Prop} {i:Nat} {x:Str} {v:V} {u:Value} {Q:Unit→Shared→Prop} (I:Inv X pins σ H s) (hN:X.N.Nodup) (hi:X.N[i]?=some x) (hx:Loc X.env.scope x) (r:RelV v u)
    (h:∀ s',Inv X pins (σ.set i (some v)) H s'→Q () s') (hf:X.fn x=true∨X.env.scope.names.lookup x=some .local:=by first | exact .inl rfl | exact .inr rfl | assumption):wpAny M A (storeName X.env x u) Q E s :=
  store_ok2 I hN hi hx r (fun s' I' _=>h s' I') hf
theorem Inv.call' {s':Shared} {ch:List Addr} (I:Inv X pins σ H s) (ho:s'.os=s.os) (u:Un (frs X.stack) ch H H' s.heap s'.heap) (hok:HOk X.prog X.w H' s'.heap) (hg:AllBare s'.gens)
    (hch:∀ b∈ch,(b∈X.ex∨X.s₀.heap.objs.size≤b)∧b≠X.env.locals∧(∀ x c,X.env.cells.lookup x=some c→c≠b)∧∀ p∈X.pn++pins,p.1≠b):Inv X pins σ H' s':=by
  obtain ⟨h',g',d',t',o'⟩:=s'
  have e:o'=s.os:=ho
  subst e
  exact I.call (g':=g') (t':=t') (d':=d') u hok hg hch
end
abbrev XK:=Value→Option Addr→Hp→Prop
abbrev St:=List (Option V)
abbrev VK:=V→Hp→Prop
abbrev TE:=St→Hp→VK→Prop
abbrev TT:=St→Hp→(Bool→Hp→Prop)→Prop
abbrev TA:=St→Hp→(List V→Hp→Prop)→Prop
structure Ends where
  nx:St→Hp→Prop
  rt:VK
  bk:St→Hp→Prop:=fun _ _=>False
  ct:St→Hp→Prop:=fun _ _=>False
abbrev TS:=Ends→St→Hp→Prop
def EP (X:Cx) (pins:List (Addr×Obj)) (σ:St) (Q:VK) (u:Value) (s':Shared):Prop:=∃ v H',Inv X pins σ H' s'∧RelV v u∧Q v H'
def TP (X:Cx) (pins:List (Addr×Obj)) (σ:St) (Q:Bool→Hp→Prop) (b:Bool) (s':Shared):Prop:=∃ H',Inv X pins σ H' s'∧Q b H'
def AP (X:Cx) (pins:List (Addr×Obj)) (σ:St) (Q:List V→Hp→Prop) (us:List Value) (s':Shared):Prop:=∃ vs H',Inv X pins σ H' s'∧Vals vs us∧Q vs H'
def SP (X:Cx) (pins:List (Addr×Obj)) (D:Ends) (f:Flow) (s':Shared):Prop :=
  match f with
  | .next=>∃ σ' H',Inv X pins σ' H' s'∧D.nx σ' H'
  | .brk=>∃ σ' H',Inv X pins σ' H' s'∧D.bk σ' H'
  | .cont=>∃ σ' H',Inv X pins σ' H' s'∧D.ct σ' H'
  | .ret u=>∃ v σ' H',Inv X pins σ' H' s'∧RelV v u∧D.rt v H'
def PE (X:Cx) (e:Expr) (t:TE):Prop :=
  ∀ (pins:List (Addr×Obj)) (s:Shared) (σ:St) (H:Hp) (Q:VK),Inv X pins σ H s→t σ H Q→wpAny (model X.prog X.w) X.A (eval e X.env) (EP X pins σ Q) X.xe s
def PT (X:Cx) (e:Expr) (t:TT):Prop :=
  ∀ (pins:List (Addr×Obj)) (s:Shared) (σ:St) (H:Hp) (Q:Bool→Hp→Prop),Inv X pins σ H s→t σ H Q→wpAny (model X.prog X.w) X.A (isTrue e X.env (eval e X.env)) (TP X pins σ Q) X.xe s
def PW (X:Cx) (e:Expr) (t:TT):Prop :=
  ∀ (whole:Sem Value) (pins:List (Addr×Obj)) (s:Shared) (σ:St) (H:Hp) (Q:Bool→Hp→Prop),Inv X pins σ H s→t σ H Q→wpAny (model X.prog X.w) X.A (isTrue e X.env whole) (TP X pins σ Q) X.xe s
theorem PW.pt {X:Cx} {e:Expr} {t:TT} (h:PW X e t):PT X e t:=h _
def PA (X:Cx) (es:List Expr) (t:TA):Prop :=
  ∀ (pos:Pos) (pins:List (Addr×Obj)) (s:Shared) (σ:St) (H:Hp) (Q:List V→Hp→Prop),Inv X pins σ H s→t σ H Q→wpAny (model X.prog X.w) X.A (spliced (backTo pos (starEach es X.env))) (AP X pins σ Q) X.xe s
def PS (X:Cx) (st:Stmt) (t:TS):Prop :=
  ∀ (pins:List (Addr×Obj)) (s:Shared) (σ:St) (H:Hp) (D:Ends),Inv X pins σ H s→t D σ H→wpAny (model X.prog X.w) X.A (exec st X.env) (SP X pins D) X.xe s
def PSs (X:Cx) (st:List Stmt) (t:TS):Prop :=
  ∀ (pins:List (Addr×Obj)) (s:Shared) (σ:St) (H:Hp) (D:Ends),Inv X pins σ H s→t D σ H→wpAny (model X.prog X.w) X.A (execs st X.env) (SP X pins D) X.xe s
theorem thn {α:Type} {t:Sem α} {Q Q':α→Shared→Prop} {M:Model} {A:Around} {E:Value→Shared→Prop} {s:Shared} (h:wpAny M A t Q E s) (hQ:∀ a s,Q a s→Q' a s):wpAny M A t Q' E s:=wpAny_mono h hQ fun _ _ x=>x
end L2
namespace L2
open PySem PySem.Spec PyProof.Rows
section
variable {X:Cx}
theorem bin {a b:Expr} {ta tb:TE} (ha:PE X a ta) (hb:PE X b tb) {pins:List (Addr×Obj)} {s:Shared} {σ:St} {H:Hp} {R:V→V→Hp→Prop} (I:Inv X pins σ H s) (h:ta σ H fun x H1=>tb σ H1 fun y H2=>R x y H2)
    {α:Type} {Q:α→Shared→Prop} {f:Value→Value→Sem α}
    (hf:∀ v u s2 x y H2,Inv X pins σ H2 s2→RelV x v→RelV y u→R x y H2→wpAny (model X.prog X.w) X.A (f v u) Q X.xe s2) :
    wpAny (model X.prog X.w) X.A (eval a X.env) (fun v s₁=>wpAny (model X.prog X.w) X.A (eval b X.env) (fun u s₂=>wpAny (model X.prog X.w) X.A (f v u) Q X.xe s₂) X.xe s₁) X.xe s:=by
  refine thn (ha pins s σ H _ I h) fun v s1 ⟨x,H1,I1,r1,q1⟩=>?_
  refine thn (hb pins s1 σ H1 _ I1 q1) fun u s2 ⟨y,H2,I2,r2,q2⟩=>?_
  exact hf v u s2 x y H2 I2 r1 r2 q2
def tVar (i:Nat):TE:=fun σ H Q=>∃ v,σ[i]?=some (some v)∧Q v H
def tC (v:V):TE:=fun _ H Q=>Q v H
theorem pe_var {i:Nat} {x:Str} {pos:Pos} (hN:X.N[i]?=some x) (hv:Vis X.env.scope x) (hd:(x == ("__debug__":Str))=false:=by decide) (hcd:(x == ("__classdict__":Str))=false:=by decide):PE X (.Name x pos) (tVar i):=by
  intro pins s σ H Q I h
  obtain ⟨v,e,h⟩:=h
  obtain ⟨m,hn,hl⟩:=I.loc
  obtain ⟨u,r,l⟩:=hl i x v hN e hv
  have fin:EP X pins σ Q u s:=⟨v,H,I,r,h⟩
  rcases l with ⟨hk,hm⟩ | ⟨hk,c,hc,hcell⟩
  · exact wpAny_Name (wpAny_loadName_local I.ok.kind hk hn hm fin) hd
  · rcases hk with hk | hk
    · exact wpAny_Name (wpAny_loadName_cell I.ok.kind hk hc hcell fin) hd
    · exact wpAny_Name (wpAny_loadName_free I.ok.kind hk hc hcell fin hcd) hd
theorem pe_int {i j pos}:PE X (.Constant (.int i) j pos) (tC (.int i)):=fun _ _ _ H _ I h=>wpAny_Constant_int ⟨.int i,H,I.tok _,⟨_,rfl⟩,h⟩
theorem pe_bl {b j pos}:PE X (.Constant (.bool b) j pos) (tC (.bl b)):=fun _ _ _ H _ I h=>Constant_bool ⟨.bl b,H,I,rfl,h⟩
theorem pe_non {j pos}:PE X (.Constant .none j pos) (tC .non):=fun _ _ _ H _ I h=>Constant_none ⟨.non,H,I,rfl,h⟩
theorem pe_str {x j pos}:PE X (.Constant (.str x) j pos) (tC (.str x)):=fun _ _ _ H _ I h=>Calls.Constant_str ⟨.str x,H,I.tok _,⟨_,rfl⟩,h⟩
def Gl (X:Cx) (x:Str):Prop:=X.env.kindOf x=some .globalImplicit
theorem ld_glob {E:Value→Shared→Prop} {pins:List (Addr×Obj)} {s:Shared} {σ:St} {H:Hp} {x:Str} {u:Value} {pos:Pos} {Q:Value→Shared→Prop} (I:Inv X pins σ H s) (hg:Gl X x) (hm:X.mg x=some u) (h:Q u s)
    (hd:(x == ("__debug__":Str))=false:=by decide):wpAny (model X.prog X.w) X.A (eval (.Name x pos) X.env) Q E s :=
  Calls.Name_function_global I.ok.kind hg (Calls.loadGlobal_global (by rw [I.ok.glob]; exact I.mod.glob.keeps I.bk) hm h) hd
theorem ld_blt {E:Value→Shared→Prop} {pins:List (Addr×Obj)} {s:Shared} {σ:St} {H:Hp} {x:Str} {u:Value} {pos:Pos} {Q:Value→Shared→Prop} (I:Inv X pins σ H s) (hg:Gl X x) (hm:X.mg x=none) (hv:bootBuiltins x=some u) (h:Q u s)
    (hn:x≠"__name__":=by decide) (hd:(x == ("__debug__":Str))=false:=by decide):wpAny (model X.prog X.w) X.A (eval (.Name x pos) X.env) Q E s:=by
  obtain ⟨mb,h1,h2⟩:=I.mod.blt
  exact Calls.Name_function_global I.ok.kind hg (Calls.loadGlobal_builtin (by rw [I.ok.glob]; exact I.mod.glob.keeps I.bk) hm (by rw [I.ok.blt]; exact h1.keeps I.bk) ((h2 x hn).trans hv) h) hd
theorem pe_glob {x:Str} {v:V} {u:Value} {pos:Pos} (hg:Gl X x) (hm:X.mg x=some u) (r:RelV v u) (hd:(x == ("__debug__":Str))=false:=by decide):PE X (.Name x pos) (tC v) :=
  fun _ _ _ H _ I h=>ld_glob I hg hm ⟨v,H,I,r,h⟩ hd
theorem pe_bltn {x:Str} {v:V} {u:Value} {pos:Pos} (hg:Gl X x) (hm:X.mg x=none) (hv:bootBuiltins x=some u) (r:RelV v u) (hn:x≠"__name__":=by decide) (hd:(x == ("__debug__":Str))=false:=by decide):PE X (.Name x pos) (tC v) :=
  fun _ _ _ H _ I h=>ld_blt I hg hm hv ⟨v,H,I,r,h⟩ hn hd
def t2I (ta tb:TE) (k:Int→Int→Hp→Prop):St→Hp→Prop:=fun σ H=>ta σ H fun x H1=>tb σ H1 fun y H2=>∃ i j,x=.int i∧y=.int j∧k i j H2
def tAdd (ta tb:TE):TE:=fun σ H Q=>t2I ta tb (fun i j H2=>Q (.int (i+j)) H2) σ H
def tSub (ta tb:TE):TE:=fun σ H Q=>t2I ta tb (fun i j H2=>Q (.int (i - j)) H2) σ H
def tMul (ta tb:TE):TE:=fun σ H Q=>t2I ta tb (fun i j H2=>(-(2 ^ 64)<i∧i<2 ^ 64)∧Q (.int (i * j)) H2) σ H
variable {a b:Expr} {ta tb:TE} {pos:Pos}
def PC (X:Cx) (op:CmpOp) (a b:Expr) (t:TE):Prop :=
  ∀ (pins:List (Addr×Obj)) (s:Shared) (σ:St) (H:Hp) (Q:VK),Inv X pins σ H s→t σ H Q→
    wpAny (model X.prog X.w) X.A (eval a X.env) (fun v s₁=>wpAny (model X.prog X.w) X.A (eval b X.env) (fun u s₂=>wpAny (model X.prog X.w) X.A (compareOp op v u) (EP X pins σ Q) X.xe s₂) X.xe s₁) X.xe s
def tCmp (p:Int→Int→Bool) (ta tb:TE):TE:=fun σ H Q=>t2I ta tb (fun i j H2=>Q (.bl (p i j)) H2) σ H
abbrev tLt:TE→TE→TE:=tCmp fun i j=>decide (i<j)
abbrev tLe:TE→TE→TE:=tCmp fun i j=>decide (i≤j)
abbrev tGt:TE→TE→TE:=tCmp fun i j=>decide (j<i)
abbrev tGe:TE→TE→TE:=tCmp fun i j=>decide (j≤i)
abbrev tEqI:TE→TE→TE:=tCmp fun i j=>decide (i=j)
abbrev tNeI:TE→TE→TE:=tCmp fun i j=>!decide (i=j)
def tIsN (ta:TE):TE:=fun σ H Q=>ta σ H fun x H1=>Q (.bl (decide (x=.non))) H1
def tNotN (ta:TE):TE:=fun σ H Q=>ta σ H fun x H1=>Q (.bl (!decide (x=.non))) H1
def tB (t:TE):TT:=fun σ H Q=>t σ H fun x H1=>∃ c,x=.bl c∧Q c H1
theorem pt_cmp {op:CmpOp} {t:TE} (h:PC X op a b t) (h1:behindInMarks op b=false:=by first | exact nobehind _ (by decide) (by decide) | rfl):PT X (.Compare a [op] [b] pos) (tB t):=by
  intro pins s σ H Q I hw
  refine wpAny_isTrue_Compare1 (thn (h pins s σ H _ I hw) fun v s1 h1=>thn h1 fun u s2 h2=>thn h2 fun c s3 ⟨x,H1,I1,r1,q1⟩=>?_) h1
  obtain ⟨d,rfl,q⟩:=q1
  cases r1
  exact wpAny_truthy_bool ⟨H1,I1,q⟩
theorem pt_val {e:Expr} {t:TE} (h:PE X e t) (he:∀ whole,isTrue e X.env whole=(do let v ← whole; standAt e.pos; holding [v] (truthy v)):=by intro _; rfl):PT X e (tB t):=by
  intro pins s σ H Q I hw
  refine isTrue_plain (thn (h pins s σ H _ I hw) fun v s1 ⟨x,H1,I1,r1,q1⟩=>?_) (he _)
  obtain ⟨d,rfl,q⟩:=q1
  cases r1
  exact wpAny_truthy_bool ⟨H1,I1,q⟩
variable {tA tB':TT} {rest:List Expr}
def tAnd (t u:TT):TT:=fun σ H Q=>t σ H fun c H1=>if c=true then u σ H1 Q else Q false H1
def tOr (t u:TT):TT:=fun σ H Q=>t σ H fun c H1=>if c=true then Q true H1 else u σ H1 Q
def tNot (t:TT):TT:=fun σ H Q=>t σ H fun c H1=>Q (!c) H1
theorem pw_and1 (ha:PT X a tA):PW X (.BoolOp .And [a] pos) tA:=by
  intro wh pins s σ H Q I h
  refine isTrue_and (thn (ha pins s σ H Q I h) fun c s1 e=>?_)
  cases c with
  | true=>exact isTrue_and_nil e
  | false=>exact e
theorem pw_or1 (ha:PT X a tA):PW X (.BoolOp .Or [a] pos) tA:=by
  intro wh pins s σ H Q I h
  refine isTrue_or (thn (ha pins s σ H Q I h) fun c s1 e=>?_)
  cases c with
  | false=>exact isTrue_or_nil e
  | true=>exact e
theorem pw_and (ha:PT X a tA) (hb:PW X (.BoolOp .And (b::rest) pos) tB'):PW X (.BoolOp .And (a::b::rest) pos) (tAnd tA tB'):=by
  intro wh pins s σ H Q I h
  refine isTrue_and (thn (ha pins s σ H _ I h) fun c s1 ⟨H1,I1,q1⟩=>?_)
  cases c with
  | true=>exact hb wh pins s1 σ H1 Q I1 q1
  | false=>exact ⟨H1,I1,q1⟩
theorem pw_or (ha:PT X a tA) (hb:PW X (.BoolOp .Or (b::rest) pos) tB'):PW X (.BoolOp .Or (a::b::rest) pos) (tOr tA tB'):=by
  intro wh pins s σ H Q I h
  refine isTrue_or (thn (ha pins s σ H _ I h) fun c s1 ⟨H1,I1,q1⟩=>?_)
  cases c with
  | true=>exact ⟨H1,I1,q1⟩
  | false=>exact hb wh pins s1 σ H1 Q I1 q1
theorem pt_not (ha:PT X a tA):PT X (.UnaryOp .Not a pos) (tNot tA):=by
  intro pins s σ H Q I h
  exact isTrue_not (ha pins s σ H (fun c H1=>Q (!c) H1) I h)
def tAndV (ta tb:TE):TE:=fun σ H Q=>ta σ H fun x H1=>∃ c,x=.bl c∧if c=true then tb σ H1 Q else Q (.bl false) H1
def tOrV (ta tb:TE):TE:=fun σ H Q=>ta σ H fun x H1=>∃ c,x=.bl c∧if c=true then Q (.bl true) H1 else tb σ H1 Q
def tNotV (ta:TE):TE:=fun σ H Q=>ta σ H fun x H1=>∃ c,x=.bl c∧Q (.bl (!c)) H1
theorem pe_one {op} {t:TE} (h:PE X a t):PE X (.BoolOp op [a] pos) t:=fun pins s σ H Q I hw=>BoolOp_one (h pins s σ H Q I hw)
theorem pe_and (ha:PE X a ta) (hb:PE X (.BoolOp .And (b::rest) pos) tb):PE X (.BoolOp .And (a::b::rest) pos) (tAndV ta tb):=by
  intro pins s σ H Q I h
  refine BoolOp_and (thn (ha pins s σ H _ I h) fun v s1 ⟨x,H1,I1,r1,q1⟩=>?_)
  obtain ⟨c,rfl,q1⟩:=q1
  cases r1
  refine wpAny_truthy_bool ?_
  cases c with
  | true=>exact hb pins s1 σ H1 Q I1 q1
  | false=>exact ⟨.bl false,H1,I1,rfl,q1⟩
theorem pe_not (ha:PE X a ta):PE X (.UnaryOp .Not a pos) (tNotV ta):=by
  intro pins s σ H Q I h
  refine UnaryOp_ (thn (ha pins s σ H _ I h) fun v s1 ⟨x,H1,I1,r1,q1⟩=>?_)
  obtain ⟨c,rfl,q1⟩:=q1
  cases r1
  exact not_of (wpAny_truthy_bool ⟨.bl (!c),H1,I1,rfl,q1⟩)
def tIf (t:TT) (ta tb:TE):TE:=fun σ H Q=>t σ H fun c H1=>if c=true then ta σ H1 Q else tb σ H1 Q
theorem pe_ifExp {c:Expr} (hc:PT X c tA) (ha:PE X a ta) (hb:PE X b tb):PE X (.IfExp c a b pos) (tIf tA ta tb):=by
  intro pins s σ H Q I h
  refine wpAny_IfExp (thn (hc pins s σ H _ I h) fun d s1 ⟨H1,I1,q1⟩=>?_)
  cases d with
  | true=>exact ha pins s1 σ H1 Q I1 q1
  | false=>exact hb pins s1 σ H1 Q I1 q1
end
end L2
namespace L2
open PySem PySem.Spec PyProof.Rows
def SqL (K:PySem.W.Frag) (H:Hp) (a:Addr) (xs:List V):Prop :=
  Rd H a (.lst xs)∨
    ∃ (o:Obj) (its:Array Value) (n:Nat),K.lookup a=some o∧o.cls=.type "list"∧o.dict=none∧o.data=.seq its n∧its.size≤sizeLine∧Vals xs its.toList
def SqT (K:PySem.W.Frag) (H:Hp) (a:Addr) (xs:List V):Prop :=
  Rd H a (.tup xs)∨
    ∃ (o:Obj) (its:Array Value) (n:Nat),K.lookup a=some o∧o.cls=.type "tuple"∧o.data=.seq its n∧its.size≤sizeLine∧Vals xs its.toList
def absV:Value→Option V
  | .none=>some .non
  | .bool b=>some (.bl b)
  | .int i _=>some (.int i)
  | .str x _=>some (.str x)
  | .bytes b _=>some (.byt b)
  | .float b _=>some (.flt b)
  | .ref a=>some (.ref a)
  | .type n=>some (.ty n)
  | _=>none
theorem RelV.abs {x:V} {u:Value} (r:RelV x u):absV u=some x:=by
  cases x with
  | non=>cases r; rfl
  | bl _=>cases r; rfl
  | int _=>obtain ⟨t,rfl⟩:=r; rfl
  | str _=>obtain ⟨t,rfl⟩:=r; rfl
  | byt _=>obtain ⟨t,rfl⟩:=r; rfl
  | flt _=>obtain ⟨t,rfl⟩:=r; rfl
  | ref _=>cases r; rfl
  | ty _=>cases r; rfl
theorem RelV.inj {x y:V} {u:Value} (r:RelV x u) (q:RelV y u):x=y:=Option.some.inj (r.abs.symm.trans q.abs)
theorem Vals.inj:∀ {xs ys:List V} {us:List Value},Vals xs us→Vals ys us→xs=ys
  | _,_,_,.nil,.nil=>rfl
  | _,_,_,.cons r t,.cons r' t'=>by rw [r.inj r',Vals.inj t t']
section
variable {X:Cx} {pins:List (Addr×Obj)} {σ:St} {H:Hp} {s:Shared} {a:Addr} {xs ys:List V}
theorem SqL.of {K:PySem.W.Frag} (h:H a=some (.lst xs)):SqL K H a xs:=.inl (.inl h)
theorem SqT.of {K:PySem.W.Frag} (h:H a=some (.tup xs)):SqT K H a xs:=.inl (.inl h)
theorem Inv.list (I:Inv X pins σ H s) (h:SqL X.K H a xs):∃ its:List Value,Vals xs its∧PlainL s.heap a its.toArray∧xs.length≤sizeLine:=by
  rcases h with h | ⟨o,its,n,hk,hc,hd,hs,hz,r⟩
  · obtain ⟨z,its,n,r,e⟩:=h.ok I.hok
    exact ⟨its,r,⟨_,n,e,rfl,rfl,rfl⟩,z⟩
  · refine ⟨its.toList,r,⟨o,n,I.kIn a o hk,hc,hd,by simpa using hs⟩,?_⟩
    have e:=r.length
    simp only [Array.length_toList] at e
    omega
theorem Inv.tuple (I:Inv X pins σ H s) (h:SqT X.K H a xs):∃ its:List Value,Vals xs its∧IsTup s.heap a its.toArray∧xs.length≤sizeLine:=by
  rcases h with h | ⟨o,its,n,hk,hc,hs,hz,r⟩
  · obtain ⟨z,its,r,p⟩:=h.ok I.hok
    exact ⟨its,r,p,z⟩
  · refine ⟨its.toList,r,⟨o,I.kIn a o hk,hc,n,by simpa using hs⟩,?_⟩
    have e:=r.length
    simp only [Array.length_toList] at e
    omega
theorem Inv.list_inj (I:Inv X pins σ H s) (h:SqL X.K H a xs) (h':SqL X.K H a ys):xs=ys:=by
  obtain ⟨its,r,⟨o,n,e,_,_,d⟩,_⟩:=I.list h
  obtain ⟨its',r',⟨o',n',e',_,_,d'⟩,_⟩:=I.list h'
  rw [e] at e'; cases e'
  rw [d] at d'
  injection d' with d1 _
  have:its=its':=by simpa using congrArg Array.toList d1
  subst this
  exact r.inj r'
theorem Inv.tuple_inj (I:Inv X pins σ H s) (h:SqT X.K H a xs) (h':SqT X.K H a ys):xs=ys:=by
  obtain ⟨its,r,⟨o,e,_,n,d⟩,_⟩:=I.tuple h
  obtain ⟨its',r',⟨o',e',_,n',d'⟩,_⟩:=I.tuple h'
  rw [e] at e'; cases e'
  rw [d] at d'
  injection d' with d1 _
  have:its=its':=by simpa using congrArg Array.toList d1
  subst this
  exact r.inj r'
end
abbrev Cx.wish (X:Cx) (E:Value→Shared→Prop):Cx:={ X with xe:=E }
abbrev Cx.nox (X:Cx):Cx:=X.wish fun _ _=>False
theorem Cx.Ok.wish {X:Cx} (ok:X.Ok) (E:Value→Shared→Prop):(X.wish E).Ok :=
  ⟨ok.mod,ok.kind,ok.glob,ok.blt,ok.above,ok.inj,ok.has,ok.cab,ok.hd,ok.frames,ok.stk,ok.exf,ok.bs,ok.bsz,ok.noex,ok.exfs,ok.funs,ok.frf⟩
theorem Cx.Ok.unwish {X:Cx} {E:Value→Shared→Prop} (ok:(X.wish E).Ok):X.Ok :=
  ⟨ok.mod,ok.kind,ok.glob,ok.blt,ok.above,ok.inj,ok.has,ok.cab,ok.hd,ok.frames,ok.stk,ok.exf,ok.bs,ok.bsz,ok.noex,ok.exfs,ok.funs,ok.frf⟩
section
variable {X:Cx} {pins:List (Addr×Obj)} {σ:St} {H:Hp} {s:Shared} {E:Value→Shared→Prop}
theorem Inv.wish (I:Inv X pins σ H s) (E:Value→Shared→Prop):Inv (X.wish E) pins σ H s:=⟨I.ok.wish E,I.os,I.bare,I.base,I.loc,I.cell,I.free,I.freeC,I.pin,I.hok,I.len⟩
theorem Inv.unwish (I:Inv (X.wish E) pins σ H s):Inv X pins σ H s:=⟨I.ok.unwish,I.os,I.bare,I.base,I.loc,I.cell,I.free,I.freeC,I.pin,I.hok,I.len⟩
theorem SP.unwish {D:Ends} {f:Flow} {s':Shared} (h:SP (X.wish E) pins D f s'):SP X pins D f s':=by
  cases f with
  | next=>obtain ⟨σ',H',I,q⟩:=h; exact ⟨σ',H',I.unwish,q⟩
  | brk=>obtain ⟨σ',H',I,q⟩:=h; exact ⟨σ',H',I.unwish,q⟩
  | cont=>obtain ⟨σ',H',I,q⟩:=h; exact ⟨σ',H',I.unwish,q⟩
  | ret u=>obtain ⟨v,σ',H',I,r,q⟩:=h; exact ⟨v,σ',H',I.unwish,r,q⟩
theorem PSs.nox {st:List Stmt} {t:TS} (h:PSs X.nox st t):PSs X st t:=fun pins s σ H D I hw =>
  wpAny_mono (h pins s σ H D (I.wish _) hw) (fun _ _ q=>q.unwish) fun _ _ z=>False.elim z
end
section
variable {X:Cx} {st:Stmt} {rest:List Stmt} {t u:TS} {e:Expr} {te:TE} {pos:Pos}
def tNext:TS:=fun D σ H=>D.nx σ H
def tSeq (t u:TS):TS:=fun D σ H=>t { D with nx:=u D } σ H
theorem pss_nil:PSs X [] tNext:=fun _ _ σ H _ I h=>wpAny_execs_nil ⟨σ,H,I,h⟩
theorem pss_cons (h1:PS X st t) (h2:PSs X rest u):PSs X (st::rest) (tSeq t u):=by
  intro pins s σ H D I h
  refine wpAny_execs_cons (thn (h1 pins s σ H { D with nx:=u D } I h) fun f s1 q=>?_)
  cases f with
  | next =>
    obtain ⟨σ',H',I',q⟩:=q
    exact h2 pins s1 σ' H' D I' q
  | ret v=>exact q
  | brk=>exact q
  | cont=>exact q
theorem pss_one (h1:PS X st t):PSs X [st] t:=by
  intro pins s σ H D I h
  refine wpAny_execs_cons (thn (h1 pins s σ H D I h) fun f s1 q=>?_)
  cases f with
  | next=>exact wpAny_execs_nil q
  | ret v=>exact q
  | brk=>exact q
  | cont=>exact q
def tBreak:TS:=fun D σ H=>D.bk σ H
def tCont:TS:=fun D σ H=>D.ct σ H
theorem Inv.quiet {pins:List (Addr×Obj)} {σ:St} {H:Hp} {s:Shared} (I:Inv X pins σ H s):interactive X.env=false:=by simp [interactive,I.ok.kind]
def tDrop (te:TE):TS:=fun D σ H=>te σ H fun _ H1=>D.nx σ H1
theorem ps_expr (he:PE X e te) (hs:swapsWith e none pos.line X.env=pure false:=by rfl):PS X (.Expr e pos) (tDrop te):=by
  intro pins s σ H D I h
  exact wpAny_Expr_any (thn (he pins s σ H _ I h) fun v s1 ⟨x,H1,I1,r1,q1⟩=>⟨σ,H1,I1,q1⟩) I.quiet hs
def tRet (te:TE):TS:=fun D σ H=>te σ H D.rt
theorem ps_ret (he:PE X e te):PS X (.Return (some e) pos) (tRet te):=by
  intro pins s σ H D I h
  exact wpAny_Return_some (thn (he pins s σ H _ I h) fun v s1 ⟨x,H1,I1,r1,q1⟩=>⟨x,σ,H1,I1,r1,q1⟩)
def tRetN:TS:=fun D _ H=>D.rt .non H
def tIfS (c:TT) (t u:TS):TS:=fun D σ H=>c σ H fun b H1=>if b=true then t D σ H1 else u D σ H1
theorem ps_if {c:Expr} {a b:List Stmt} {tc:TT} (hc:PT X c tc) (ha:PSs X a t) (hb:PSs X b u):PS X (.If c a b pos) (tIfS tc t u):=by
  intro pins s σ H D I h
  refine wpAny_If (thn (hc pins s σ H _ I h) fun d s1 ⟨H1,I1,q1⟩=>?_)
  cases d with
  | true=>exact ha pins s1 σ H1 D I1 q1
  | false=>exact hb pins s1 σ H1 D I1 q1
def tNever:TS:=fun _ _ _=>False
theorem pss_never {sts:List Stmt}:PSs X sts tNever:=fun _ _ _ _ _ _ h=>h.elim
end
abbrev TG:=V→St→Hp→(St→Hp→Prop)→Prop
abbrev TGs:=List V→St→Hp→(St→Hp→Prop)→Prop
def PG (X:Cx) (target:Expr) (t:TG):Prop :=
  ∀ (pins:List (Addr×Obj)) (s:Shared) (σ:St) (H:Hp) (v:V) (u:Value) (Q:St→Hp→Prop),Inv X pins σ H s→RelV v u→t v σ H Q→
    wpAny (model X.prog X.w) X.A (assign target X.env u) (fun _ s'=>∃ σ' H',Inv X pins σ' H' s'∧Q σ' H') X.xe s
def PGs (X:Cx) (ts:List Expr) (t:TGs):Prop :=
  ∀ (pins:List (Addr×Obj)) (s:Shared) (σ:St) (H:Hp) (vs:List V) (us:List Value) (Q:St→Hp→Prop),Inv X pins σ H s→Vals vs us→t vs σ H Q→
    wpAny (model X.prog X.w) X.A (assignInOrder ((assignEach ts X.env).map (·.2)) us) (fun _ s'=>∃ σ' H',Inv X pins σ' H' s'∧Q σ' H') X.xe s
abbrev TSet:=V→V→V→Hp→(Hp→Prop)→Prop
def PSet (X:Cx) (t:TSet):Prop :=
  ∀ (pins:List (Addr×Obj)) (s:Shared) (σ:St) (H:Hp) (o i v:V) (ov iv u:Value) (Q:Hp→Prop),Inv X pins σ H s→RelV o ov→RelV i iv→RelV v u→t o i v H Q→
    wpAny (model X.prog X.w) X.A (setItem ov iv u) (fun _ s'=>∃ H',Inv X pins σ H' s'∧Q H') X.xe s
abbrev TIp:=V→V→Hp→VK→Prop
def PIp (X:Cx) (op:Operator) (t:TIp):Prop :=
  ∀ (pins:List (Addr×Obj)) (s:Shared) (σ:St) (H:Hp) (x y:V) (v u:Value) (Q:VK),Inv X pins σ H s→RelV x v→RelV y u→t x y H Q→
    wpAny (model X.prog X.w) X.A (inplaceOp op v u) (EP X pins σ Q) X.xe s
section
variable {X:Cx} {pos:Pos}
def gName (i:Nat):TG:=fun v σ H Q=>Q (σ.set i (some v)) H
theorem pg_name {i:Nat} {x:Str} (hN:X.N.Nodup) (hi:X.N[i]?=some x) (hx:Loc X.env.scope x) (hf:X.fn x=true∨X.env.scope.names.lookup x=some .local:=by first | exact .inl rfl | exact .inr rfl | assumption):PG X (.Name x pos) (gName i):=by
  intro pins s σ H v u Q I r h
  exact wpAny_assign_Name (store_ok I hN hi hx r (fun s' I'=>⟨_,H,I',h⟩) hf)
def gNil:TGs:=fun vs σ H Q=>vs=[]∧Q σ H
def gCons (t:TG) (u:TGs):TGs:=fun vs σ H Q=>∃ v r,vs=v::r∧t v σ H fun σ' H'=>u r σ' H' Q
theorem pgs_nil:PGs X [] gNil:=by
  intro pins s σ H vs us Q I r h
  obtain ⟨e,h⟩:=h
  subst e
  cases r
  exact assignInOrder_nil ⟨σ,H,I,h⟩
theorem pgs_cons {e:Expr} {es:List Expr} {t:TG} {u:TGs} (h1:PG X e t) (h2:PGs X es u)
    (hs:(assignEach (e::es) X.env).map (·.2)=assign e X.env::(assignEach es X.env).map (·.2):=by rfl):PGs X (e::es) (gCons t u):=by
  intro pins s σ H vs us Q I r h
  obtain ⟨v,vr,e1,h⟩:=h
  subst e1
  cases r with
  | cons r rr =>
    rw [hs]
    refine assignInOrder_cons (thn (h1 pins s σ H _ _ _ I r h) fun _ s1 ⟨σ1,H1,I1,q1⟩=>?_)
    exact h2 pins s1 σ1 H1 _ _ Q I1 rr q1
def gTup (K:PySem.W.Frag) (n:Nat) (t:TGs):TG:=fun v σ H Q=>∃ a xs,v=.ref a∧SqT K H a xs∧xs.length=n∧t xs σ H Q
theorem pg_tup {es:List Expr} {k:Nat} {t:TGs} {n:Nat} (hc:X.calm=true) (h:PGs X es t)
    (hn:(assignEach es X.env).length=n:=by rfl) (hst:(assignEach es X.env).findIdx? (·.1)=none:=by rfl):PG X (.Tuple es k pos) (gTup X.K n t):=by
  intro pins s σ H v u Q I r hw
  obtain ⟨a,xs,e1,hq,hl,hw⟩:=hw
  subst e1
  cases r
  obtain ⟨its,rv,ht,hz⟩:=I.tuple hq
  refine assign_Tuple_tuple (I.ok.hd hc) ht (by simp [hn,← hl,rv.length]) hst fun h' hx=>?_
  have I1:Inv X pins σ H { s with heap:=h' }:=I.kept (t':=s.toks) fun b o e=>hx b o (Nat.ne_of_lt (Heap.lt_size e)) e
  exact h pins _ σ H xs _ Q I1 (by simpa using rv) hw
def gSub (to ti:TE) (t:TSet):TG:=fun v σ H Q=>to σ H fun o H1=>ti σ H1 fun i H2=>t o i v H2 fun H3=>Q σ H3
theorem pg_sub {o i:Expr} {to ti:TE} {t:TSet} (ho:PE X o to) (hi:PE X i ti) (hs:PSet X t)
    (ha:∀ v,assign (.Subscript o i pos) X.env v=(do
      let ov ← holding [v] (eval o X.env)
      let iv ← holding [v,ov] (eval i X.env)
      standAt pos
      holding [v,ov,iv] (setItem ov iv v)
      release [v,ov,iv] []):=by intro _; rfl):PG X (.Subscript o i pos) (gSub to ti t):=by
  intro pins s σ H v u Q I r h
  rw [ha]
  refine wpAny_bind (wpAny_holding (thn (ho pins s σ H _ I h) fun ov s1 ⟨x,H1,I1,r1,q1⟩=>?_))
  refine wpAny_bind (wpAny_holding (thn (hi pins s1 σ H1 _ I1 q1) fun iv s2 ⟨y,H2,I2,r2,q2⟩=>?_))
  refine wpAny_bind (wpAny_standAt (wpAny_bind (wpAny_holding (thn (hs pins s2 σ H2 x y v ov iv u _ I2 r1 r2 r q2) fun _ s3 ⟨H3,I3,q3⟩=>?_))))
  exact wpAny_release ⟨σ,H3,I3,q3⟩
def tAsg (te:TE) (g:TG):TS:=fun D σ H=>te σ H fun x H1=>g x σ H1 D.nx
theorem ps_asg {tg e:Expr} {te:TE} {g:TG} (he:PE X e te) (hg:PG X tg g) (hs:swapsWithSole [tg] e pos.line X.env=pure false:=by rfl) (hw:swappedStores [tg] e X.env=pure none:=by rfl)
    (h1:(assignEach [tg] X.env).map (·.2)=[assign tg X.env]:=by rfl):PS X (.Assign [tg] e pos) (tAsg te g):=by
  intro pins s σ H D I h
  refine wpAny_Assign_stores (thn (he pins s σ H _ I h) fun v s1 ⟨x,H1,I1,r1,q1⟩=>?_) hs hw
  rw [h1]
  exact thn (hg pins s1 σ H1 x v _ I1 r1 q1) fun _ s2 q=>q
theorem ps_set {i:Nat} {x:Str} {e:Expr} {te:TE} {pos':Pos} (hN:X.N.Nodup) (hi:X.N[i]?=some x) (hx:Loc X.env.scope x) (he:PE X e te) (hs:swapsWith e (some (.Name x pos')) pos.line X.env=pure false:=by rfl) (hf:X.fn x=true∨X.env.scope.names.lookup x=some .local:=by first | exact .inl rfl | exact .inr rfl | assumption) :
    PS X (.Assign [.Name x pos'] e pos) (tAsg te (gName i)):=by
  intro pins s σ H D I h
  refine wpAny_Assign_Name (thn (he pins s σ H _ I h) fun v s1 ⟨y,H1,I1,r1,q1⟩=>?_) hs
  exact store_ok I1 hN hi hx r1 (fun s2 I2=>⟨_,H1,I2,q1⟩) hf
def tPar (i j:Nat) (ta:TA):TS:=fun D σ H=>ta σ H fun vs H1=>∃ v w,vs=[v,w]∧D.nx ((σ.set i (some v)).set j (some w)) H1
def tAug (i:Nat) (te:TE) (ti:TIp):TS:=fun D σ H=>∃ x,σ[i]?=some (some x)∧te σ H fun y H1=>ti x y H1 fun z H2=>D.nx (σ.set i (some z)) H2
def tAugS (to ti te:TE) (tget:V→V→Hp→VK→Prop) (tip:TIp) (tset:TSet):TS:=fun D σ H=>to σ H fun o H1=>ti σ H1 fun i H2=>tget o i H2 fun x H3=>te σ H3 fun y H4=>tip x y H4 fun z H5=>tset o i z H5 fun H6=>D.nx σ H6
def PGet (X:Cx) (t:V→V→Hp→VK→Prop):Prop :=
  ∀ (pins:List (Addr×Obj)) (s:Shared) (σ:St) (H:Hp) (o i:V) (ov iv:Value) (Q:VK),Inv X pins σ H s→RelV o ov→RelV i iv→t o i H Q→
    wpAny (model X.prog X.w) X.A (getItem ov iv) (EP X pins σ Q) X.xe s
def ipI (f:Int→Int→Int):TIp:=fun x y H Q=>∃ i j,x=.int i∧y=.int j∧Q (.int (f i j)) H
end
section
variable {X:Cx} {pos:Pos}
def tWhile (c:TT) (tb:TS):TS:=fun D σ H=>∃ W:Nat→St→Hp→Prop,(∃ m,W m σ H)∧∀ m σ H,W m σ H→
  c σ H fun b H1=>if b=true then ∃ N:St→Hp→Prop,(∀ σ' H',N σ' H'→∃ m',m'<m∧W m' σ' H')∧tb { D with nx:=N,ct:=N,bk:=D.nx } σ H1 else D.nx σ H1
theorem ps_while {c:Expr} {body:List Stmt} {tc:TT} {tb:TS} (hp:PassesOwn (model X.prog X.w) X.A X.env X.xe) (hc:PT X c tc) (hb:PSs X body tb):PS X (.While c body [] pos) (tWhile tc tb):=by
  intro pins s σ H D I h
  obtain ⟨W,⟨m0,w0⟩,turn⟩:=h
  refine wpAny_While (codeAny_whileLoop (fun n s'=>∃ σ' H',Inv X pins σ' H' s'∧W n σ' H') ?_ m0 ⟨σ,H,I,w0⟩)
  rintro n s1 ⟨σ1,H1,I1,w1⟩
  refine wpAny_passesOwn hp (thn (hc pins s1 σ1 H1 _ I1 (turn n σ1 H1 w1)) fun b s2 ⟨H2,I2,q2⟩=>?_)
  cases b with
  | true =>
    obtain ⟨N,hN,q2⟩:=q2
    rw [if_pos rfl]
    refine wpAny_passesOwn hp (thn (hb pins s2 σ1 H2 _ I2 q2) fun f s3 q3=>?_)
    cases f with
    | next =>
      obtain ⟨σ3,H3,I3,n3⟩:=q3
      obtain ⟨m',hm,w3⟩:=hN σ3 H3 n3
      exact ⟨m',hm,σ3,H3,I3,w3⟩
    | cont =>
      obtain ⟨σ3,H3,I3,n3⟩:=q3
      obtain ⟨m',hm,w3⟩:=hN σ3 H3 n3
      exact ⟨m',hm,σ3,H3,I3,w3⟩
    | brk=>exact q3
    | ret v=>exact q3
  | false =>
    rw [if_neg Bool.false_ne_true]
    exact wpAny_execs_nil ⟨σ1,H2,I2,q2⟩
end
structure It where
  go:Nat→Hp→Prop
  yld:Nat→Hp→V→Hp→Prop
  stop:Nat→Hp→Prop
def FpOk (X:Cx) (pins:List (Addr×Obj)) (H:Hp) (b:Addr):Prop :=
  H b=none∧b≠X.env.locals∧b∉X.fs∧(b∈X.ex∨X.s₀.heap.objs.size≤b)∧(∀ x c,X.env.cells.lookup x=some c→c≠b)∧∀ p∈X.pn++pins,p.1≠b
theorem Inv.fpOk {X:Cx} {pins:List (Addr×Obj)} {σ:St} {H H':Hp} {s:Shared} {b:Addr} (I:Inv X pins σ H s) (hb:s.heap.objs.size≤b) (hn:H' b=none):FpOk X pins H' b:=by
  refine ⟨hn,Nat.ne_of_gt (Nat.lt_of_lt_of_le I.lt hb),I.nofs hb,.inr (Nat.le_trans I.sz hb),fun x c e z=>?_,fun p hp z=>?_⟩
  · obtain ⟨v,q⟩:=I.cell x c e
    exact absurd (Nat.lt_of_lt_of_le q.lt (by rw [z]; exact hb)) (Nat.lt_irrefl _)
  · exact absurd (Nat.lt_of_lt_of_le (Heap.lt_size (I.pin p hp).1) (by rw [z]; exact hb)) (Nat.lt_irrefl _)
structure Turn (P:Program) (w:World) (K:PySem.W.Frag) (tg:Expr) (J:It) (fp:List Addr) (it:Addr) (tn:Nat→Heap→Prop):Prop where
  mem:it∈fp
  obj:∀ i h,tn i h→∀ b∈fp,∃ o,h.get? b=some o∧∀ v,o.data≠.cell v
  keep:∀ i h h',tn i h→(∀ b∈fp,∀ o,h.get? b=some o→h'.get? b=some o)→tn i h'
  item:∀ (X:Cx),X.prog=P→X.w=w→X.K=K→X.calm=true→∀ (i:Nat) (pins:List (Addr×Obj)) (s:Shared) (σ:St) (H:Hp) (E:Value→Shared→Prop),Inv X pins σ H s→(∀ b∈fp,FpOk X pins H b)→tn i s.heap→J.go i H→
    wpAny (model P w) X.A (pyNext (.ref it)) (fun r s1=>∃ u,r=some u∧
      wpAny (model P w) X.A (letOwnedTupleGo tg (.ref it) u) (fun _ s2=>∃ x H',Inv X pins σ H' s2∧RelV x u∧J.yld i H x H'∧tn (i+1) s2.heap∧∀ b∈fp,H' b=none) E s1) E s
  done:∀ (X:Cx),X.prog=P→X.w=w→X.K=K→X.calm=true→∀ (i:Nat) (pins:List (Addr×Obj)) (s:Shared) (σ:St) (H:Hp) (E:Value→Shared→Prop),Inv X pins σ H s→(∀ b∈fp,FpOk X pins H b)→tn i s.heap→J.stop i H→
    wpAny (model P w) X.A (pyNext (.ref it)) (fun r s1=>r=none∧Inv X pins σ H s1) E s
  self:∀ (A:Around) (i:Nat) (s:Shared) (Q:Value→Shared→Prop) (E:Value→Shared→Prop),tn i s.heap→Q (.ref it) s→wpAny (model P w) A (pyIter (.ref it)) Q E s
abbrev TI:=St→Hp→(It→Hp→Prop)→Prop
def PIE (X:Cx) (pins:List (Addr×Obj)) (σ:St) (tg:Expr) (R:It→Hp→Prop) (itv:Value) (s2:Shared):Prop :=
  ∃ (it:Addr) (fp:List Addr) (tn:Nat→Heap→Prop) (J:It) (H':Hp),itv=.ref it∧Inv X pins σ H' s2∧Turn X.prog X.w X.K tg J fp it tn∧tn 0 s2.heap∧(∀ b∈fp,FpOk X pins H' b)∧R J H'
def PI (X:Cx) (tg iter:Expr) (wi:TI):Prop :=
  ∀ (pins:List (Addr×Obj)) (s:Shared) (σ:St) (H:Hp) (R:It→Hp→Prop),Inv X pins σ H s→wi σ H R→
    wpAny (model X.prog X.w) X.A (eval iter X.env) (fun v s1=>wpAny (model X.prog X.w) X.A (pyIter v) (PIE X pins σ tg R) X.xe s1) X.xe s
theorem go_of {M:Model} {A:Around} {E:Value→Shared→Prop} {s:Shared} {tg:Expr} {it:Addr} {u:Value} {o:Obj} {n:String} {vs:Array Value} {Q:Unit→Shared→Prop} (ho:s.heap.get? it=some o) (hc:o.cls=.type n) (hd:o.data=.fields vs)
    (hn:["enumerate","zip","dict_itemiterator","dict_reverseitemiterator","odict_iterator","itertools.zip_longest","itertools.pairwise"].contains n=false) (hQ:Q () s):wpAny M A (letOwnedTupleGo tg (.ref it) u) Q E s:=by
  unfold letOwnedTupleGo
  cases tg <;> first
    | exact wpAny_pure hQ
    | (cases u <;> first
        | exact wpAny_pure hQ
        | (refine wpAny_bind (wpAny_load ho ?_)
           rw [hc,hd]
           show wpAny M A (if (["enumerate","zip","dict_itemiterator","dict_reverseitemiterator","odict_iterator","itertools.zip_longest","itertools.pairwise"].contains n && vs[0]? == some (rawInt _))=true then _ else _) Q E s
           rw [if_neg (by intro h; rw [hn,Bool.false_and] at h; cases h)]
           exact wpAny_pure hQ))
def Itl (K:PySem.W.Frag) (a:Addr):It :=
  ⟨fun i H=>∃ xs x,SqL K H a xs∧xs[i]?=some x,fun i H x H'=>H'=H∧∀ xs,SqL K H a xs→xs[i]?=some x,fun i H=>∃ xs,SqL K H a xs∧xs.length≤i⟩
def Itt (K:PySem.W.Frag) (a:Addr):It :=
  ⟨fun i H=>∃ xs x,SqT K H a xs∧xs[i]?=some x,fun i H x H'=>H'=H∧∀ xs,SqT K H a xs→xs[i]?=some x,fun i H=>∃ xs,SqT K H a xs∧xs.length≤i⟩
def Itr (lo:Int) (n:Nat):It:=⟨fun i _=>i<n,fun i H x H'=>H'=H∧x=.int (lo+i),fun i _=>n≤i⟩
theorem turn_list {P:Program} {w:World} {K:PySem.W.Frag} {tg:Expr} (a it:Addr):Turn P w K tg (Itl K a) [it] it (fun i h=>h.IsListIter it a i) where
  mem:=by simp
  obj:=fun i h st b hb=>by
    have e:b=it:=by simpa using hb
    subst e
    obtain ⟨o,e,c,d⟩:=st
    exact ⟨o,e,fun v z=>by rw [d] at z; cases z⟩
  keep:=fun i h h' st k=>st.at fun o e=>k it (by simp) o e
  item:=by
    intro X hP hw hK hc i pins s σ H E I hf st hg
    subst hP hw hK
    obtain ⟨xs,x,hq,hx⟩:=hg
    obtain ⟨its,rv,p,hz⟩:=I.list hq
    obtain ⟨u,hu,ru⟩:=rv.get hx
    obtain ⟨f0,f1,f2,f3,f4,f5⟩:=hf it (by simp)
    refine wpAny_pyNext_list_item st p.isList (x:=u) (by simpa using hu) fun h' st' sb=>?_
    have I1:Inv X pins σ H { s with heap:=h' }:=I.turned (t':=s.toks) (fun b o hb e=>(sb.2 b hb).trans e) f0 f1 f3 f4 f5
    obtain ⟨o,e,c,d⟩:=id st'
    exact ⟨u,rfl,go_of (s:={ s with heap:=h' }) e c d (by decide) ⟨x,H,I1,ru,⟨rfl,fun ys hy=>by rw [I.list_inj hy hq]; exact hx⟩,st',fun b hb=>(hf b hb).1⟩⟩
  done:=by
    intro X hP hw hK hc i pins s σ H E I hf st hg
    subst hP hw hK
    obtain ⟨xs,hq,hx⟩:=hg
    obtain ⟨its,rv,p,hz⟩:=I.list hq
    obtain ⟨f0,f1,f2,f3,f4,f5⟩:=hf it (by simp)
    have hl:=rv.length
    exact wpAny_pyNext_list_end (I.ok.hd hc) st p.isList (by simp; omega) fun h' eb=>⟨rfl,I.turned (t':=s.toks) (fun b o hb e=>eb b o hb e) f0 f1 f3 f4 f5⟩
  self:=fun _ _ _ _ _ st h=>wpAny_pyIter_listiter st h
theorem turn_tuple {P:Program} {w:World} {K:PySem.W.Frag} {tg:Expr} (a it:Addr):Turn P w K tg (Itt K a) [it] it (fun i h=>h.IsTupleIter it a i) where
  mem:=by simp
  obj:=fun i h st b hb=>by
    have e:b=it:=by simpa using hb
    subst e
    obtain ⟨o,e,c,d⟩:=st
    exact ⟨o,e,fun v z=>by rw [d] at z; cases z⟩
  keep:=fun i h h' st k=>st.at fun o e=>k it (by simp) o e
  item:=by
    intro X hP hw hK hc i pins s σ H E I hf st hg
    subst hP hw hK
    obtain ⟨xs,x,hq,hx⟩:=hg
    obtain ⟨its,rv,p,hz⟩:=I.tuple hq
    obtain ⟨u,hu,ru⟩:=rv.get hx
    obtain ⟨f0,f1,f2,f3,f4,f5⟩:=hf it (by simp)
    refine wpAny_pyNext_tuple_item st (show s.heap.IsTuple a its.toArray from p) (x:=u) (by simpa using hu) fun h' st' sb=>?_
    have I1:Inv X pins σ H { s with heap:=h' }:=I.turned (t':=s.toks) (fun b o hb e=>(sb.2 b hb).trans e) f0 f1 f3 f4 f5
    obtain ⟨o,e,c,d⟩:=id st'
    exact ⟨u,rfl,go_of (s:={ s with heap:=h' }) e c d (by decide) ⟨x,H,I1,ru,⟨rfl,fun ys hy=>by rw [I.tuple_inj hy hq]; exact hx⟩,st',fun b hb=>(hf b hb).1⟩⟩
  done:=by
    intro X hP hw hK hc i pins s σ H E I hf st hg
    subst hP hw hK
    obtain ⟨xs,hq,hx⟩:=hg
    obtain ⟨its,rv,p,hz⟩:=I.tuple hq
    obtain ⟨f0,f1,f2,f3,f4,f5⟩:=hf it (by simp)
    have hl:=rv.length
    exact wpAny_pyNext_tuple_end (I.ok.hd hc) st (show s.heap.IsTuple a its.toArray from p) (by simp; omega) fun h' eb=>⟨rfl,I.turned (t':=s.toks) (fun b o hb e=>eb b o hb e) f0 f1 f3 f4 f5⟩
  self:=fun _ _ _ _ _ st h=>wpAny_pyIter_tupleiter st h
theorem turn_range {P:Program} {w:World} {K:PySem.W.Frag} {tg:Expr} (it:Addr) (lo:Int) (n:Nat):Turn P w K tg (Itr lo n) [it] it (fun i h=>IsRangeIter h it (lo+(i:Nat) * 1) ((n:Int) - (i:Nat)) 1) where
  mem:=by simp
  obj:=fun i h st b hb=>by
    have e:b=it:=by simpa using hb
    subst e
    exact ⟨_,st,fun v z=>by
      have z':Data.fields _=Data.cell v:=z
      cases z'⟩
  keep:=fun i h h' st k=>k it (by simp) _ st
  item:=by
    intro X hP hw hK hc i pins s σ H E I hf st hg
    subst hP hw hK
    obtain ⟨f0,f1,f2,f3,f4,f5⟩:=hf it (by simp)
    have W:=Walks.range (prog:=X.prog) (w:=X.w) (I.ok.hd hc) it lo 1 n
    refine W.item i s _ _ hg st fun v h' tk hv st' kk=>?_
    obtain ⟨t,rfl⟩:=hv
    have I1:Inv X pins σ H { s with heap:=h',toks:=tk }:=I.turned (fun b o hb e=>kk b o (by simpa using hb) e) f0 f1 f3 f4 f5
    refine ⟨_,rfl,go_of (s:={ s with heap:=h',toks:=tk }) (n:="range_iterator") st' rfl rfl (by decide) ⟨.int (lo+i),H,I1,⟨t,?_⟩,⟨rfl,rfl⟩,st',fun b hb=>(hf b hb).1⟩⟩
    rw [Int.mul_one]
  done:=by
    intro X hP hw hK hc i pins s σ H E I hf st hg
    subst hP hw hK
    obtain ⟨f0,f1,f2,f3,f4,f5⟩:=hf it (by simp)
    exact wpAny_pyNext_range_end (I.ok.hd hc) st (by have:n≤i:=hg; omega) fun h' eb=>⟨rfl,I.turned (t':=s.toks) (fun b o hb e=>eb b o hb e) f0 f1 f3 f4 f5⟩
  self:=fun _ _ _ _ _ st h=>wpAny_pyIter_rangeiter st h
end L2
namespace L2
open PySem PySem.Spec PyProof.Rows
section
variable {X:Cx} {tg:Expr}
def iList (K:PySem.W.Frag) (tl:TE):TI:=fun σ H R=>tl σ H fun x H1=>∃ a,x=.ref a∧(∃ xs,SqL K H1 a xs)∧R (Itl K a) H1
def iTup (K:PySem.W.Frag) (tl:TE):TI:=fun σ H R=>tl σ H fun x H1=>∃ a,x=.ref a∧(∃ xs,SqT K H1 a xs)∧R (Itt K a) H1
theorem pi_list {l:Expr} {tl:TE} (hl:PE X l tl):PI X tg l (iList X.K tl):=by
  intro pins s σ H R I h
  refine thn (hl pins s σ H _ I h) fun v s1 ⟨x,H1,I1,r1,q1⟩=>?_
  obtain ⟨a,e,⟨xs,hq⟩,q⟩:=q1
  subst e
  cases r1
  obtain ⟨its,rv,p,hz⟩:=I1.list hq
  refine wpAny_pyIter_list p.isList ?_
  refine ⟨s1.heap.objs.size,[s1.heap.objs.size],_,_,H1,rfl,I1.kept (t':=s1.toks) fun b o e=>Heap.get?_push_of_some _ e,turn_list a _,⟨_,Heap.get?_push_size _ rfl,rfl,rfl⟩,fun b hb=>?_,q⟩
  have e:b=s1.heap.objs.size:=by simpa using hb
  subst e
  exact I1.fpOk (Nat.le_refl _) (I1.hok.fresh (Nat.le_refl _))
theorem pi_tup {l:Expr} {tl:TE} (hl:PE X l tl):PI X tg l (iTup X.K tl):=by
  intro pins s σ H R I h
  refine thn (hl pins s σ H _ I h) fun v s1 ⟨x,H1,I1,r1,q1⟩=>?_
  obtain ⟨a,e,⟨xs,hq⟩,q⟩:=q1
  subst e
  cases r1
  obtain ⟨its,rv,p,hz⟩:=I1.tuple hq
  refine wpAny_pyIter_tuple (show s1.heap.IsTuple a its.toArray from p) ?_
  refine ⟨s1.heap.objs.size,[s1.heap.objs.size],_,_,H1,rfl,I1.kept (t':=s1.toks) fun b o e=>Heap.get?_push_of_some _ e,turn_tuple a _,⟨_,Heap.get?_push_size _ rfl,rfl,rfl⟩,fun b hb=>?_,q⟩
  have e:b=s1.heap.objs.size:=by simpa using hb
  subst e
  exact I1.fpOk (Nat.le_refl _) (I1.hok.fresh (Nat.le_refl _))
theorem range_it {pins:List (Addr×Obj)} {σ:St} {H:Hp} {s:Shared} {R:It→Hp→Prop} {E:Value→Shared→Prop} {lo hi:Int} {t u v:Tok} {tk:Nat} (I:Inv X pins σ H s) (h1:-(2 ^ 62)≤lo) (h2:lo<2 ^ 62) (h3:-(2 ^ 62)≤hi) (h4:hi<2 ^ 62)
    (q:R (Itr lo (hi - lo).toNat) H):wpAny (model X.prog X.w) X.A (pyIter (.ref s.heap.objs.size)) (PIE X pins σ tg R) E { s with heap:=s.heap.push { cls:=.type "range",data:=.fields #[.int lo t,.int hi u,.int 1 v] },toks:=tk }:=by
  refine wpAny_pyIter_range (IsRange.new ..) (small_one h1 h2 h3 h4) ?_
  have I1:Inv X pins σ H { s with heap:=s.heap.push { cls:=.type "range",data:=.fields #[.int lo t,.int hi u,.int 1 v] },toks:=tk }:=I.kept fun b o e=>Heap.get?_push_of_some _ e
  refine ⟨(s.heap.push { cls:=.type "range",data:=.fields #[.int lo t,.int hi u,.int 1 v] }).objs.size,[(s.heap.push { cls:=.type "range",data:=.fields #[.int lo t,.int hi u,.int 1 v] }).objs.size],_,_,H,rfl,
    I1.kept (t':=tk) fun b o e=>Heap.get?_push_of_some _ e,turn_range _ lo (hi - lo).toNat,?_,fun b hb=>?_,q⟩
  · have e1:lo+((0:Nat):Int) * 1=lo:=by simp
    have e2:(((hi - lo).toNat:Nat):Int) - ((0:Nat):Int)=Builtin.Range.rangeSize lo hi 1:=by rw [rangeSize_one]; split <;> omega
    show IsRangeIter _ _ (lo+((0:Nat):Int) * 1) ((((hi - lo).toNat:Nat):Int) - ((0:Nat):Int)) 1
    rw [e1,e2]
    exact Heap.get?_push_size _ rfl
  · have e:b=(s.heap.push { cls:=.type "range",data:=.fields #[.int lo t,.int hi u,.int 1 v] }).objs.size:=by simpa using hb
    subst e
    exact I1.fpOk (Nat.le_refl _) (I1.hok.fresh (Nat.le_refl _))
def iRng1 (ta:TA):TI:=fun σ H R=>ta σ H fun vs H1=>∃ j:Int,vs=[.int j]∧-(2 ^ 62)≤j∧j<2 ^ 62∧R (Itr 0 j.toNat) H1
def iRng2 (ta:TA):TI:=fun σ H R=>ta σ H fun vs H1=>∃ i j:Int,vs=[.int i,.int j]∧(-(2 ^ 62)≤i∧i<2 ^ 62∧-(2 ^ 62)≤j∧j<2 ^ 62)∧R (Itr i (j - i).toNat) H1
theorem pi_range1 {a:Expr} {ta:TA} {p pos:Pos} (hg:Gl X "range") (hm:X.mg "range"=none) (ha:PA X [a] ta) (hs:starEach [a] X.env=[(false,eval a X.env)]:=by rfl):PI X tg (.Call (.Name "range" p) [a] [] pos) (iRng1 ta):=by
  intro pins s σ H R I h
  refine Call_ (ld_blt I hg hm boot_range (PyProof.Rows.callWith_type1 (thn (ha pos pins s σ H _ I h) fun us s1 ⟨vs,H1,I1,r1,q1⟩=>?_) hs rfl))
  obtain ⟨j,e,q1,q2,q⟩:=q1
  subst e
  cases r1 with
  | cons r rr =>
    cases rr
    obtain ⟨t,rfl⟩:=r
    exact call_range_1 (range_it I1 (by omega) (by omega) q1 q2 (by simpa using q))
theorem pi_range2 {a b:Expr} {ta:TA} {p pos:Pos} (hg:Gl X "range") (hm:X.mg "range"=none) (ha:PA X [a,b] ta) (hs:starEach [a,b] X.env=[(false,eval a X.env),(false,eval b X.env)]:=by rfl) (hs2:starEach [b] X.env=[(false,eval b X.env)]:=by rfl) :
    PI X tg (.Call (.Name "range" p) [a,b] [] pos) (iRng2 ta):=by
  intro pins s σ H R I h
  refine Call_ (ld_blt I hg hm boot_range (PyProof.Rows.callWith_type1 (thn (ha pos pins s σ H _ I h) fun us s1 ⟨vs,H1,I1,r1,q1⟩=>?_) (by rw [hs,hs2]) (by rw [hs2]; rfl)))
  obtain ⟨i,j,e,⟨q1,q2,q3,q4⟩,q⟩:=q1
  subst e
  cases r1 with
  | cons r rr =>
    cases rr with
    | cons r' rr =>
      cases rr
      obtain ⟨t,rfl⟩:=r
      obtain ⟨t',rfl⟩:=r'
      exact call_range_2 (range_it I1 q1 q2 q3 q4 q)
def tFor (wi:TI) (g:TG) (tb:TS):TS:=fun D σ H=>wi σ H fun J H1=>∃ W:Nat→Nat→St→Hp→Prop,(∃ m,W 0 m σ H1)∧∀ i m σ H,W i m σ H→
  (J.stop i H∧D.nx σ H)∨(J.go i H∧∃ N:St→Hp→Prop,(∀ σ' H',N σ' H'→∃ m',m'<m∧W (i+1) m' σ' H')∧∀ x H',J.yld i H x H'→g x σ H' fun σ2 H2=>tb { D with nx:=N,ct:=N,bk:=D.nx } σ2 H2)
def pinsAt (fp:List Addr) (h:Heap):List (Addr×Obj):=fp.filterMap fun b=>(h.get? b).map fun o=>(b,o)
theorem mem_pinsAt {fp:List Addr} {h:Heap} {b:Addr} {o:Obj} (hb:b∈fp) (e:h.get? b=some o):(b,o)∈pinsAt fp h:=List.mem_filterMap.mpr ⟨b,hb,by rw [e]; rfl⟩
theorem of_pinsAt {fp:List Addr} {h:Heap} {p:Addr×Obj} (hp:p∈pinsAt fp h):p.1∈fp∧h.get? p.1=some p.2:=by
  obtain ⟨b,hb,e⟩:=List.mem_filterMap.mp hp
  cases q:h.get? b with
  | none=>rw [q] at e; cases e
  | some o =>
    rw [q] at e
    have e':(b,o)=p:=Option.some.inj e
    subst e'
    exact ⟨hb,q⟩
theorem Inv.pinned {pins:List (Addr×Obj)} {σ:St} {H:Hp} {s:Shared} {fp:List Addr} (I:Inv X pins σ H s) (hf:∀ b∈fp,FpOk X pins H b) (ho:∀ b∈fp,∃ o,s.heap.get? b=some o∧∀ v,o.data≠.cell v):Inv X (pins++pinsAt fp s.heap) σ H s :=
  I.pins_of fun p hp=>(List.mem_append.mp hp).elim (fun z=>I.pin p (List.mem_append_right _ z)) fun z=>by
    obtain ⟨hb,e⟩:=of_pinsAt z
    obtain ⟨f0,f1,f2,_⟩:=hf p.1 hb
    obtain ⟨o,e',d⟩:=ho p.1 hb
    rw [e] at e'; cases e'
    exact ⟨e,f0,f1,f2,d⟩
theorem Inv.unpinned {pins pl:List (Addr×Obj)} {σ:St} {H:Hp} {s:Shared} (I:Inv X (pins++pl) σ H s):Inv X pins σ H s:=I.pins_of fun p hp=>I.pin p (List.mem_append_right _ (List.mem_append_left _ hp))
theorem ps_for {iter:Expr} {body:List Stmt} {wi:TI} {g:TG} {tb:TS} {pos:Pos} (hp:PassesOwn (model X.prog X.w) X.A X.env X.xe) (hc:X.calm=true) (hi:PI X tg iter wi) (hg:PG X tg g) (hb:PSs X body tb)
    (hs:∀ x,foldedSetIterable iter X.env x=pure x:=by intro _; rfl):PS X (.For tg iter body [] pos) (tFor wi g tb):=by
  intro pins s σ H D I h
  refine wpAny_For (thn (hi pins s σ H _ I h) fun v s1 h1=>thn h1 fun itv s2 h2=>?_) hs
  obtain ⟨it,fp,tn,J,H2,e,I2,T,st2,f2,W,⟨m0,w0⟩,turn⟩:=h2
  subst e
  have stat:∀ {H':Hp},(∀ b∈fp,H' b=none)→∀ b∈fp,FpOk X pins H' b:=fun hn b hb=>⟨hn b hb,(f2 b hb).2⟩
  refine codeAny_forLoop_any (fun n s'=>∃ i σ' H',Inv X pins σ' H' s'∧tn i s'.heap∧(∀ b∈fp,H' b=none)∧W i n σ' H') ?_ m0 ⟨0,σ,H2,I2,st2,fun b hb=>(f2 b hb).1,w0⟩
  rintro n s3 ⟨i,σ3,H3,I3,st3,fr3,w3⟩
  rcases turn i n σ3 H3 w3 with ⟨stop,qn⟩ | ⟨go,N,hN,step⟩
  · refine wpAny_passesOwn hp (thn (T.done X rfl rfl rfl hc i pins s3 σ3 H3 X.xe I3 (stat fr3) st3 stop) fun r s4 ⟨hr,I4⟩=>?_)
    subst hr
    exact wpAny_execs_nil ⟨σ3,H3,I4,qn⟩
  · refine wpAny_passesOwn hp (thn (T.item X rfl rfl rfl hc i pins s3 σ3 H3 X.xe I3 (stat fr3) st3 go) fun r s4 ⟨u,hr,h4⟩=>?_)
    subst hr
    refine wpAny_passesOwn hp (thn h4 fun _ s5 ⟨x,H5,I5,r5,y5,st5,fr5⟩=>?_)
    have I5':=I5.pinned (stat fr5) (T.obj _ _ st5)
    refine wpAny_passesOwn hp (thn (hg _ s5 σ3 H5 x u _ I5' r5 (step x H5 y5)) fun _ s6 ⟨σ6,H6,I6,q6⟩=>?_)
    refine wpAny_passesOwn hp (thn (hb _ s6 σ6 H6 _ I6 q6) fun f s7 q7=>?_)
    have again:∀ {σ7:St} {H7:Hp},Inv X (pins++pinsAt fp s5.heap) σ7 H7 s7→N σ7 H7→∃ m,m<n∧∃ i σ' H',Inv X pins σ' H' s7∧tn i s7.heap∧(∀ b∈fp,H' b=none)∧W i m σ' H':=fun {σ7 H7} I7 n7=>by
      obtain ⟨m',hm,w7⟩:=hN σ7 H7 n7
      refine ⟨m',hm,i+1,σ7,H7,I7.unpinned,T.keep _ _ _ st5 fun b hb o e=>(I7.pin (b,o) (List.mem_append_right _ (List.mem_append_right _ (mem_pinsAt hb e)))).1,fun b hb=>?_,w7⟩
      obtain ⟨o,e,d⟩:=T.obj _ _ st5 b hb
      exact (I7.pin (b,o) (List.mem_append_right _ (List.mem_append_right _ (mem_pinsAt hb e)))).2.1
    cases f with
    | next=>obtain ⟨σ7,H7,I7,n7⟩:=q7; exact again I7 n7
    | cont=>obtain ⟨σ7,H7,I7,n7⟩:=q7; exact again I7 n7
    | brk=>obtain ⟨σ7,H7,I7,q7⟩:=q7; exact ⟨σ7,H7,I7.unpinned,q7⟩
    | ret v=>obtain ⟨x7,σ7,H7,I7,r7,q7⟩:=q7; exact ⟨x7,σ7,H7,I7.unpinned,r7,q7⟩
end
theorem for_list {K:PySem.W.Frag} {a:Addr} {xs:List V} {g:TG} {tb:TS} {D:Ends} {σ:St} {H:Hp} (Pv:Nat→St→Hp→Prop) (h0:Pv 0 σ H) (hl:∀ i σ H,i≤xs.length→Pv i σ H→SqL K H a xs)
    (hs:∀ i x σ H,xs[i]?=some x→Pv i σ H→g x σ H fun σ2 H2=>tb { D with nx:=Pv (i+1),ct:=Pv (i+1),bk:=D.nx } σ2 H2) (hd:∀ σ H,Pv xs.length σ H→D.nx σ H) :
    ∃ W:Nat→Nat→St→Hp→Prop,(∃ m,W 0 m σ H)∧∀ i m σ H,W i m σ H→
      ((Itl K a).stop i H∧D.nx σ H)∨((Itl K a).go i H∧∃ N:St→Hp→Prop,(∀ σ' H',N σ' H'→∃ m',m'<m∧W (i+1) m' σ' H')∧∀ x H',(Itl K a).yld i H x H'→g x σ H' fun σ2 H2=>tb { D with nx:=N,ct:=N,bk:=D.nx } σ2 H2):=by
  refine ⟨fun i m σ H=>m=xs.length - i∧i≤xs.length∧Pv i σ H,⟨xs.length,by simp,Nat.zero_le _,h0⟩,?_⟩
  rintro i m σ H ⟨rfl,hi,p⟩
  have q:=hl i σ H hi p
  by_cases hlt:i<xs.length
  · refine .inr ⟨⟨xs,xs[i],q,by simp [hlt]⟩,Pv (i+1),fun σ' H' p'=>⟨xs.length - (i+1),by omega,rfl,hlt,p'⟩,fun x H' y=>?_⟩
    obtain ⟨e,y⟩:=y
    subst e
    exact hs i x σ _ (y xs q) p
  · have e:i=xs.length:=by omega
    subst e
    exact .inl ⟨⟨xs,q,Nat.le_refl _⟩,hd σ H p⟩
theorem for_tup {K:PySem.W.Frag} {a:Addr} {xs:List V} {g:TG} {tb:TS} {D:Ends} {σ:St} {H:Hp} (Pv:Nat→St→Hp→Prop) (h0:Pv 0 σ H) (hl:∀ i σ H,i≤xs.length→Pv i σ H→SqT K H a xs)
    (hs:∀ i x σ H,xs[i]?=some x→Pv i σ H→g x σ H fun σ2 H2=>tb { D with nx:=Pv (i+1),ct:=Pv (i+1),bk:=D.nx } σ2 H2) (hd:∀ σ H,Pv xs.length σ H→D.nx σ H) :
    ∃ W:Nat→Nat→St→Hp→Prop,(∃ m,W 0 m σ H)∧∀ i m σ H,W i m σ H→
      ((Itt K a).stop i H∧D.nx σ H)∨((Itt K a).go i H∧∃ N:St→Hp→Prop,(∀ σ' H',N σ' H'→∃ m',m'<m∧W (i+1) m' σ' H')∧∀ x H',(Itt K a).yld i H x H'→g x σ H' fun σ2 H2=>tb { D with nx:=N,ct:=N,bk:=D.nx } σ2 H2):=by
  refine ⟨fun i m σ H=>m=xs.length - i∧i≤xs.length∧Pv i σ H,⟨xs.length,by simp,Nat.zero_le _,h0⟩,?_⟩
  rintro i m σ H ⟨rfl,hi,p⟩
  have q:=hl i σ H hi p
  by_cases hlt:i<xs.length
  · refine .inr ⟨⟨xs,xs[i],q,by simp [hlt]⟩,Pv (i+1),fun σ' H' p'=>⟨xs.length - (i+1),by omega,rfl,hlt,p'⟩,fun x H' y=>?_⟩
    obtain ⟨e,y⟩:=y
    subst e
    exact hs i x σ _ (y xs q) p
  · have e:i=xs.length:=by omega
    subst e
    exact .inl ⟨⟨xs,q,Nat.le_refl _⟩,hd σ H p⟩
theorem for_range {lo:Int} {n:Nat} {g:TG} {tb:TS} {D:Ends} {σ:St} {H:Hp} (Pv:Nat→St→Hp→Prop) (h0:Pv 0 σ H)
    (hs:∀ i σ H,i<n→Pv i σ H→g (.int (lo+i)) σ H fun σ2 H2=>tb { D with nx:=Pv (i+1),ct:=Pv (i+1),bk:=D.nx } σ2 H2) (hd:∀ σ H,Pv n σ H→D.nx σ H) :
    ∃ W:Nat→Nat→St→Hp→Prop,(∃ m,W 0 m σ H)∧∀ i m σ H,W i m σ H→
      ((Itr lo n).stop i H∧D.nx σ H)∨((Itr lo n).go i H∧∃ N:St→Hp→Prop,(∀ σ' H',N σ' H'→∃ m',m'<m∧W (i+1) m' σ' H')∧∀ x H',(Itr lo n).yld i H x H'→g x σ H' fun σ2 H2=>tb { D with nx:=N,ct:=N,bk:=D.nx } σ2 H2):=by
  refine ⟨fun i m σ H=>m=n - i∧i≤n∧Pv i σ H,⟨n,by simp,Nat.zero_le _,h0⟩,?_⟩
  rintro i m σ H ⟨rfl,hi,p⟩
  by_cases hlt:i<n
  · refine .inr ⟨hlt,Pv (i+1),fun σ' H' p'=>⟨n - (i+1),by omega,rfl,hlt,p'⟩,fun x H' y=>?_⟩
    obtain ⟨e,y⟩:=y
    subst e y
    exact hs i σ _ hlt p
  · have e:i=n:=by omega
    subst e
    exact .inl ⟨Nat.le_refl _,hd σ H p⟩
theorem while_by {c:TT} {tb:TS} {D:Ends} {σ:St} {H:Hp} (Pv:St→Hp→Prop) (μ:St→Hp→Nat) (h0:Pv σ H)
    (hs:∀ σ H,Pv σ H→c σ H fun b H1=>if b=true then tb { D with nx:=fun σ' H'=>Pv σ' H'∧μ σ' H'<μ σ H,ct:=fun σ' H'=>Pv σ' H'∧μ σ' H'<μ σ H,bk:=D.nx } σ H1 else D.nx σ H1)
    (mono:∀ σ H Q Q',(∀ b H1,Q b H1→Q' b H1)→c σ H Q→c σ H Q'):tWhile c tb D σ H:=by
  refine ⟨fun m σ H=>m=μ σ H∧Pv σ H,⟨_,rfl,h0⟩,?_⟩
  rintro m σ H ⟨rfl,p⟩
  refine mono σ H _ _ (fun b H1 q=>?_) (hs σ H p)
  cases b with
  | true=>exact ⟨_,fun σ' H' ⟨p',l⟩=>⟨_,l,rfl,p'⟩,q⟩
  | false=>exact q
end L2
namespace L2
open PySem PySem.Spec PyProof.Rows
abbrev R2:=V→V→Hp→VK→Prop
def OpR (X:Cx) (f:Value→Value→Sem Value) (r:R2):Prop :=
  ∀ (pins:List (Addr×Obj)) (s:Shared) (σ:St) (H:Hp) (x y:V) (v u:Value) (Q:VK),Inv X pins σ H s→RelV x v→RelV y u→r x y H Q→
    wpAny (model X.prog X.w) X.A (f v u) (EP X pins σ Q) X.xe s
def UnR (X:Cx) (f:Value→Sem Value) (r:V→Hp→VK→Prop):Prop :=
  ∀ (pins:List (Addr×Obj)) (s:Shared) (σ:St) (H:Hp) (x:V) (v:Value) (Q:VK),Inv X pins σ H s→RelV x v→r x H Q→
    wpAny (model X.prog X.w) X.A (f v) (EP X pins σ Q) X.xe s
def CallR (X:Cx) (f:Value) (r:List V→Hp→VK→Prop):Prop :=
  ∀ (pins:List (Addr×Obj)) (s:Shared) (σ:St) (H:Hp) (xs:List V) (us:List Value) (Q:VK),Inv X pins σ H s→Vals xs us→r xs H Q→
    wpAny (model X.prog X.w) X.A (call f us) (EP X pins σ Q) X.xe s
def TruR (X:Cx) (r:V→Hp→(Bool→Hp→Prop)→Prop):Prop :=
  ∀ (pins:List (Addr×Obj)) (s:Shared) (σ:St) (H:Hp) (x:V) (v:Value) (Q:Bool→Hp→Prop),Inv X pins σ H s→RelV x v→r x H Q→
    wpAny (model X.prog X.w) X.A (truthy v) (TP X pins σ Q) X.xe s
def tOp (r:R2) (ta tb:TE):TE:=fun σ H Q=>ta σ H fun x H1=>tb σ H1 fun y H2=>r x y H2 Q
def tUn (r:V→Hp→VK→Prop) (ta:TE):TE:=fun σ H Q=>ta σ H fun x H1=>r x H1 Q
def rI (C:Int→Int→Prop) (g:Int→Int→V):R2:=fun x y H Q=>∃ i j,x=.int i∧y=.int j∧C i j∧Q (g i j) H
def rI0 (g:Int→Int→V):R2:=fun x y H Q=>∃ i j,x=.int i∧y=.int j∧Q (g i j) H
def rU (g:Int→V):V→Hp→VK→Prop:=fun x H Q=>∃ i,x=.int i∧Q (g i) H
section
variable {X:Cx} {a b c:Expr} {ta tb tc:TE} {pos:Pos}
theorem binT (ha:PE X a ta) (hb:PE X b tb) {pins:List (Addr×Obj)} {s:Shared} {σ:St} {H:Hp} {R:V→V→Hp→Prop} (I:Inv X pins σ H s)
    (h:ta σ H fun x H1=>tb σ H1 fun y H2=>R x y H2) {Q:Value→Shared→Prop} {f:Value→Value→Sem Value}
    (hf:∀ v u s2 x y H2,Inv X pins σ H2 s2→RelV x v→RelV y u→R x y H2→wpAny (model X.prog X.w) X.A (f v u) Q X.xe s2) :
    wpAny (model X.prog X.w) X.A (eval a X.env) (fun v s₁=>wpAny (model X.prog X.w) X.A (eval b X.env) (fun u s₂=>wpAny (model X.prog X.w) X.A (f v u) Q X.xe s₂) X.xe s₁) X.xe s:=by
  refine thn (ha pins s σ H _ I h) fun v s1 ⟨x,H1,I1,r1,q1⟩=>?_
  refine thn (hb pins s1 σ H1 _ I1 q1) fun u s2 ⟨y,H2,I2,r2,q2⟩=>?_
  exact hf v u s2 x y H2 I2 r1 r2 q2
theorem pe_op {op:Operator} {r:R2} (ho:OpR X (binaryOp op) r) (ha:PE X a ta) (hb:PE X b tb):PE X (.BinOp a op b pos) (tOp r ta tb):=by
  intro pins s σ H Q I h
  exact wpAny_BinOp (binT ha hb I h fun v u s2 x y H2 I2 rx ry q=>ho pins s2 σ H2 x y v u Q I2 rx ry q)
theorem opI {f:Value→Value→Sem Value} {C:Int→Int→Prop} {g:Int→Int→Int}
    (rule:∀ (i j:Int) (t u:Tok) (s:Shared) (Q:Value→Shared→Prop) (E:Value→Shared→Prop),C i j→Q (.int (g i j) s.toks) { s with toks:=s.toks+1 }→wpAny (model X.prog X.w) X.A (f (.int i t) (.int j u)) Q E s) :
    OpR X f (rI C fun i j=>.int (g i j)):=by
  intro pins s σ H x y v u Q I rx ry h
  obtain ⟨i,j,rfl,rfl,hc,q⟩:=h
  obtain ⟨t,rfl⟩:=rx
  obtain ⟨t',rfl⟩:=ry
  exact rule i j t t' s _ _ hc ⟨.int (g i j),H,I.tok _,⟨_,rfl⟩,q⟩
theorem opI0 {f:Value→Value→Sem Value} {g:Int→Int→Int}
    (rule:∀ (i j:Int) (t u:Tok) (s:Shared) (Q:Value→Shared→Prop) (E:Value→Shared→Prop),Q (.int (g i j) s.toks) { s with toks:=s.toks+1 }→wpAny (model X.prog X.w) X.A (f (.int i t) (.int j u)) Q E s) :
    OpR X f (rI0 fun i j=>.int (g i j)):=by
  intro pins s σ H x y v u Q I rx ry h
  obtain ⟨i,j,rfl,rfl,q⟩:=h
  obtain ⟨t,rfl⟩:=rx
  obtain ⟨t',rfl⟩:=ry
  exact rule i j t t' s _ _ ⟨.int (g i j),H,I.tok _,⟨_,rfl⟩,q⟩
theorem opB0 {f:Value→Value→Sem Value} {g:Int→Int→Bool}
    (rule:∀ (i j:Int) (t u:Tok) (s:Shared) (Q:Value→Shared→Prop) (E:Value→Shared→Prop),Q (.bool (g i j)) s→wpAny (model X.prog X.w) X.A (f (.int i t) (.int j u)) Q E s) :
    OpR X f (rI0 fun i j=>.bl (g i j)):=by
  intro pins s σ H x y v u Q I rx ry h
  obtain ⟨i,j,rfl,rfl,q⟩:=h
  obtain ⟨t,rfl⟩:=rx
  obtain ⟨t',rfl⟩:=ry
  exact rule i j t t' s _ _ ⟨.bl (g i j),H,I,rfl,q⟩
def CDiv (i j:Int):Prop:=0<j∧j<1073741824
def CDivN (i j:Int):Prop:=j≠0∧j.natAbs<1073741824
def CPow (i j:Int):Prop:=0≤j∧j≤1000000∧i.natAbs<2 ^ 64
def CMul (i j:Int):Prop:=(-(2 ^ 64)<i∧i<2 ^ 64)∨(-(2 ^ 64)<j∧j<2 ^ 64)
theorem CMul.ok {i j:Int} (h:CMul i j):IntMulOk i j:=by
  rcases h with ⟨h1,h2⟩ | ⟨h1,h2⟩
  · exact .of_left (intBits_le_64 h1 h2)
  · exact .of_right (intBits_le_64 h1 h2)
theorem op_add:OpR X (binaryOp .Add) (rI0 fun i j=>.int (i+j)):=opI0 fun _ _ _ _ _ _ _ q=>add_int q
theorem op_sub:OpR X (binaryOp .Sub) (rI0 fun i j=>.int (i - j)):=opI0 fun _ _ _ _ _ _ _ q=>sub_int q
theorem op_mul:OpR X (binaryOp .Mult) (rI CMul fun i j=>.int (i * j)):=opI fun _ _ _ _ _ _ _ hc q=>mul_int q hc.ok
theorem op_fdiv:OpR X (binaryOp .FloorDiv) (rI CDiv fun i j=>.int (i / j)):=opI fun i j _ _ _ _ _ hc q=>by
  have h1:(0:Int)<j:=hc.1
  have h2:j<1073741824:=hc.2
  exact floordiv_int (by omega) (by rw [Int.fdiv_eq_ediv_of_nonneg i (by omega)]; exact q) (.inl (PyProof.noPylong_small (by omega)))
theorem op_mod:OpR X (binaryOp .Mod) (rI (fun _ j=>0<j) fun i j=>.int (i % j)):=opI fun i j _ _ _ _ _ hc q=>by
  have h1:(0:Int)<j:=hc
  exact mod_int' (by omega) (by rw [Int.fmod_eq_emod_of_nonneg i (by omega)]; exact q)
end
def scal:V→V→Bool
  | .non,.non=>true | .non,.int _=>true | .int _,.non=>true | .non,.bl _=>true | .bl _,.non=>true | .non,.str _=>true | .str _,.non=>true
  | .int _,.int _=>true | .bl _,.bl _=>true | .str _,.str _=>true | .byt _,.byt _=>true
  | .int _,.str _=>true | .str _,.int _=>true | .bl _,.str _=>true | .str _,.bl _=>true
  | _,_=>false
def rEq:R2:=fun x y H Q=>scal x y=true∧Q (.bl (decide (x=y))) H
def rNe:R2:=fun x y H Q=>scal x y=true∧Q (.bl (!decide (x=y))) H
theorem dec_int {i j:Int}:decide (V.int i=V.int j)=(i == j):=by
  rw [Bool.eq_iff_iff]
  simp
theorem dec_bl {i j:Bool}:decide (V.bl i=V.bl j)=(i == j):=by
  rw [Bool.eq_iff_iff]
  simp
theorem dec_str {i j:Str}:decide (V.str i=V.str j)=(i == j):=by
  rw [Bool.eq_iff_iff]
  simp
theorem dec_byt {i j:Array UInt8}:decide (V.byt i=V.byt j)=(i.toList == j.toList):=by
  rw [Bool.eq_iff_iff]
  cases i
  cases j
  simp
section
variable {X:Cx} {a b c:Expr} {ta tb tc:TE} {pos:Pos}
theorem fin_bl {pins:List (Addr×Obj)} {σ:St} {H:Hp} {s:Shared} {Q:VK} {k k':Bool} (I:Inv X pins σ H s) (q:Q (.bl k) H) (e:k=k'):EP X pins σ Q (.bool k') s:=by
  subst e
  exact ⟨.bl k,H,I,rfl,q⟩
theorem op_eq:OpR X (compareOp .Eq) rEq:=by
  intro pins s σ H x y v u Q I rx ry h
  obtain ⟨hs,q⟩:=h
  cases x with
  | non =>
    cases rx
    cases y with
    | non=>cases ry; exact PySem.EqNone.eq_none_none (fin_bl I q (by simp))
    | bl j=>cases ry; exact PySem.EqNone.eq_none_bool (fin_bl I q (by simp))
    | int j=>obtain ⟨t',rfl⟩:=ry; exact PySem.EqNone.eq_none_int (fin_bl I q (by simp))
    | str j=>obtain ⟨t',rfl⟩:=ry; exact PySem.EqNone.eq_none_str (fin_bl I q (by simp))
    | _=>exact absurd (show false=true from hs) Bool.false_ne_true
  | bl i =>
    cases rx
    cases y with
    | non=>cases ry; exact PySem.EqNone.eq_bool_none (fin_bl I q (by simp))
    | bl j=>cases ry; exact eq_bool (fin_bl I q dec_bl)
    | str j=>obtain ⟨t',rfl⟩:=ry; exact PySem.EqMixed.eq_bool_str (fin_bl I q (by simp))
    | _=>exact absurd (show false=true from hs) Bool.false_ne_true
  | int i =>
    obtain ⟨t,rfl⟩:=rx
    cases y with
    | non=>cases ry; exact PySem.EqNone.eq_int_none (fin_bl I q (by simp))
    | int j=>obtain ⟨t',rfl⟩:=ry; exact eq_int (fin_bl I q dec_int)
    | str j=>obtain ⟨t',rfl⟩:=ry; exact PySem.EqMixed.eq_int_str (fin_bl I q (by simp))
    | _=>exact absurd (show false=true from hs) Bool.false_ne_true
  | str i =>
    obtain ⟨t,rfl⟩:=rx
    cases y with
    | non=>cases ry; exact PySem.EqNone.eq_str_none (fin_bl I q (by simp))
    | bl j=>cases ry; exact PySem.EqMixed.eq_str_bool (fin_bl I q (by simp))
    | int j=>obtain ⟨t',rfl⟩:=ry; exact PySem.EqMixed.eq_str_int (fin_bl I q (by simp))
    | str j=>obtain ⟨t',rfl⟩:=ry; exact eq_str (fin_bl I q dec_str)
    | _=>exact absurd (show false=true from hs) Bool.false_ne_true
  | byt i =>
    obtain ⟨t,rfl⟩:=rx
    cases y with
    | byt j=>obtain ⟨t',rfl⟩:=ry; exact PySem.W.eq_bytes (fin_bl I q dec_byt)
    | _=>exact absurd (show false=true from hs) Bool.false_ne_true
  | _=>cases y <;> exact absurd (show false=true from hs) Bool.false_ne_true
theorem op_ne:OpR X (compareOp .NotEq) rNe:=by
  intro pins s σ H x y v u Q I rx ry h
  obtain ⟨hs,q⟩:=h
  cases x with
  | non =>
    cases rx
    cases y with
    | non=>cases ry; exact PySem.EqNone.ne_none_none (fin_bl I q (by simp))
    | bl j=>cases ry; exact PySem.EqNone.ne_none_bool (fin_bl I q (by simp))
    | int j=>obtain ⟨t',rfl⟩:=ry; exact PySem.EqNone.ne_none_int (fin_bl I q (by simp))
    | str j=>obtain ⟨t',rfl⟩:=ry; exact PySem.EqNone.ne_none_str (fin_bl I q (by simp))
    | _=>exact absurd (show false=true from hs) Bool.false_ne_true
  | bl i =>
    cases rx
    cases y with
    | non=>cases ry; exact PySem.EqNone.ne_bool_none (fin_bl I q (by simp))
    | bl j=>cases ry; exact ne_bool (fin_bl I q (congrArg not dec_bl))
    | str j=>obtain ⟨t',rfl⟩:=ry; exact PySem.EqMixed.ne_bool_str (fin_bl I q (by simp))
    | _=>exact absurd (show false=true from hs) Bool.false_ne_true
  | int i =>
    obtain ⟨t,rfl⟩:=rx
    cases y with
    | non=>cases ry; exact PySem.EqNone.ne_int_none (fin_bl I q (by simp))
    | int j=>obtain ⟨t',rfl⟩:=ry; exact ne_int (fin_bl I q (congrArg not dec_int))
    | str j=>obtain ⟨t',rfl⟩:=ry; exact PySem.EqMixed.ne_int_str (fin_bl I q (by simp))
    | _=>exact absurd (show false=true from hs) Bool.false_ne_true
  | str i =>
    obtain ⟨t,rfl⟩:=rx
    cases y with
    | non=>cases ry; exact PySem.EqNone.ne_str_none (fin_bl I q (by simp))
    | bl j=>cases ry; exact PySem.EqMixed.ne_str_bool (fin_bl I q (by simp))
    | int j=>obtain ⟨t',rfl⟩:=ry; exact PySem.EqMixed.ne_str_int (fin_bl I q (by simp))
    | str j=>obtain ⟨t',rfl⟩:=ry; exact ne_str (fin_bl I q (congrArg not dec_str))
    | _=>exact absurd (show false=true from hs) Bool.false_ne_true
  | byt i =>
    obtain ⟨t,rfl⟩:=rx
    cases y with
    | byt j=>obtain ⟨t',rfl⟩:=ry; exact PySem.W.ne_bytes (fin_bl I q (congrArg not dec_byt))
    | _=>exact absurd (show false=true from hs) Bool.false_ne_true
  | _=>cases y <;> exact absurd (show false=true from hs) Bool.false_ne_true
theorem op_lt:OpR X (compareOp .Lt) (rI0 fun i j=>.bl (decide (i<j))):=opB0 fun _ _ _ _ _ _ _ q=>lt_int q
theorem op_le:OpR X (compareOp .LtE) (rI0 fun i j=>.bl (decide (i≤j))):=opB0 fun _ _ _ _ _ _ _ q=>le_int q
theorem op_gt:OpR X (compareOp .Gt) (rI0 fun i j=>.bl (decide (j<i))):=opB0 fun _ _ _ _ _ _ _ q=>gt_int q
theorem op_isN:OpR X (compareOp .Is) (fun x y H Q=>y=.non∧Q (.bl (decide (x=.non))) H):=by
  intro pins s σ H x y v u Q I rx ry h
  obtain ⟨rfl,q⟩:=h
  cases ry
  refine is_none_gen (fin_bl I q ?_)
  cases x <;> first
    | (cases rx; rfl)
    | (obtain ⟨t,rfl⟩:=rx; rfl)
theorem op_notN:OpR X (compareOp .IsNot) (fun x y H Q=>y=.non∧Q (.bl (!decide (x=.non))) H):=by
  intro pins s σ H x y v u Q I rx ry h
  obtain ⟨rfl,q⟩:=h
  cases ry
  refine isnot_none_gen (fin_bl I q ?_)
  cases x <;> first
    | (cases rx; rfl)
    | (obtain ⟨t,rfl⟩:=rx; rfl)
def isObj:HO→Bool
  | .lst _=>true
  | .ins _ _ _=>true
  | _=>false
theorem nomark (b:Expr) {op:CmpOp} (h:op≠.In:=by decide) (h2:op≠.NotIn:=by decide):behindInMarks op b=false:=by
  have e1:(op == CmpOp.In)=false:=by cases op <;> first | rfl | exact absurd rfl h
  have e2:(op == CmpOp.NotIn)=false:=by cases op <;> first | rfl | exact absurd rfl h2
  cases b <;> simp [behindInMarks,e1,e2]
theorem pe_cmpR {op:CmpOp} {r:R2} (ho:OpR X (compareOp op) r) (ha:PE X a ta) (hb:PE X b tb) (hm:behindInMarks op b=false):PE X (.Compare a [op] [b] pos) (tOp r ta tb):=by
  intro pins s σ H Q I h
  exact wpAny_Compare1 (binT ha hb I h fun v u s2 x y H2 I2 rx ry q=>ho pins s2 σ H2 x y v u Q I2 rx ry q) hm
def tTest (t:TE):TT:=fun σ H Q=>t σ H fun x H'=>∃ k,x=.bl k∧Q k H'
theorem pt_cmpR {op:CmpOp} {r:R2} (ho:OpR X (compareOp op) r) (ha:PE X a ta) (hb:PE X b tb) (hm:behindInMarks op b=false):PT X (.Compare a [op] [b] pos) (tTest (tOp r ta tb)):=by
  intro pins s σ H Q I h
  refine wpAny_isTrue_Compare1 (thn (ha pins s σ H _ I h) fun v s1 ⟨x,H1,I1,r1,q1⟩=>thn (hb pins s1 σ H1 _ I1 q1) fun u s2 ⟨y,H2,I2,r2,q2⟩ =>
    thn (ho pins s2 σ H2 x y v u _ I2 r1 r2 q2) fun c s3 ⟨z,H3,I3,r3,k,e,q3⟩=>?_) hm
  subst e
  cases r3
  exact wpAny_truthy_bool ⟨H3,I3,q3⟩
def tChain (r r':R2) (ta tb tc:TE):TE:=fun σ H Q=>ta σ H fun x H1=>tb σ H1 fun y H2=>r x y H2 fun z H3=>∃ k,z=.bl k∧
  (if k=true then tc σ H3 fun w' H4=>r' y w' H4 Q else Q (.bl false) H3)
theorem pe_chain {op op':CmpOp} {r r':R2} (ho:OpR X (compareOp op) r) (ho':OpR X (compareOp op') r') (ha:PE X a ta) (hb:PE X b tb) (hc:PE X c tc)
    (hm:lastMarks [op,op'] [b,c]=false:=by with_unfolding_all rfl):PE X (.Compare a [op,op'] [b,c] pos) (tChain r r' ta tb tc):=by
  intro pins s σ H Q I h
  refine Compare_chain (thn (ha pins s σ H _ I h) fun v s1 ⟨x,H1,I1,r1,q1⟩=>chain_link (thn (hb pins s1 σ H1 _ I1 q1) fun u s2 ⟨y,H2,I2,r2,q2⟩ =>
    thn (ho pins s2 σ H2 x y v u _ I2 r1 r2 q2) fun d s3 ⟨z,H3,I3,r3,k,e,q3⟩=>?_)) hm
  subst e
  cases r3
  refine wpAny_truthy_bool ?_
  cases k with
  | false=>exact ite_ff ⟨.bl false,H3,I3,rfl,q3⟩
  | true=>exact ite_tt (chain_last (thn (hc pins s3 σ H3 _ I3 q3) fun w' s4 ⟨z',H4,I4,r4,q4⟩=>ho' pins s4 σ H4 y z' u w' Q I4 r2 r4 q4))
theorem pt_chain {op op':CmpOp} {r r':R2} (ho:OpR X (compareOp op) r) (ho':OpR X (compareOp op') r') (ha:PE X a ta) (hb:PE X b tb) (hc:PE X c tc)
    (hm:lastMarks [op,op'] [b,c]=false:=by with_unfolding_all rfl):PT X (.Compare a [op,op'] [b,c] pos) (tTest (tChain r r' ta tb tc)):=by
  intro pins s σ H Q I h
  refine isTrue_chain (thn (ha pins s σ H _ I h) fun v s1 ⟨x,H1,I1,r1,q1⟩=>test_link (thn (hb pins s1 σ H1 _ I1 q1) fun u s2 ⟨y,H2,I2,r2,q2⟩ =>
    thn (ho pins s2 σ H2 x y v u _ I2 r1 r2 q2) fun d s3 ⟨z,H3,I3,r3,k,e,q3⟩=>?_)) hm
  subst e
  cases r3
  refine wpAny_truthy_bool ?_
  cases k with
  | false =>
    obtain ⟨k',e',q'⟩:=q3
    cases e'
    exact ite_ff ⟨H3,I3,q'⟩
  | true =>
    refine ite_tt (test_last (thn (hc pins s3 σ H3 _ I3 q3) fun w' s4 ⟨z',H4,I4,r4,q4⟩=>thn (ho' pins s4 σ H4 y z' u w' _ I4 r2 r4 q4) fun d' s5 ⟨z2,H5,I5,r5,k2,e2,q5⟩=>?_))
    subst e2
    cases r5
    exact wpAny_truthy_bool ⟨H5,I5,q5⟩
def TruV (K:PySem.W.Frag) (x:V) (H:Hp) (k:Bool):Prop :=
  match x with
  | .non=>k=false
  | .bl b=>k=b
  | .int i=>k=(i != 0)
  | .str y=>y.length≤sizeLine∧k=((y.length:Int) != 0)
  | .byt y=>y.size≤sizeLine∧k=((y.size:Int) != 0)
  | .ref p=>(∃ xs,SqL K H p xs∧k=!xs.isEmpty)∨(∃ xs,SqT K H p xs∧k=!xs.isEmpty)∨∃ kvs,H p=some (.dK kvs)∧k=!kvs.isEmpty
  | _=>False
theorem line63:(sizeLine:Nat)<2 ^ 63:=by rw [sizeLine_eq]; decide
theorem op_add_str:OpR X (binaryOp .Add) (fun x y H Q=>∃ i j,x=.str i∧y=.str j∧i.length+j.length≤sizeLine∧Q (.str (i++j)) H):=by
  intro pins s σ H x y v u Q I rx ry h
  obtain ⟨i,j,rfl,rfl,hz,q⟩:=h
  obtain ⟨t,rfl⟩:=rx
  obtain ⟨t',rfl⟩:=ry
  exact add_str (fun t' tk=>⟨.str (i++j),H,I.tok _,⟨_,rfl⟩,q⟩) hz
def PlainIxT (b:Expr):Prop:=∀ o i,subscripted b false o i=operate [o,i] (getItem o i)
theorem vals1 {x:V} {us:List Value} (r:Vals [x] us):∃ u,us=[u]∧RelV x u:=by
  cases r with
  | cons r1 r2=>cases r2; exact ⟨_,rfl,r1⟩
theorem vals2 {x y:V} {us:List Value} (r:Vals [x,y] us):∃ u w',us=[u,w']∧RelV x u∧RelV y w':=by
  cases r with
  | cons r1 r2 =>
    cases r2 with
    | cons r3 r4=>cases r4; exact ⟨_,_,rfl,r1,r3⟩
theorem call_max2 (hc:X.calm=true):CallR X (.builtin "max") (fun xs H Q=>∃ i j,xs=[.int i,.int j]∧Q (.int (if j > i then j else i)) H):=by
  intro pins s σ H xs us Q I r h
  obtain ⟨i,j,rfl,q⟩:=h
  obtain ⟨u,w',rfl,⟨t,rfl⟩,⟨t',rfl⟩⟩:=vals2 r
  refine max_two_ints (I.ok.hd hc) fun h' tk k=>⟨_,H,I.kept k,?_,q⟩
  by_cases hj:j > i
  · rw [if_pos hj,if_pos hj]; exact ⟨_,rfl⟩
  · rw [if_neg hj,if_neg hj]; exact ⟨_,rfl⟩
theorem call_min2 (hc:X.calm=true):CallR X (.builtin "min") (fun xs H Q=>∃ i j,xs=[.int i,.int j]∧Q (.int (if j<i then j else i)) H):=by
  intro pins s σ H xs us Q I r h
  obtain ⟨i,j,rfl,q⟩:=h
  obtain ⟨u,w',rfl,⟨t,rfl⟩,⟨t',rfl⟩⟩:=vals2 r
  refine min_two_ints (I.ok.hd hc) fun h' tk k=>⟨_,H,I.kept k,?_,q⟩
  by_cases hj:j<i
  · rw [if_pos hj,if_pos hj]; exact ⟨_,rfl⟩
  · rw [if_neg hj,if_neg hj]; exact ⟨_,rfl⟩
theorem call_int1:CallR X (.type "int") (fun xs H Q=>(∃ i,xs=[.int i]∧Q (.int i) H)∨∃ k,xs=[.bl k]∧Q (.int (if k then 1 else 0)) H):=by
  intro pins s σ H xs us Q I r h
  rcases h with ⟨i,rfl,q⟩ | ⟨k,rfl,q⟩
  · obtain ⟨u,rfl,t,rfl⟩:=vals1 r
    exact call_int_int ⟨.int i,H,I,⟨_,rfl⟩,q⟩
  · obtain ⟨u,rfl,r1⟩:=vals1 r
    cases r1
    exact call_int_bool ⟨.int (if k then 1 else 0),H,I.tok _,⟨_,rfl⟩,q⟩
def LenV (K:PySem.W.Frag) (x:V) (H:Hp) (n:Nat):Prop :=
  match x with
  | .str y=>y.length≤sizeLine∧n=y.length
  | .byt y=>y.size≤sizeLine∧n=y.size
  | .ref p=>(∃ xs,SqL K H p xs∧n=xs.length)∨∃ xs,SqT K H p xs∧n=xs.length
  | _=>False
end
end L2
namespace L2
open PySem PySem.Spec PyProof.Rows
structure ObjM (h:Heap) (x dx C:Addr) (mA:Str→Option Value):Prop where
  obj:h.get? x=some (PySem.W.instObj C dx)
  ns:h.Ns1 dx mA
  ne:dx≠x
theorem lookIn_ns {h:Heap} {dx:Addr} {mA:Str→Option Value} (n:h.Ns1 dx mA):∃ od,h.get? dx=some od∧∀ name,PySem.W.lookIn name od=some (mA name):=by
  obtain ⟨o,es,ep,ho,hd,hk,_,hm⟩:=n
  refine ⟨o,ho,fun name=>?_⟩
  have e:=hm name
  unfold nsFind findBy at e
  rw [← Array.find?_toList] at e
  unfold PySem.W.lookIn
  rw [hd]
  dsimp only
  split
  · rename_i y q
    rw [q] at e
    exact congrArg some e
  · rename_i q
    rw [q] at e
    have a:es.toList.any (·.refKey)=false:=by
      rw [List.any_eq_false]
      intro y hy
      obtain ⟨z,t,hkey⟩:=hk y (Array.mem_toList_iff.mp hy)
      simp [DictEntry.refKey,hkey]
    have a':¬ es.toList.any (·.refKey)=true:=by rw [a]; exact Bool.false_ne_true
    rw [if_neg a']
    exact congrArg some e
theorem ObjM.look {h:Heap} {x dx C:Addr} {mA:Str→Option Value} (I:ObjM h x dx C mA):∃ od,PySem.W.InstAt h x (PySem.W.instObj C dx) C (some od)∧∀ name,PySem.W.lookIn name od=some (mA name) :=
  let ⟨od,ho,hl⟩:=lookIn_ns I.ns
  ⟨od,⟨I.obj,rfl,rfl,ho⟩,hl⟩
section
variable {prog:Program} {w:World} {A:Around} {E:Value→Shared→Prop} {s:Shared} {K:PySem.W.Frag} {x dx C f:Addr} {mA:Str→Option Value} {name:Str} {v:Value}
theorem get_map {expr:Bool} {Q:Value→Shared→Prop} (X:K.In s.heap) (I:ObjM s.heap x dx C mA) (hg:PySem.W.plainGet K C name=true) (hh:PySem.W.hasDictIn K C=true)
    (ha:PySem.W.findIn K (.ref C) name=some none) (hv:mA name=some v) (hv':PySem.W.handedIn v=true) (h:Q v { s with toks:=s.toks+1 }) :
    wpAny (model prog w) A (getAttr (.ref x) name expr) Q E s:=by
  obtain ⟨od,J,hl⟩:=I.look
  exact PySem.W.get_value X J (PySem.W.plainGet_of hg).1 (PySem.W.findObj_own hh ha rfl (by rw [hl,hv])) hv' h
theorem get_meth {pl:Sem Bool} {Q:Value×List Value→Shared→Prop} (X:K.In s.heap) (I:ObjM s.heap x dx C mA) (hg:PySem.W.plainGet K C name=true)
    (hf:PySem.W.findIn K (.ref C) name=some (some (.ref f))) (ht:PySem.W.isFn K (.ref f)=true) (hv:mA name=none) (h:Q (.ref f,[.ref x]) s) :
    wpAny (model prog w) A (getMethod (.ref x) name pl) Q E s:=by
  obtain ⟨od,J,hl⟩:=I.look
  exact PySem.W.method_fn X J (PySem.W.plainGet_of hg).1 (PySem.W.plainGet_of hg).2 hf (beq_iff_eq.mp ht) (by show (PySem.W.lookIn name od).map (·.isSome)=some false; rw [hl,hv]; rfl) h
theorem set_map {ns:List Str} {Q:Unit→Shared→Prop} (X:K.In s.heap) (I:ObjM s.heap x dx C mA)
    (hs:PySem.W.findIn K (.ref C) "__setattr__"=some (some (.builtin "object.__setattr__"))) (hp:PySem.W.plainOver K C=true) (ht:PySem.W.takerIn K C name=some none) (hh:PySem.W.hasDictIn K C=true)
    (hw:PySem.Within mA ns) (hsz:ns.length≤sizeLine)
    (h:∀ h',ObjM h' x dx C (fun y=>if y=name then some v else mA y)→Heap.SameBut dx s.heap h'→Q () { s with heap:=h',toks:=s.toks+2 }) :
    wpAny (model prog w) A (setAttr (.ref x) name v) Q E s:=by
  obtain ⟨od,J,hl⟩:=I.look
  refine PySem.W.set_plain X J hs (PySem.W.osa_open (s:={ s with toks:=s.toks+1 }) (r:=none) X J hp ht fun b=>?_)
  obtain ⟨cd,hc,hd'⟩:=PySem.W.any_some hh
  have hx:s.heap.get? x=some ⟨.ref C,some dx,.plain,#[]⟩:=I.obj
  refine wpAny_bind (wpAny_pure (wpAny_bind (wpAny_bind (wpAny_loadPart hx (wpAny_bind (PySem.W.Looks.here (s:={ s with toks:=s.toks+1 }) (PySem.W.looks_clsIn X hc) ?_))))))
  rw [hd']
  refine wpAny_pure (a:=some dx) (wpAny_bind (wpAny_pure (wpAny_bind ?_)))
  refine wpAny_nsSet1 (s:={ s with toks:=s.toks+1 }) I.ns fun h' hn2 hs2=>?_
  obtain ⟨oD,esD,epD,hoD,hdD,hcD⟩:=hn2.count (PySem.Within.cons name v hw)
  refine wpAny_bind (wpAny_lookBehind hoD (by rw [hdD]; exact pastItsLine_dict (Nat.le_trans hcD (by rw [List.length_cons]; omega))) ?_)
  exact wpAny_pure (h _ ⟨(hs2.2 _ (Ne.symm I.ne)).trans I.obj,hn2,I.ne⟩ hs2)
theorem make_map {R:Result→Shared→Prop} {vs:List Value} {kw:List (Str×Value)} (X:K.In s.heap) (hm:PySem.W.makesIn K C=true)
    (hi:PySem.W.findIn K (.ref C) "__init__"=some (some (.ref f))) (hf:PySem.W.typeIn K (.ref f)=some (.type "function"))
    (h:codeAny (model prog w) (A.under (.builtin "type.__call__" ⟨.ref C::vs,kw⟩)) (.call (.ref f) ⟨.ref (s.heap.objs.size+1)::vs,kw⟩) (PySem.W.InitBack (s.heap.objs.size+1) R)
      { s with heap:=(s.heap.push PySem.W.emptyDict).push (PySem.W.instObj C s.heap.objs.size) }) :
    codeAny (model prog w) A (.call (.ref C) ⟨vs,kw⟩) R s:=by
  obtain ⟨hh,g,d,t,os⟩:=s
  exact PySem.W.make_core (PySem.W.makes_of X hm) (PySem.W.looks_findIn X hi) (fun self=>PySem.W.bind_fn X self hf) (.inl rfl) h
end
def putF (f:Str) (v:V):List (Str×V)→List (Str×V)
  | []=>[(f,v)]
  | (g,x)::r=>if g=f then (g,v)::r else (g,x)::putF f v r
theorem lookup_putF (f g:Str) (v:V):∀ fs:List (Str×V),(putF f v fs).lookup g=if g=f then some v else fs.lookup g
  | []=>by
    show List.lookup g [(f,v)]=_
    by_cases h:g=f
    · have hb:(g == f)=true:=beq_iff_eq.mpr h
      simp only [List.lookup,hb,if_pos h]
    · have hb:(g == f)=false:=beq_eq_false_iff_ne.mpr h
      simp only [List.lookup,hb,if_neg h]
  | (k,x)::r=>by
    have ih:=lookup_putF f g v r
    rw [show putF f v ((k,x)::r)=(if k=f then (k,v)::r else (k,x)::putF f v r) from rfl]
    by_cases hk:k=f
    · rw [if_pos hk]
      by_cases h:g=k
      · have hb:(g == k)=true:=beq_iff_eq.mpr h
        simp only [List.lookup,hb,if_pos (h.trans hk)]
      · have hb:(g == k)=false:=beq_eq_false_iff_ne.mpr h
        simp only [List.lookup,hb,if_neg (fun e:g=f=>h (e.trans hk.symm))]
    · rw [if_neg hk]
      by_cases h:g=k
      · have hb:(g == k)=true:=beq_iff_eq.mpr h
        simp only [List.lookup,hb,if_neg (fun e:g=f=>hk (h.symm.trans e))]
      · have hb:(g == k)=false:=beq_eq_false_iff_ne.mpr h
        simp only [List.lookup,hb]
        exact ih
theorem keys_putF (f:Str) (v:V):∀ fs:List (Str×V),f∈(putF f v fs).map (·.1)∧∀ g,g∈fs.map (·.1)→g∈(putF f v fs).map (·.1)
  | []=>⟨by simp [putF],fun g h=>by simp at h⟩
  | (k,x)::r=>by
    obtain ⟨i1,i2⟩:=keys_putF f v r
    rw [show putF f v ((k,x)::r)=(if k=f then (k,v)::r else (k,x)::putF f v r) from rfl]
    by_cases hk:k=f
    · rw [if_pos hk]
      subst hk
      exact ⟨by simp,fun g h=>by simpa using h⟩
    · rw [if_neg hk]
      refine ⟨?_,fun g h=>?_⟩
      · rw [List.map_cons]
        exact List.mem_cons_of_mem _ i1
      · rw [List.map_cons] at h ⊢
        rcases List.mem_cons.mp h with e | e
        · exact List.mem_cons.mpr (.inl e)
        · exact List.mem_cons_of_mem _ (i2 g e)
theorem length_putF (f:Str) (v:V):∀ fs:List (Str×V),(putF f v fs).length≤fs.length+1
  | []=>by simp [putF]
  | (k,x)::r=>by
    have ih:=length_putF f v r
    rw [show putF f v ((k,x)::r)=(if k=f then (k,v)::r else (k,x)::putF f v r) from rfl]
    by_cases hk:k=f
    · rw [if_pos hk,List.length_cons,List.length_cons]; omega
    · rw [if_neg hk,List.length_cons,List.length_cons]; omega
theorem RelO.some_of {v:V} {o:Option Value} (r:RelO (some v) o):∃ u,o=some u∧RelV v u:=by
  cases o with
  | none=>exact (show False from r).elim
  | some u=>exact ⟨u,rfl,r⟩
theorem RelO.none_of {o:Option Value} (r:RelO none o):o=none:=by
  cases o with
  | none=>rfl
  | some u=>exact (show False from r).elim
theorem handed_of {v:V} {u:Value} (r:RelV v u):PySem.W.handedIn u=true:=by
  cases v with
  | non=>cases (show u=Value.none from r); rfl
  | bl b=>cases (show u=Value.bool b from r); rfl
  | int i=>obtain ⟨t,e⟩:=(show ∃ t,u=Value.int i t from r); cases e; rfl
  | str x=>obtain ⟨t,e⟩:=(show ∃ t,u=Value.str x t from r); cases e; rfl
  | byt b=>obtain ⟨t,e⟩:=(show ∃ t,u=Value.bytes b t from r); cases e; rfl
  | flt b=>obtain ⟨t,e⟩:=(show ∃ t,u=Value.float b t from r); cases e; rfl
  | ref a=>cases (show u=Value.ref a from r); rfl
  | ty n=>cases (show u=Value.type n from r); rfl
section
variable {P:Program} {w:World} {H H':Hp} {h h':Heap} {a C dx:Addr} {fs fs':List (Str×V)}
theorem ins_get (hok:HOk P w H h) (e:H a=some (.ins C dx fs)):∃ mA,ObjM h a dx C mA∧(∀ f,RelO (fs.lookup f) (mA f))∧PySem.Within mA (fs.map (·.1))∧fs.length≤1000∧H dx=some (.own a):=by
  obtain ⟨d,z,ne,ob,mA,n,r,q⟩:=(show ObjOk P w H h a (.ins C dx fs) from hok a _ e)
  exact ⟨mA,⟨ob,n,ne⟩,r,q,z,d⟩
end
structure Cls (K:PySem.W.Frag) (C:Addr):Prop where
  pg:PySem.W.plainGet K C Str.empty=true
  hd:PySem.W.hasDictIn K C=true
  po:PySem.W.plainOver K C=true
  sa:PySem.W.findIn K (.ref C) "__setattr__"=some (some (.builtin "object.__setattr__"))
theorem Cls.get {K:PySem.W.Frag} {C:Addr} (c:Cls K C) (f:Str):PySem.W.plainGet K C f=true:=c.pg
def NoAttr (K:PySem.W.Frag) (C:Addr) (f:Str):Prop:=PySem.W.findIn K (.ref C) f=some none
theorem NoAttr.taker {K:PySem.W.Frag} {C:Addr} {f:Str} (n:NoAttr K C f):PySem.W.takerIn K C f=some none:=by
  unfold PySem.W.takerIn
  rw [show PySem.W.findIn K (.ref C) f=some none from n]
  rfl
structure Con (K:PySem.W.Frag) (C:Addr) (f:Str) (v:V) (u:Value):Prop where
  at_:PySem.W.findIn K (.ref C) f=some (some u)
  rel:RelV v u
  get:PySem.W.specialIn K u "__get__"=some none
  cp:PySem.W.copiedNames.contains f=false
structure Meth (K:PySem.W.Frag) (C:Addr) (m:Str) (f:Addr):Prop where
  at_:PySem.W.findIn K (.ref C) m=some (some (.ref f))
  fn:PySem.W.isFn K (.ref f)=true
  kp:PySem.W.keepIn K (.ref f)=true
section
variable {X:Cx} {pins:List (Addr×Obj)} {σ:St} {H:Hp} {s:Shared} {a C dx:Addr} {fs:List (Str×V)} {f:Str} {v:V} {A:Around} {E:Value→Shared→Prop}
theorem getattr_ok {b:Bool} {Q:Value→Shared→Prop} (I:Inv X pins σ H s) (e:H a=some (.ins C dx fs)) (c:Cls X.K C) (n:NoAttr X.K C f) (l:fs.lookup f=some v)
    (h:∀ u s',Inv X pins σ H s'→RelV v u→Q u s'):wpAny (model X.prog X.w) A (getAttr (.ref a) f b) Q E s:=by
  obtain ⟨mA,O,r,_,_,_⟩:=ins_get I.hok e
  obtain ⟨u,hu,ru⟩:=RelO.some_of (v:=v) (o:=mA f) (by rw [← l]; exact r f)
  exact get_map I.kIn O (c.get f) c.hd n hu (handed_of ru) (h u _ (I.tok _) ru)
theorem getmeth_ok {m:Str} {g:Addr} {pl:Sem Bool} {Q:Value×List Value→Shared→Prop} (I:Inv X pins σ H s) (e:H a=some (.ins C dx fs)) (c:Cls X.K C) (k:Meth X.K C m g) (l:fs.lookup m=none)
    (h:Q (.ref g,[.ref a]) s):wpAny (model X.prog X.w) A (getMethod (.ref a) m pl) Q E s:=by
  obtain ⟨mA,O,r,_,_,_⟩:=ins_get I.hok e
  have hn:mA m=none:=RelO.none_of (by rw [← l]; exact r m)
  exact get_meth I.kIn O (c.get m) k.at_ k.fn hn h
theorem setattr_ok {y:V} {u:Value} {Q:Unit→Shared→Prop} (I:Inv X pins σ H s) (e:H a=some (.ins C dx fs)) (c:Cls X.K C) (n:NoAttr X.K C f) (hl:fs.length<1000) (ry:RelV y u)
    (h:∀ s',Inv X pins σ (upd H a (.ins C dx (putF f y fs))) s'→Q () s'):wpAny (model X.prog X.w) A (setAttr (.ref a) f u) Q E s:=by
  obtain ⟨mA,O,r,wi,_,ho⟩:=ins_get I.hok e
  have hz:(fs.map (·.1)).length≤sizeLine:=by rw [List.length_map,sizeLine_eq]; omega
  refine set_map I.kIn O c.sa c.po n.taker c.hd wi hz fun h' O' sb=>h _ ?_
  have hd:∃ o,h'.get? dx=some o:=let ⟨o,_,_,e',_⟩:=O'.ns; ⟨o,e'⟩
  refine I.write (x:=a) (e:=dx) (by rw [e]; exact True.intro) (.inr ho) (fun b q hb z=>(sb.2 b hb).trans z) hd ?_
  refine ⟨by rw [upd_ne O.ne]; exact ho,?_,O.ne,O'.obj,_,O'.ns,fun g=>?_,fun g hg=>?_⟩
  · have:=length_putF f y fs; omega
  · show RelO ((putF f y fs).lookup g) (if g=f then some u else mA g)
    rw [lookup_putF]
    by_cases q:g=f
    · rw [if_pos q,if_pos q]; exact ry
    · rw [if_neg q,if_neg q]; exact r g
  · by_cases q:g=f
    · rw [q]; exact (keys_putF f y fs).1
    · refine (keys_putF f y fs).2 g (wi g fun z=>hg ?_)
      show (if g=f then some u else mA g)=none
      rw [if_neg q]; exact z
theorem Inv.made (I:Inv X pins σ H s):Inv X pins σ (upd (upd H s.heap.objs.size (.own (s.heap.objs.size+1))) (s.heap.objs.size+1) (.ins C s.heap.objs.size []))
    { s with heap:=(s.heap.push PySem.W.emptyDict).push (PySem.W.instObj C s.heap.objs.size) }:=by
  have e1:(s.heap.push PySem.W.emptyDict).get? s.heap.objs.size=some PySem.W.emptyDict:=Heap.get?_push_size s.heap rfl
  have e2:((s.heap.push PySem.W.emptyDict).push (PySem.W.instObj C s.heap.objs.size)).get? (s.heap.objs.size+1)=some (PySem.W.instObj C s.heap.objs.size):=by
    have:=Heap.get?_push_size (s.heap.push PySem.W.emptyDict) (o:=PySem.W.instObj C s.heap.objs.size) rfl
    rwa [Heap.size_push] at this
  have e3:(s.heap.push PySem.W.emptyDict).Ns s.heap.objs.size (fun _=>none):=⟨PySem.W.emptyDict,#[],_,e1,rfl,(fun e he=>absurd he (by simp)),fun _=>rfl⟩
  have I1:=I.laid (a:=s.heap.objs.size) (o:=.own (s.heap.objs.size+1)) (h':=s.heap.push PySem.W.emptyDict) (t':=s.toks) (fun b u q=>Heap.get?_push_of_some _ q) (Nat.le_refl _) ⟨_,e1⟩
  refine I1.laid (a:=s.heap.objs.size+1) (o:=.ins C s.heap.objs.size []) (t':=s.toks) (fun b u q=>Heap.get?_push_of_some _ q) (Nat.le_of_eq (Heap.size_push _ _)) ?_
  have ne:s.heap.objs.size≠s.heap.objs.size+1:=Nat.ne_of_lt (Nat.lt_succ_self _)
  refine ⟨by rw [upd_ne ne,upd_same],Nat.zero_le _,ne,e2,fun _=>none,(Heap.Ns1.of_empty e3).at fun o q=>Heap.get?_push_of_some _ q,fun _=>True.intro,fun y hy=>absurd rfl hy⟩
theorem attr_of {prog:Program} {w:World} {env:Env} {e:Expr} {f:Str} {pos:Pos} {s:Shared} {Q:Value→Shared→Prop} (hb:attributeBase e f env (eval e env)=eval e env)
    (h:wpAny (model prog w) A (eval e env) (fun o s₁=>wpAny (model prog w) A (getAttr o f true) Q E s₁) E s):wpAny (model prog w) A (eval (.Attribute e f pos) env) Q E s :=
  Attribute_any_ h (by rw [arm_eval_Attribute,hb])
end
def tFld (K:PySem.W.Frag) (ta:TE) (f:Str):TE:=fun σ H Q=>ta σ H fun x H1=>∃ a C dx fs v,x=.ref a∧H1 a=some (.ins C dx fs)∧Cls K C∧NoAttr K C f∧fs.lookup f=some v∧Q v H1
def tCon (K:PySem.W.Frag) (ta:TE) (f:Str):TE:=fun σ H Q=>ta σ H fun x H1=>∃ a C dx fs v u,x=.ref a∧H1 a=some (.ins C dx fs)∧Cls K C∧Con K C f v u∧fs.lookup f=none∧Q v H1
def sFld (K:PySem.W.Frag) (ta tv:TE) (f:Str):TS:=fun D σ H=>tv σ H fun y H1=>ta σ H1 fun x H2=>∃ a C dx fs,x=.ref a∧H2 a=some (.ins C dx fs)∧Cls K C∧NoAttr K C f∧fs.length<1000∧
  D.nx σ (upd H2 a (.ins C dx (putF f y fs)))
def InOp (X:Cx) (op:Operator) (rd:V→V→Hp→VK→Prop):Prop :=
  ∀ (pins:List (Addr×Obj)) (s:Shared) (σ:St) (H:Hp) (x y:V) (u v:Value) (Q:VK),Inv X pins σ H s→RelV x u→RelV y v→rd x y H Q→wpAny (model X.prog X.w) X.A (inplaceOp op u v) (EP X pins σ Q) X.xe s
def sFldAug (K:PySem.W.Frag) (ta tv:TE) (rd:V→V→Hp→VK→Prop) (f:Str):TS:=fun D σ H=>ta σ H fun x H1=>∃ a C dx fs v,x=.ref a∧H1 a=some (.ins C dx fs)∧Cls K C∧NoAttr K C f∧fs.lookup f=some v∧
  tv σ H1 fun y H2=>rd v y H2 fun z H3=>∃ dx' fs',H3 a=some (.ins C dx' fs')∧fs'.length<1000∧D.nx σ (upd H3 a (.ins C dx' (putF f z fs')))
section
variable {X:Cx} {o e value:Expr} {f:Str} {pos pos' tpos:Pos} {ta tv:TE}
theorem pe_fld (he:PE X e ta) (hb:attributeBase e f X.env (eval e X.env)=eval e X.env):PE X (.Attribute e f pos) (tFld X.K ta f):=by
  intro pins s σ H Q I h
  refine attr_of hb (thn (he pins s σ H _ I h) fun u s1 ⟨x,H1,I1,rx,a,C,dx,fs,v,ex,ea,c,n,l,q⟩=>?_)
  subst ex
  obtain rfl:u=Value.ref a:=rx
  exact getattr_ok I1 ea c n l fun u' s2 I2 ru=>⟨v,H1,I2,ru,q⟩
theorem ps_fld (ha:PE X o ta) (hv:PE X value tv) (hs:swapsWith value (some (.Attribute o f pos')) pos.line X.env=pure false):PS X (.Assign [.Attribute o f pos'] value pos) (sFld X.K ta tv f):=by
  intro pins s σ H D I h
  refine plainObj_wpAny_Assign_Attribute (thn (hv pins s σ H _ I h) fun u s1 ⟨y,H1,I1,ry,q⟩=>thn (ha pins s1 σ H1 _ I1 q) fun ov s2 ⟨x,H2,I2,rx,a,C,dx,fs,ex,ea,c,n,l,q2⟩=>?_) hs
  subst ex
  obtain rfl:ov=Value.ref a:=rx
  exact setattr_ok I2 ea c n l ry fun s3 I3=>⟨σ,_,I3,q2⟩
def rAdd:V→V→Hp→VK→Prop:=fun x y H Q=>∃ i j,x=.int i∧y=.int j∧Q (.int (i+j)) H
def rSub:V→V→Hp→VK→Prop:=fun x y H Q=>∃ i j,x=.int i∧y=.int j∧Q (.int (i - j)) H
end
section
variable {X:Cx} {pins:List (Addr×Obj)} {σ:St} {H:Hp} {s:Shared} {A:Around} {E:Value→Shared→Prop} {Q:Value→Shared→Prop} {c:Value} {b:Bool}
inductive TyOf (K:PySem.W.Frag) (H:Hp):V→Value→Prop where
  | non:TyOf K H .non (.type "NoneType")
  | bl (x:Bool):TyOf K H (.bl x) (.type "bool")
  | int (i:Int):TyOf K H (.int i) (.type "int")
  | str (x:Str):TyOf K H (.str x) (.type "str")
  | flt (x:UInt64):TyOf K H (.flt x) (.type "float")
  | lst {a:Addr} {xs:List V} (e:H a=some (.lst xs)):TyOf K H (.ref a) (.type "list")
  | frz {a:Addr} {o:Obj} {xs:List V} (e:H a=some (.frz o (.lst xs))):TyOf K H (.ref a) (.type "list")
  | tup {a:Addr} {xs:List V} (e:H a=some (.tup xs)):TyOf K H (.ref a) (.type "tuple")
  | dK {a:Addr} {kvs:List (Key×V)} (e:H a=some (.dK kvs)):TyOf K H (.ref a) (.type "dict")
  | dT {a:Addr} {kvs:List (List Key×V)} (e:H a=some (.dT kvs)):TyOf K H (.ref a) (.type "dict")
  | ins {a C dx:Addr} {fs:List (Str×V)} (e:H a=some (.ins C dx fs)) (cl:Cls K C) (ha:PySem.W.findIn K (.ref C) "__class__"=some (some (.builtin "object.__class__")))
      (hn:PySem.W.specialIn K (.builtin "object.__class__") "__get__"=some (some (.builtin "getset_descriptor.__get__"))) (htk:PySem.W.takesIn K (.builtin "object.__class__")=some true)
      (hm:PySem.W.mroIn K C (.type "object")=some true):TyOf K H (.ref a) (.ref C)
theorem isinst_ok {x:V} {u t:Value} (I:Inv X pins σ H s) (rx:RelV x u) (ty:TyOf X.K H x t) (e:PySem.W.kitOne X.K t c=some b) (h:∀ tk,Q (.bool b) { s with toks:=tk }) :
    wpAny (model X.prog X.w) A (call (.builtin "isinstance") [u,c]) Q E s:=by
  cases ty with
  | non=>cases (show u=Value.none from rx); exact PySem.W.kia_one PySem.W.kitx_none I.kIn True.intro e (fun z=>nomatch z) h
  | bl y=>cases (show u=Value.bool y from rx); exact PySem.W.kia_one PySem.W.kitx_bool I.kIn True.intro e (fun z=>nomatch z) h
  | int i=>obtain ⟨t,q⟩:=(show ∃ t,u=Value.int i t from rx); cases q; exact PySem.W.kia_one PySem.W.kitx_int I.kIn True.intro e (fun z=>nomatch z) h
  | str y=>obtain ⟨t,q⟩:=(show ∃ t,u=Value.str y t from rx); cases q; exact PySem.W.kia_one PySem.W.kitx_str I.kIn True.intro e (fun z=>nomatch z) h
  | flt y=>obtain ⟨t,q⟩:=(show ∃ t,u=Value.float y t from rx); cases q; exact PySem.W.kia_one PySem.W.kitx_float I.kIn True.intro e (fun z=>nomatch z) h
  | @lst a xs ea =>
    cases (show u=Value.ref a from rx)
    obtain ⟨_,_,n,_,h1⟩:=(show ObjOk X.prog X.w H s.heap a (.lst xs) from I.hok a _ ea)
    exact PySem.W.kia_one PySem.W.kitx_list I.kIn ⟨_,h1,rfl⟩ e (fun z=>nomatch z) h
  | @frz a ob xs ea =>
    cases (show u=Value.ref a from rx)
    obtain ⟨_,_,_,n,_,h1⟩:=(show ObjOk X.prog X.w H s.heap a (.frz ob (.lst xs)) from I.hok a _ ea)
    exact PySem.W.kia_one PySem.W.kitx_list I.kIn ⟨_,h1,rfl⟩ e (fun z=>nomatch z) h
  | @tup a xs ea =>
    cases (show u=Value.ref a from rx)
    obtain ⟨_,_,_,p⟩:=(show ObjOk X.prog X.w H s.heap a (.tup xs) from I.hok a _ ea)
    obtain ⟨o,h1,h2,_⟩:=p
    exact PySem.W.kia_one PySem.W.kitx_tuple I.kIn ⟨o,h1,h2⟩ e (fun z=>nomatch z) h
  | @dK a kvs ea =>
    cases (show u=Value.ref a from rx)
    obtain ⟨_,_,vs,_,p⟩:=(show ObjOk X.prog X.w H s.heap a (.dK kvs) from I.hok a _ ea)
    obtain ⟨o,es,ep,h1,h2,_⟩:=p
    exact PySem.W.kia_one PySem.W.kitx_dict I.kIn ⟨o,h1,h2.1⟩ e (fun z=>nomatch z) h
  | @dT a kvs ea =>
    cases (show u=Value.ref a from rx)
    obtain ⟨_,_,xs,_,o,es,ep,h1,h2,_⟩:=(show ObjOk X.prog X.w H s.heap a (.dT kvs) from I.hok a _ ea)
    exact PySem.W.kia_one PySem.W.kitx_dict I.kIn ⟨o,h1,h2.1⟩ e (fun z=>nomatch z) h
  | @ins a C dx fs ea cl ha hn htk hm =>
    cases (show u=Value.ref a from rx)
    obtain ⟨mA,O,_⟩:=ins_get I.hok ea
    obtain ⟨od,J,_⟩:=O.look
    exact PySem.W.kia_one (PySem.W.kitx_own (cl.get _) cl.hd ha hn htk hm) I.kIn J e (fun z=>nomatch z) h
end
end L2
namespace L2
open PySem PySem.Spec PyProof.Rows
structure Room (k:Nat) (A:Around):Prop where
  hd:A.handled=none
  dp:A.depth+3 * k+5<recursionLimit
  un:A.units+16 * k+200<cLine
theorem Room.mono {j k:Nat} {A:Around} (r:Room k A) (h:j≤k):Room j A:=⟨r.hd,by have:=r.dp; omega,by have:=r.un; omega⟩
theorem Room.deeper {k:Nat} {A:Around} (r:Room (k+1) A) (env:Env):Room k (A.deeper env) :=
  ⟨r.hd,by have:=r.dp; show A.depth+1+3 * k+5<_; omega,by have:=r.un; show A.units+3+16 * k+200<_; omega⟩
theorem make_depth {A:Around} {C:Addr} {us:List Value} {kw:List (Str×Value)}:(A.under (.builtin "type.__call__" ⟨.ref C::us,kw⟩)).depth=A.depth+1:=by
  first | rfl | simp [Around.under,Code.weight,Code.isCreation,Code.isGuard,Code.isCaller,Code.frames,Code.isFrame,guardIds]
theorem make_units {A:Around} {C:Addr} {us:List Value} {kw:List (Str×Value)}:(A.under (.builtin "type.__call__" ⟨.ref C::us,kw⟩)).units=A.units+1:=by
  first | rfl | simp [Around.under,Code.cUnits,Code.frames,Code.isFrame]
theorem Room.make {k:Nat} {A:Around} (r:Room (k+1) A) (C:Addr) (us:List Value) (kw:List (Str×Value)):Room k (A.under (.builtin "type.__call__" ⟨.ref C::us,kw⟩)) :=
  ⟨r.hd,by have:=r.dp; rw [make_depth]; omega,by have:=r.un; rw [make_units]; omega⟩
theorem Room.depth {k:Nat} {A:Around} (r:Room k A):A.depth<recursionLimit:=by have:=r.dp; omega
theorem Room.units {k:Nat} {A:Around} (r:Room k A):A.units+64<cLine:=by have:=r.un; omega
theorem Room.units0 {k:Nat} {A:Around} (r:Room k A):A.units<cLine:=by have:=r.un; omega
def tNil:TA:=fun _ H Q=>Q [] H
def tCons (ta:TE) (tr:TA):TA:=fun σ H Q=>ta σ H fun x H1=>tr σ H1 fun xs H2=>Q (x::xs) H2
section
variable {X:Cx} {e:Expr} {es:List Expr} {te:TE} {t:TA} {pos:Pos}
theorem pa_nil:PA X [] tNil:=fun _ _ _ _ H Q I h=>Calls.spliced_nil ⟨[],H,I,.nil,h⟩
theorem pa_cons (ha:PE X e te) (hr:PA X es t) (hs:starEach (e::es) X.env=(false,eval e X.env)::starEach es X.env:=by rfl):PA X (e::es) (tCons te t):=by
  intro pos pins s σ H Q I h
  rw [hs]
  show wpAny _ _ (spliced ((false,eval e X.env)::backTo pos (starEach es X.env))) _ _ s
  refine Calls.spliced_cons (thn (ha pins s σ H _ I h) fun u s1 ⟨x,H1,I1,r1,q1⟩=>?_)
  exact thn (hr pos pins s1 σ H1 _ I1 q1) fun us s2 ⟨xs,H2,I2,r2,q2⟩=>⟨x::xs,H2,I2,.cons r1 r2,q2⟩
def tTup (t:TA):TE:=fun σ H Q=>t σ H fun xs H1=>xs.length≤sizeLine∧∀ p,H1 p=none→Q (.ref p) (upd H1 p (.tup xs))
def tLst (t:TA):TE:=fun σ H Q=>t σ H fun xs H1=>xs.length≤sizeLine∧∀ p,H1 p=none→Q (.ref p) (upd H1 p (.lst xs))
theorem pe_tup {x1} (h:PA X es t):PE X (.Tuple es x1 pos) (tTup t):=by
  intro pins s σ H Q I hq
  refine wpAny_Tuple_spliced (thn (h pos pins s σ H _ I hq) fun us s1 ⟨xs,H1,I1,r,z,q⟩=>⟨by rw [← r.length]; exact z,?_⟩)
  have hf:H1 s1.heap.objs.size=none:=I1.hok.fresh (Nat.le_refl _)
  refine ⟨.ref s1.heap.objs.size,upd H1 s1.heap.objs.size (.tup xs),I1.laid (t':=s1.toks) (fun b u e=>Heap.get?_push_of_some _ e) (Nat.le_refl _) ?_,rfl,q _ hf⟩
  exact ⟨z,us,r,⟨_,Heap.get?_push_size _ rfl,rfl,_,rfl⟩⟩
theorem pe_lst (h:PA X es t):PE X (.List es pos) (tLst t):=by
  intro pins s σ H Q I hq
  refine wpAny_List_spliced (thn (h pos pins s σ H _ I hq) fun us s1 ⟨xs,H1,I1,r,z,q⟩=>⟨by rw [← r.length]; exact z,?_⟩)
  have hf:H1 s1.heap.objs.size=none:=I1.hok.fresh (Nat.le_refl _)
  refine ⟨.ref s1.heap.objs.size,upd H1 s1.heap.objs.size (.lst xs),I1.laid (t':=s1.toks) (fun b u e=>Heap.get?_push_of_some _ e) (Nat.le_refl _) ?_,rfl,q _ hf⟩
  exact ⟨z,us,0,r,Heap.get?_push_size _ rfl⟩
end
abbrev Sp:=List V→Hp→VK→XK→Prop
abbrev CXT:=List Env→Hp→Shared→XK→Value→Shared→Prop
structure Env0 (P:Program) (w:World) (K:PySem.W.Frag) (mg:Str→Option Value) (base:Heap) (A:Around) (outer:List Env) (s:Shared) (H:Hp):Prop where
  frames:A.frames=some outer
  mod:Mod K mg base
  bs:∀ b o,base.get? b=some o→s.heap.get? b=some o∧H b=none
  bsz:base.objs.size≤s.heap.objs.size
  funs:s.heap.FunFrames base outer
  frf:∀ b∈frs outer,H b=none
  hok:HOk P w H s.heap
  bare:AllBare s.gens
def CE (outer:List Env) (P:Program) (w:World) (H:Hp) (s:Shared) (Q:VK) (u:Value) (s':Shared):Prop :=
  ∃ v H',s'.os=s.os∧AllBare s'.gens∧Un (frs outer) [] H H' s.heap s'.heap∧HOk P w H' s'.heap∧RelV v u∧Q v H'
def CR (CX:CXT) (outer:List Env) (P:Program) (w:World) (H:Hp) (s:Shared) (Q:VK) (E:XK) (r:Result) (s':Shared):Prop :=
  match r with
  | .ok (.ret u)=>CE outer P w H s Q u s'
  | .ok _=>False
  | .error e=>CX outer H s E e s'
structure FnOk (P:Program) (w:World) (K:PySem.W.Frag) (mg:Str→Option Value) (base:Heap) (CX:CXT) (k:Nat) (f:Addr) (fd:FuncData) (ps:List Str) (sp:Sp):Prop where
  len:∀ vs H Q E,sp vs H Q E→vs.length=ps.length
  run:∀ (A:Around) (outer:List Env) (s:Shared) (H:Hp) (args:Args) (us:List Value) (vs:List V) (Q:VK) (E:XK),Room k A→Env0 P w K mg base A outer s H→BindsTo s fd args (ps.zip us)→Vals vs us→sp vs H Q E→
    codeAny (model P w) A (.call (.ref f) args) (CR CX outer P w H s Q E) s
theorem Env0.make {P:Program} {w:World} {K:PySem.W.Frag} {mg:Str→Option Value} {base:Heap} {A:Around} {outer:List Env} {s:Shared} {H:Hp} (e:Env0 P w K mg base A outer s H) (C:Addr) (us:List Value) (kw:List (Str×Value)) :
    Env0 P w K mg base (A.under (.builtin "type.__call__" ⟨.ref C::us,kw⟩)) outer s H:=⟨by first | exact e.frames | (simpa [Around.under,Code.envs,Code.isFrame,pushEnvs] using e.frames),e.mod,e.bs,e.bsz,e.funs,e.frf,e.hok,e.bare⟩
section
variable {X:Cx} {pins:List (Addr×Obj)} {σ:St} {H:Hp} {s s':Shared}
theorem Inv.env0 (I:Inv X pins σ H s):Env0 X.prog X.w X.K X.mg X.base X.A X.stack s H :=
  ⟨I.ok.frames,I.ok.mod,I.bs,Nat.le_trans I.ok.bsz I.sz,I.stack,I.stkFree,I.hok,I.bare⟩
theorem Inv.after {Q:VK} {u:Value} (I:Inv X pins σ H s) (h:CE X.stack X.prog X.w H s Q u s'):EP X pins σ Q u s':=by
  obtain ⟨v,H',os,bare,un,hok,r,q⟩:=h
  obtain ⟨hh,g,d,t,os'⟩:=s'
  obtain rfl:os'=s.os:=os
  exact ⟨v,H',I.call (h':=hh) (g':=g) (d':=d) (t':=t) (ch:=[]) un hok bare (fun b z=>absurd z (by simp)),r,q⟩
end
def tCall (sp:Sp) (dvs:List V) (E:XK) (t:TA):TE:=fun σ H Q=>t σ H fun vs H1=>sp (vs++dvs) H1 Q E
def tMeth (C:Addr) (m:Str) (sp:Sp) (dvs:List V) (E:XK) (ta:TE) (t:TA):TE:=fun σ H Q=>ta σ H fun x H1=>∃ a dx fs,x=.ref a∧H1 a=some (.ins C dx fs)∧fs.lookup m=none∧
  t σ H1 fun vs H2=>sp (x::(vs++dvs)) H2 Q E
def tMake (C:Addr) (sp:Sp) (dvs:List V) (E:XK) (t:TA):TE:=fun σ H Q=>t σ H fun vs H1=>∀ x dx,H1 x=none→H1 dx=none→dx≠x→
  sp (.ref x::(vs++dvs)) (upd (upd H1 dx (.own x)) x (.ins C dx [])) (fun v H2=>v=.non∧Q (.ref x) H2) E
def Binds (K:PySem.W.Frag) (fd:FuncData) (ps:List Str) (ds:List Value):Prop :=
  ∀ (s:Shared) (us:List Value),K.In s.heap→(us++ds).length=ps.length→BindsTo s fd ⟨us,[]⟩ (ps.zip (us++ds))
theorem Binds.all {K:PySem.W.Frag} {fd:FuncData} {ps:List Str} (h:∀ us:List Value,us.length=ps.length→bindArgs fd ⟨us,[]⟩=pure (ps.zip us)):Binds K fd ps []:=fun s us _ hl=>by
  rw [List.append_nil] at hl ⊢
  exact .of_eq (h us hl)
def Passes (CX:CXT) (X:Cx) (E:XK):Prop:=∀ (pins:List (Addr×Obj)) (σ:St) (H:Hp) (s:Shared) (e:Value) (s':Shared),Inv X pins σ H s→CX X.stack H s E e s'→X.xe e s'
section
variable {X:Cx} {CX:CXT} {k:Nat} {f C:Addr} {fd:FuncData} {ps:List Str} {sp:Sp} {dvs:List V} {ds:List Value} {E:XK} {x m:Str} {p pos apos:Pos} {e o:Expr} {es:List Expr} {ta:TE} {t:TA}
theorem run_fn {pins:List (Addr×Obj)} {σ:St} {H:Hp} {s:Shared} {Q:VK} {us:List Value} {vs:List V} (F:FnOk X.prog X.w X.K X.mg X.base CX k f fd ps sp) (hr:Room k X.A) (hb:Binds X.K fd ps ds) (hd:Vals dvs ds) (hx:Passes CX X E)
    (I:Inv X pins σ H s) (r:Vals vs us) (h:sp (vs++dvs) H Q E):wpAny (model X.prog X.w) X.A (call (.ref f) us) (EP X pins σ Q) X.xe s:=by
  have r2:Vals (vs++dvs) (us++ds):=r.append hd
  have hl:(us++ds).length=ps.length:=by rw [← r2.length]; exact F.len _ _ _ _ h
  refine wpAny_call (codeAny_mono (F.run X.A X.stack s H ⟨us,[]⟩ (us++ds) (vs++dvs) Q E hr I.env0 (hb s us I.kIn hl) r2 h) fun r s' hq=>?_)
  cases r with
  | error e=>exact hx pins σ H s e s' I hq
  | ok fl =>
    cases fl with
    | ret u=>exact I.after hq
    | next=>exact False.elim hq
    | brk=>exact False.elim hq
    | cont=>exact False.elim hq
theorem pe_call (F:FnOk X.prog X.w X.K X.mg X.base CX k f fd ps sp) (hr:Room k X.A) (hg:Gl X x) (hm:X.mg x=some (.ref f)) (hk:PySem.W.keepIn X.K (.ref f)=true) (hb:Binds X.K fd ps ds) (hd:Vals dvs ds) (hx:Passes CX X E)
    (ha:PA X (e::es) t) (hdb:(x == ("__debug__":Str))=false:=by decide) (he:starEach (e::es) X.env=(false,eval e X.env)::starEach es X.env:=by rfl) (hpl:(backTo pos (starEach es X.env)).any (·.1)=false:=by rfl) :
    PE X (.Call (.Name x p) (e::es) [] pos) (tCall sp dvs E t):=by
  intro pins s σ H Q I h
  refine wpAny_Call_Name_kw (ld_glob I hg hm ?_ hdb)
  refine PySem.W.callWith_K (h₀:=X.base) I.ok.mod.kin hk (thn (ha pos pins s σ H _ I h) fun us s1 ⟨vs,H1,I1,r,q⟩=>⟨I1.kIn,?_⟩) he hpl
  exact run_fn F hr hb hd hx I1 r q
structure Mk (K:PySem.W.Frag) (C f:Addr):Prop where
  makes:PySem.W.makesIn K C=true
  init:PySem.W.findIn K (.ref C) "__init__"=some (some (.ref f))
  fn:PySem.W.isFn K (.ref f)=true
  kp:PySem.W.keepIn K (.ref C)=true
theorem run_make {pins:List (Addr×Obj)} {σ:St} {H:Hp} {s:Shared} {Q:VK} {us:List Value} {vs:List V} (M:Mk X.K C f) (F:FnOk X.prog X.w X.K X.mg X.base CX k f fd ps sp) (hr:Room (k+1) X.A) (hb:Binds X.K fd ps ds) (hd:Vals dvs ds)
    (hx:Passes CX X E) (I:Inv X pins σ H s) (r:Vals vs us)
    (h:∀ x dx,H x=none→H dx=none→dx≠x→sp (.ref x::(vs++dvs)) (upd (upd H dx (.own x)) x (.ins C dx [])) (fun v H2=>v=.non∧Q (.ref x) H2) E) :
    wpAny (model X.prog X.w) X.A (call (.ref C) us) (EP X pins σ Q) X.xe s:=by
  have hq:=h (s.heap.objs.size+1) s.heap.objs.size (I.hok.fresh (Nat.le_succ _)) (I.hok.fresh (Nat.le_refl _)) (Nat.ne_of_lt (Nat.lt_succ_self _))
  have I2:=Inv.made (C:=C) I
  have r2:Vals (V.ref (s.heap.objs.size+1)::(vs++dvs)) (Value.ref (s.heap.objs.size+1)::(us++ds)):=.cons rfl (r.append hd)
  have hl:(Value.ref (s.heap.objs.size+1)::us++ds).length=ps.length:=by
    have e:=r2.length
    rw [F.len _ _ _ _ hq] at e
    exact e.symm
  refine wpAny_call (make_map (f:=f) I.kIn M.makes M.init (beq_iff_eq.mp M.fn) (codeAny_mono (F.run _ X.stack _ _ ⟨Value.ref (s.heap.objs.size+1)::us,[]⟩ (Value.ref (s.heap.objs.size+1)::(us++ds)) _ _ E (hr.make C us [])
    (I2.env0.make C us []) (hb _ (Value.ref (s.heap.objs.size+1)::us) I2.kIn hl) r2 hq) fun r s' hq'=>?_))
  cases r with
  | error e=>exact hx pins σ _ _ e s' I2 hq'
  | ok fl =>
    cases fl with
    | ret u =>
      obtain ⟨v,H',I3,rv,ev,q3⟩:=I2.after hq'
      subst ev
      exact ⟨rv,⟨V.ref (s.heap.objs.size+1),H',I3,rfl,q3⟩⟩
    | next=>exact False.elim hq'
    | brk=>exact False.elim hq'
    | cont=>exact False.elim hq'
theorem pe_make (M:Mk X.K C f) (F:FnOk X.prog X.w X.K X.mg X.base CX k f fd ps sp) (hr:Room (k+1) X.A) (hg:Gl X x) (hm:X.mg x=some (.ref C)) (hb:Binds X.K fd ps ds) (hd:Vals dvs ds) (hx:Passes CX X E)
    (ha:PA X (e::es) t) (hdb:(x == ("__debug__":Str))=false:=by decide) (he:starEach (e::es) X.env=(false,eval e X.env)::starEach es X.env:=by rfl) (hpl:(backTo pos (starEach es X.env)).any (·.1)=false:=by rfl) :
    PE X (.Call (.Name x p) (e::es) [] pos) (tMake C sp dvs E t):=by
  intro pins s σ H Q I h
  refine wpAny_Call_Name_kw (ld_glob I hg hm ?_ hdb)
  refine PySem.W.callWith_K (h₀:=X.base) I.ok.mod.kin M.kp (thn (ha pos pins s σ H _ I h) fun us s1 ⟨vs,H1,I1,r,q⟩=>⟨I1.kIn,?_⟩) he hpl
  exact run_make M F hr hb hd hx I1 r q
theorem pe_make0 (M:Mk X.K C f) (F:FnOk X.prog X.w X.K X.mg X.base CX k f fd ps sp) (hr:Room (k+1) X.A) (hg:Gl X x) (hm:X.mg x=some (.ref C)) (hb:Binds X.K fd ps ds) (hd:Vals dvs ds) (hx:Passes CX X E)
    (hdb:(x == ("__debug__":Str))=false:=by decide):PE X (.Call (.Name x p) [] [] pos) (tMake C sp dvs E tNil):=by
  intro pins s σ H Q I h
  refine wpAny_Call_Name_kw (ld_glob I hg hm ?_ hdb)
  exact PySem.W.callWith_K0 I.kIn M.kp (run_make (us:=[]) M F hr hb hd hx I .nil h)
end
def PK (X:Cx) (kws:List Keyword) (t:TA):Prop :=
  ∀ (pos:Pos) (pins:List (Addr×Obj)) (s:Shared) (σ:St) (H:Hp) (Q:List V→Hp→Prop),Inv X pins σ H s→t σ H Q→wpAny (model X.prog X.w) X.A (evalAll ((backToKw pos (keywordEach kws X.env)).map (·.2))) (AP X pins σ Q) X.xe s
section
variable {X:Cx} {CX:CXT} {k:Nat} {f C:Addr} {fd:FuncData} {ps ks:List Str} {sp:Sp} {E:XK} {x m:Str} {p pos apos kpos:Pos} {e o:Expr} {es:List Expr} {kws:List Keyword} {te ta:TE} {t tk:TA} {nm:Option Str}
structure KBinds (K:PySem.W.Frag) (fd:FuncData) (ps ks:List Str) (g:List Value→List Value→List Value) (gV:List V→List V→List V):Prop where
  to:∀ (s:Shared) (us ws:List Value),K.In s.heap→(g us ws).length=ps.length→BindsTo s fd ⟨us,ks.zip ws⟩ (ps.zip (g us ws))
  rel:∀ {vs:List V} {us:List Value} {zs:List V} {ws:List Value},Vals vs us→Vals zs ws→Vals (gV vs zs) (g us ws)
def tCallK (sp:Sp) (gV:List V→List V→List V) (E:XK) (t tk:TA):TE:=fun σ H Q=>t σ H fun vs H1=>tk σ H1 fun zs H2=>sp (gV vs zs) H2 Q E
variable {g:List Value→List Value→List Value} {gV:List V→List V→List V}
end
structure FnScope (N P:List Str) (sc:Scope):Prop where
  kind:sc.kind=.function
  co:sc.isCoroutine=false
  gen:sc.isGenerator=false
  nd:N.Nodup
  pre:N.take P.length=P
  par:∀ x∈P,sc.names.lookup x=some .local∨sc.names.lookup x=some .cell
  nofree:∀ y∈sc.names,y.2≠.free
theorem bindL_out {kindOf:Str→Option NameKind} {x:Str}:∀ {binds:List (Str×Value)} {m:Str→Option Value},(∀ v,(x,v)∉binds)→bindL kindOf binds m x=m x
  | [],_,_=>rfl
  | (n,v)::r,m,h=>by
    unfold bindL
    rw [bindL_out fun w hw=>h w (List.mem_cons_of_mem _ hw)]
    split
    · have:x≠n:=by rintro rfl; exact h v List.mem_cons_self
      simp [this]
    · rfl
theorem bindC_out {kindOf:Str→Option NameKind} {x:Str}:∀ {binds:List (Str×Value)} {m:Str→Option Value},(∀ v,(x,v)∉binds)→bindC kindOf binds m x=m x
  | [],_,_=>rfl
  | (n,v)::r,m,h=>by
    unfold bindC
    rw [bindC_out fun w hw=>h w (List.mem_cons_of_mem _ hw)]
    split
    · rfl
    · have:x≠n:=by rintro rfl; exact h v List.mem_cons_self
      simp [this]
theorem bindL_get {kindOf:Str→Option NameKind} {x:Str} {v:Value}:∀ {P:List Str} {vs:List Value} {i:Nat} {m:Str→Option Value},P.Nodup→P[i]?=some x→vs[i]?=some v→kindOf x=some .local→
    bindL kindOf (P.zip vs) m x=some v
  | [],_,_,_,_,h,_,_=>by simp at h
  | _::_,[],_,_,_,_,h,_=>by simp at h
  | p::P,w::vs,0,m,nd,h1,h2,hk=>by
    simp at h1 h2; subst h1; subst h2
    show bindL kindOf ((p,w)::P.zip vs) m p=_
    unfold bindL
    rw [bindL_out fun v hv=>(List.nodup_cons.mp nd).1 (List.of_mem_zip hv).1,if_pos hk]
    simp
  | p::P,w::vs,i+1,m,nd,h1,h2,hk=>by
    show bindL kindOf ((p,w)::P.zip vs) m x=_
    unfold bindL
    exact bindL_get (i:=i) (List.nodup_cons.mp nd).2 (by simpa using h1) (by simpa using h2) hk
theorem bindC_get {kindOf:Str→Option NameKind} {x:Str} {v:Value}:∀ {P:List Str} {vs:List Value} {i:Nat} {m:Str→Option Value},P.Nodup→P[i]?=some x→vs[i]?=some v→kindOf x≠some .local→
    bindC kindOf (P.zip vs) m x=some v
  | [],_,_,_,_,h,_,_=>by simp at h
  | _::_,[],_,_,_,_,h,_=>by simp at h
  | p::P,w::vs,0,m,nd,h1,h2,hk=>by
    simp at h1 h2; subst h1; subst h2
    show bindC kindOf ((p,w)::P.zip vs) m p=_
    unfold bindC
    rw [bindC_out fun v hv=>(List.nodup_cons.mp nd).1 (List.of_mem_zip hv).1,if_neg hk]
    simp
  | p::P,w::vs,i+1,m,nd,h1,h2,hk=>by
    show bindC kindOf ((p,w)::P.zip vs) m x=_
    unfold bindC
    exact bindC_get (i:=i) (List.nodup_cons.mp nd).2 (by simpa using h1) (by simpa using h2) hk
def start (N:List Str) (vs:List V):St:=vs.map some++List.replicate (N.length - vs.length) none
def cxOf (CX:CXT) (P:Program) (w:World) (K:PySem.W.Frag) (mg:Str→Option Value) (base:Heap) (N:List Str) (qual:Str) (scope:Scope) (f:Addr) (cd:Value) (A:Around) (outer:List Env) (s:Shared) (H:Hp) (E:XK):Cx where
  prog:=P
  w:=w
  K:=K
  mg:=mg
  base:=base
  A:=A.deeper (envOfC qual scope s.heap.objs.size f cd)
  N:=N
  s₀:=s
  H₀:=H
  env:=envOfC qual scope s.heap.objs.size f cd
  outer:=outer
  stack:=envOfC qual scope s.heap.objs.size f cd::outer
  ex:=[]
  calm:=true
  fn:=fun _=>true
  pn:=[]
  xe:=fun e s'=>wpAny (model P w) (A.deeper (envOfC qual scope s.heap.objs.size f cd)) (leaving (envOfC qual scope s.heap.objs.size f cd) e) (fun _ s''=>CX outer H s E e s'') (fun e' s''=>CX outer H s E e' s'') s'
theorem cell_has {sc:Scope} {n:Nat} {x:Str} (h:sc.names.lookup x=some .cell):∃ c,(cellsFrom n sc.names []).lookup x=some c:=by
  have q:=PySem.W.cellsFrom_some sc.names n [] (.inl h)
  exact Option.isSome_iff_exists.mp q
theorem inv_start {CX:CXT} {P:Program} {w:World} {K:PySem.W.Frag} {mg:Str→Option Value} {base:Heap} {N ps:List Str} {qual:Str} {scope:Scope} {f:Addr} {cd:Value} {A:Around} {outer:List Env} {s s1:Shared} {H:Hp} {E:XK} {us:List Value} {vs:List V}
    (S:FnScope N ps scope) (hd:A.handled=none) (e0:Env0 P w K mg base A outer s H) (hl:vs.length=ps.length) (r:Vals vs us)
    (x:InCallC s s.heap.objs.size (bindL (envOfC qual scope s.heap.objs.size f cd).kindOf (ps.zip us) fun _=>none) (cellsFrom (s.heap.objs.size+1) scope.names []) (bindC (envOfC qual scope s.heap.objs.size f cd).kindOf (ps.zip us) fun _=>none) s1) :
    Inv (cxOf CX P w K mg base N qual scope f cd A outer s H E) [] (start N vs) H s1:=by
  have hpl:ps.length≤N.length:=by have:=congrArg List.length S.pre; rw [List.length_take] at this; omega
  obtain ⟨h1,tk,rfl,hk⟩:=x.done
  have noA:∀ b:Addr,b∉(cxOf CX P w K mg base N qual scope f cd A outer s H E).ex:=fun b z=>absurd (show b∈([]:List Addr) from z) (by simp)
  refine ⟨⟨e0.mod,S.kind,rfl,rfl,Nat.le_refl _,fun y z c h1 h2=>?_,fun y hy=>?_,fun y c _ h=>?_,fun _=>hd,Around.frames_deeper e0.frames,.inr ⟨rfl,rfl⟩,fun b z=>absurd z (noA b),e0.bs,e0.bsz,fun b _ _=>noA b,fun b z=>absurd z (noA b),e0.funs,e0.frf⟩,
    rfl,e0.bare,Un.kept hk,⟨_,x.toInCall.ns,fun i y v h1 h2 h3=>?_⟩,fun y c h=>⟨_,x.cell y c h⟩,e0.hok.fresh (Nat.le_refl _),fun y c h=>?_,fun p hp=>absurd (show p∈([]:List (Addr×Obj)) from hp) (by simp),e0.hok.kept hk,?_⟩
  · exact name_of_addr x.apart (PySem.mem_of_lookup h1) (PySem.mem_of_lookup h2)
  · have hy:scope.names.lookup y=some .cell∨scope.names.lookup y=some .free:=hy
    rcases hy with hy | hy
    · exact cell_has hy
    · exact absurd rfl (S.nofree _ (PySem.mem_of_lookup hy))
  · exact Nat.le_of_lt (x.above y c (PySem.mem_of_lookup h))
  · have hi:i<vs.length:=by
      unfold start at h2
      by_cases hi:i<vs.length
      · exact hi
      · rw [List.getElem?_append_right (by simpa using hi)] at h2
        rw [List.getElem?_replicate] at h2
        split at h2 <;> cases h2
    have ha:vs[i]?=some v:=by
      unfold start at h2
      rw [List.getElem?_append_left (by simpa using hi),List.getElem?_map] at h2
      cases e:vs[i]? with
      | none=>rw [e] at h2; cases h2
      | some a=>rw [e] at h2; cases h2; rfl
    obtain ⟨u,hu,rv⟩:=r.get ha
    have hp:ps[i]?=some y:=by
      rw [← S.pre,List.getElem?_take_of_lt (by omega)]; exact h1
    have ndP:ps.Nodup:=by rw [← S.pre]; exact S.nd.sublist (List.take_sublist _ _)
    refine ⟨u,rv,?_⟩
    rcases S.par y (List.mem_of_getElem? hp) with k | k
    · exact .inl ⟨k,bindL_get ndP hp hu k⟩
    · obtain ⟨c,e⟩:=cell_has (n:=s.heap.objs.size+1) k
      refine .inr ⟨.inl k,c,e,?_⟩
      have q:=x.cell y c e
      rw [bindC_get ndP hp hu (by show scope.names.lookup y≠_; rw [k]; decide)] at q
      exact q
  · exact e0.hok.fresh (Nat.le_of_lt (x.above y c (PySem.mem_of_lookup h)))
  · unfold start
    show _=N.length
    rw [List.length_append,List.length_map,List.length_replicate]
    omega
theorem fn_of {CX:CXT} {P:Program} {w:World} {K:PySem.W.Frag} {mg:Str→Option Value} {base:Heap} {k:Nat} {f:Addr} {name qual:Str} {params:Arguments} {body:List Stmt} {scope:Scope} {dV kV doc pm cdv ct oc:Value} {an od:Option Addr}
    {osl:Array (Option Value)} {N ps:List Str} {sp:Sp} (lk:K.lookup f=some ⟨oc,od,.func (PySem.W.fnOf name qual params body scope dV kV doc pm an cdv ct),osl⟩) (hcd:PySem.W.codeIn K cdv qual=true) (S:FnScope N ps scope)
    (len:∀ vs H Q E,sp vs H Q E→vs.length=ps.length)
    (hbody:∀ (A:Around) (outer:List Env) (s:Shared) (H:Hp) (vs:List V) (Q:VK) (E:XK),Room k (A.deeper (envOfC qual scope s.heap.objs.size f cdv))→sp vs H Q E→
      ∃ t,PSs (cxOf CX P w K mg base N qual scope f cdv A outer s H E) body t∧t { nx:=fun _ H'=>Q .non H',rt:=Q } (start N vs) H) :
    FnOk P w K mg base CX (k+1) f (PySem.W.fnOf name qual params body scope dV kV doc pm an cdv ct) ps sp:=by
  refine ⟨len,fun A outer s H args us vs Q E hr e0 hb r hsp=>?_⟩
  have hl:=len _ _ _ _ hsp
  have KX:K.In s.heap:=e0.mod.kin.keeps fun b o e=>(e0.bs b o e).1
  have lim:s.heap.NoLimit:=e0.mod.nolimit.keeps fun b o e=>(e0.bs b o e).1
  have hkind:∀ y∈ps.zip us,scope.names.lookup y.1=some .local∨(scope.names.lookup y.1=some .cell∧((cellsFrom (s.heap.objs.size+1) scope.names []).lookup y.1).isSome=true):=fun ⟨n,v⟩ hy=>by
    rcases S.par n (List.of_mem_zip hy).1 with q | q
    · exact .inl q
    · exact .inr ⟨q,PySem.W.cellsFrom_some _ _ _ (.inl q)⟩
  refine codeAny_call_function hr.depth (KX _ _ lk) rfl S.co S.gen rfl (PySem.W.codeRec_of KX hcd) (hb _ _ _ _ ?_)
  refine wpAny_newFunctionEnv_cells S.kind hkind fun env he s1 x=>?_
  subst he
  refine ⟨lim.keeps x.toInCall.keep,codeAny_func ?_⟩
  obtain ⟨t,ht,hq⟩:=hbody A outer s H vs Q E (hr.deeper _) hsp
  have I:Inv (cxOf CX P w K mg base N qual scope f cdv A outer s H E) [] (start N vs) H s1:=inv_start S hr.hd e0 hl r x
  refine wpAny_mono (ht [] s1 (start N vs) H _ I hq) (fun fl s' hs=>?_) fun e s' hs=>hs
  have fin:∀ {σ':St} {H':Hp} {v:V} {u:Value},Inv (cxOf CX P w K mg base N qual scope f cdv A outer s H E) [] σ' H' s'→RelV v u→Q v H'→CE outer P w H s Q u s' :=
    fun {σ' H' v u} J rv q=>⟨v,H',J.os,J.bare,J.base,J.hok,rv,q⟩
  cases fl with
  | ret u =>
    obtain ⟨v,σ',H',J,rv,q⟩:=hs
    exact fin J rv q
  | next =>
    obtain ⟨σ',H',J,q⟩:=hs
    exact fin (v:=V.non) (u:=Value.none) J rfl q
  | brk =>
    obtain ⟨_,_,_,q⟩:=hs
    exact False.elim q
  | cont =>
    obtain ⟨_,_,_,q⟩:=hs
    exact False.elim q
end L2
namespace L2
open PySem PySem.Spec PyProof.Rows
section
variable {X:Cx} {x:Str} {p pos:Pos} {e:Expr} {es:List Expr} {t:TA} {id T:String} {r:List V→Hp→VK→Prop}
def tCB (r:List V→Hp→VK→Prop) (t:TA):TE:=fun σ H Q=>t σ H fun vs H1=>r vs H1 Q
theorem pe_callB (hc:CallR X (.builtin id) r) (hg:Gl X x) (hm:X.mg x=none) (hv:bootBuiltins x=some (.builtin id)) (ha:PA X (e::es) t) (hn:x≠"__name__":=by decide) (hdb:(x == ("__debug__":Str))=false:=by decide)
    (he:starEach (e::es) X.env=(false,eval e X.env)::starEach es X.env:=by rfl) (hpl:(backTo pos (starEach es X.env)).any (·.1)=false:=by rfl):PE X (.Call (.Name x p) (e::es) [] pos) (tCB r t):=by
  intro pins s σ H Q I h
  refine wpAny_Call_Name_kw (ld_blt I hg hm hv ?_ hn hdb)
  exact PyProof.Rows.callWith_builtin1 (thn (ha pos pins s σ H _ I h) fun us s1 ⟨vs,H1,I1,r1,q1⟩=>hc pins s1 σ H1 vs us Q I1 r1 q1) he hpl
theorem pe_callTy (hc:CallR X (.type T) r) (hg:Gl X x) (hm:X.mg x=none) (hv:bootBuiltins x=some (.type T)) (ha:PA X (e::es) t) (hn:x≠"__name__":=by decide) (hdb:(x == ("__debug__":Str))=false:=by decide)
    (he:starEach (e::es) X.env=(false,eval e X.env)::starEach es X.env:=by rfl) (hpl:(backTo pos (starEach es X.env)).any (·.1)=false:=by rfl):PE X (.Call (.Name x p) (e::es) [] pos) (tCB r t):=by
  intro pins s σ H Q I h
  refine wpAny_Call_Name_kw (ld_blt I hg hm hv ?_ hn hdb)
  exact PyProof.Rows.callWith_type1 (thn (ha pos pins s σ H _ I h) fun us s1 ⟨vs,H1,I1,r1,q1⟩=>hc pins s1 σ H1 vs us Q I1 r1 q1) he hpl
end
end L2
namespace HT
open PySem PyProof.Rows
def lexLt:List Int→List Int→Bool
  | [],[]=>false
  | [],_::_=>true
  | _::_,[]=>false
  | x::xs,y::ys=>if x=y then lexLt xs ys else decide (x<y)
section
open PySem.SeqAt
open PySem.AutoSeq1 (wpAny_loadPart')
open PySem.MeetsSeq PySem.MeetsSeq2 PySem.MeetsSeq3
end
section
variable {prog:Program} {w:World} {A:Around} {E:Value→Shared→Prop} {s:Shared}
theorem cat_tup {t b:Addr} {vs ws:List Value} {Q:Value→Shared→Prop} (ht:IsTup s.heap t vs.toArray) (hb:IsTup s.heap b ws.toArray) (hv:vs≠[])
    (h1:ws=[]→Q (.ref t) s) (h2:ws≠[]→Q (.ref s.heap.objs.size) { s with heap:=s.heap.push { cls:=.type "tuple",data:=.seq (vs++ws).toArray } })
    (hsz:vs.length+ws.length≤sizeLine):wpAny (model prog w) A (binaryOp .Add (.ref t) (.ref b)) Q E s:=by
  obtain ⟨⟨cls,dd,data,sl⟩,ho,hc,n,hd⟩:=id ht
  obtain ⟨⟨cls2,dd2,data2,sl2⟩,ho2,hc2,n2,hd2⟩:=id hb
  simp only at hc hd hc2 hd2
  subst hc hd hc2 hd2
  have e:vs.toArray++ws.toArray=(vs++ws).toArray:=by simp
  by_cases hw:ws=[]
  · exact concat_meets ⟨_,ho,rfl⟩ ⟨_,ho2,rfl⟩ noFill_tuple_add seq_tuple_add PySem.F.slot_tuple_add PySem.F.entry_tuple_add (PySem.F.args_tuple_add_2 _ _)
      (tuple_addW1 t b vs.toArray ws.toArray n n2 dd dd2 sl sl2 (by simpa using hv) (by simp [hw])) ⟨ho,ho2,h1 hw⟩
  · refine concat_meets ⟨_,ho,rfl⟩ ⟨_,ho2,rfl⟩ noFill_tuple_add seq_tuple_add PySem.F.slot_tuple_add PySem.F.entry_tuple_add (PySem.F.args_tuple_add_2 _ _)
      (tuple_addW2 t b vs.toArray ws.toArray n n2 dd dd2 sl sl2 (by simpa using hv) (by simpa using hw) (by rw [List.size_toArray,List.size_toArray]; exact hsz)) ⟨ho,ho2,?_⟩
    rw [e]
    exact h2 hw
def sIx (n d:Nat):Option Int→Nat
  | none=>d
  | some v=>if v<0 then (v+(n:Int)).toNat else min v.toNat n
theorem sIx_none (n d:Nat):sIx n d none=d:=rfl
theorem sIx_nat (n d k:Nat):sIx n d (some (k:Int))=min k n:=by
  show (if (k:Int)<0 then ((k:Int)+(n:Int)).toNat else min (k:Int).toNat n)=min k n
  rw [if_neg (by omega),Int.toNat_natCast]
theorem sIx_le (n d:Nat) (hd:d≤n) (o:Option Int):sIx n d o≤n:=by
  cases o with
  | none=>exact hd
  | some v =>
    show (if v<0 then (v+(n:Int)).toNat else min v.toNat n)≤n
    by_cases hv:v<0
    · rw [if_pos hv]; omega
    · rw [if_neg hv]; exact Nat.min_le_right _ _
theorem clip_eq (v:Int) (n d:Nat):(if v<0 then max (v+(n:Int)) 0 else min v (n:Int))=((sIx n d (some v):Nat):Int):=by
  show (if v<0 then max (v+(n:Int)) 0 else min v (n:Int))=(((if v<0 then (v+(n:Int)).toNat else min v.toNat n):Nat):Int)
  by_cases hv:v<0
  · simp only [if_pos hv]; omega
  · simp only [if_neg hv]; omega
theorem adjust_gen (lo hi:Option Int) (n:Nat):Builtin.Slice.sliceAdjust lo hi 1 (n:Int)=(((sIx n 0 lo:Nat):Int),((sIx n n hi:Nat):Int)):=by
  have h1:¬ ((1:Int)<0):=by omega
  unfold Builtin.Slice.sliceAdjust
  simp only [h1,if_false]
  refine Prod.ext ?_ ?_
  · cases lo with
    | none=>rfl
    | some v=>exact clip_eq v n 0
  · cases hi with
    | none=>rfl
    | some v=>exact clip_eq v n n
theorem places_gen (i j:Nat):Builtin.Slice.slicePlaces (i:Int) (j:Int) 1=j - i:=by
  unfold Builtin.Slice.slicePlaces
  have h1:(1:Int) > 0:=by omega
  simp only [h1,if_true,Int.ediv_one]
  split <;> omega
theorem slicePart_ {v:Value} {o:Option Int} {Q:Option Int→Shared→Prop} (p:IsPart v o) (h:Q o s):wpAny (model prog w) A (Builtin.Slice.slicePartIndex v) Q E s:=by
  cases p with
  | none=>exact slicePart_none h
  | int i t=>exact slicePart_int h
theorem sliceApplied_gen {sl:Addr} {vl vu:Value} {lo hi:Option Int} {n:Nat} {Q:Int×Int×Nat→Shared→Prop} (hs:s.heap.IsSliceOf sl vl vu .none) (pl:IsPart vl lo) (pu:IsPart vu hi)
    (h:Q (((sIx n 0 lo:Nat):Int),1,sIx n n hi - sIx n 0 lo) s):wpAny (model prog w) A (Builtin.Slice.sliceApplied (.ref sl) (pure (n:Int))) Q E s:=by
  obtain ⟨os,hos,hcs,hds⟩:=id hs
  unfold Builtin.Slice.sliceApplied Builtin.Slice.sliceFields
  refine wpAny_bind (wpAny_bind (wpAny_field hos hds (x:=vl) rfl (wpAny_bind (wpAny_field hos hds (x:=vu) rfl (wpAny_bind (wpAny_field hos hds (x:=.none) rfl (wpAny_pure ?_)))))))
  refine wpAny_bind (slicePart_none ?_)
  show wpAny _ _ (if ((1:Int) == 0)=true then _ else _) _ _ s
  rw [if_neg (by decide)]
  refine wpAny_bind (slicePart_ pl (wpAny_bind (slicePart_ pu (wpAny_bind (wpAny_pure ?_)))))
  show wpAny _ _ (match Builtin.Slice.sliceAdjust lo hi 1 (n:Int) with | (lo,hi)=>pure (lo,(1:Int),Builtin.Slice.slicePlaces lo hi 1)) _ _ s
  rw [adjust_gen lo hi n]
  show wpAny _ _ (pure (((sIx n 0 lo:Nat):Int),(1:Int),Builtin.Slice.slicePlaces ((sIx n 0 lo:Nat):Int) ((sIx n n hi:Nat):Int) 1)) _ _ s
  rw [places_gen]
  exact wpAny_pure h
theorem pick_gen (xs:Array Value) (i k:Nat):((List.range k).filterMap fun (m:Nat)=>xs[((i:Int)+(m:Int) * 1).toNat]?).toArray=((xs.toList.drop i).take k).toArray:=by
  have e:(fun (m:Nat)=>xs[((i:Int)+(m:Int) * 1).toNat]?)=fun m=>xs[i+m]?:=by
    funext m
    have:((i:Int)+(m:Int) * 1).toNat=i+m:=by omega
    rw [this]
  rw [e]
  have:=pick_run xs i k
  rw [List.filterMap_map] at this
  have e2:((fun x=>xs[x]?) ∘ fun x=>i+x)=fun m=>xs[i+m]?:=rfl
  rw [e2] at this
  rw [this]
theorem getItem_tuple_cut {t sl:Addr} {items:Array Value} {vl vu:Value} {lo hi:Option Int} {Q:Value→Shared→Prop} (ht:IsTup s.heap t items) (hs:s.heap.IsSliceOf sl vl vu .none) (pl:IsPart vl lo) (pu:IsPart vu hi)
    (hw:¬ (sIx items.size 0 lo=0∧sIx items.size items.size hi=items.size))
    (h:Q (.ref s.heap.objs.size) { s with heap:=s.heap.push { cls:=.type "tuple",data:=.seq ((items.toList.drop (sIx items.size 0 lo)).take (sIx items.size items.size hi - sIx items.size 0 lo)).toArray } })
    (hsz:items.size≤sizeLine):wpAny (model prog w) A (getItem (.ref t) (.ref sl)) Q E s:=by
  have htake:sizeOk (.seq ((items.toList.drop (sIx items.size 0 lo)).take (sIx items.size items.size hi - sIx items.size 0 lo)).toArray):=by
    show ((items.toList.drop (sIx items.size 0 lo)).take (sIx items.size items.size hi - sIx items.size 0 lo)).toArray.size≤sizeLine
    rw [List.size_toArray,List.length_take,List.length_drop,Array.length_toList]
    omega
  have hj:sIx items.size items.size hi≤items.size:=sIx_le _ _ (Nat.le_refl _) hi
  obtain ⟨os,hos,hcs,hds⟩:=id hs
  have hTs:s.TypeIs (.ref sl) "slice":=⟨os,hos,hcs⟩
  unfold getItem
  try with_reducible refine wpAny_holding ?_
  first | refine wpAny_bind (wpAny_pure ?_) | skip
  refine wpAny_bind (wpAny_sequenceKey ht.typeIs (by decide) ?_)
  refine wpAny_bind (wpAny_callSpecial?_slot (name:=Str.ofString "__getitem__") ht.typeIs PyProof.Rows.slot_tuple_getitem
    (wpAny_call_entry PyProof.Rows.slot_tuple_getitem ht.typeIs entry_tuple_getitem ?_ (args_tuple_getitem _ _)))
  show wpAny _ _ (Builtin.Tuple.tupleItemsOf (.ref t) >>= _) _ _ s
  refine wpAny_bind (tupleItemsOf_ ht ?_)
  refine wpAny_bind (wpAny_typeOf hTs ?_)
  rw [if_pos (by decide)]
  refine wpAny_bind (sliceApplied_gen hs pl pu ?_)
  have hno:¬ ((((sIx items.size 0 lo:Nat):Int) == 0 && (1:Int) == 1 && (sIx items.size items.size hi - sIx items.size 0 lo) == items.size)=true):=by
    intro q
    rw [Bool.and_eq_true,Bool.and_eq_true] at q
    have q1:((sIx items.size 0 lo:Nat):Int)=0:=eq_of_beq q.1.1
    have q2:sIx items.size items.size hi - sIx items.size 0 lo=items.size:=eq_of_beq q.2
    exact hw ⟨by omega,by omega⟩
  show wpAny _ _ (if (((sIx items.size 0 lo:Nat):Int) == 0 && (1:Int) == 1 && (sIx items.size items.size hi - sIx items.size 0 lo) == items.size)=true then _ else _) _ _ s
  rw [if_neg hno,pick_gen]
  first
    | exact wpAny_bind (m:=Builtin.Tuple.tupleExact _) (wpAny_newObj_type (wpAny_pure ⟨_,rfl,wpAny_pure h⟩) htake)
    | exact wpAny_bind (m:=Builtin.Tuple.tupleExact _) (wpAny_newObj_type (wpAny_bind (wpAny_pure (wpAny_pure ⟨_,rfl,wpAny_pure h⟩))) htake)
    | exact wpAny_bind (wpAny_bind (m:=Builtin.Tuple.tupleExact _) (wpAny_newObj_type (wpAny_pure (wpAny_pure ⟨_,rfl,wpAny_pure h⟩)) htake))
    | exact wpAny_bind (wpAny_bind (m:=Builtin.Tuple.tupleExact _) (wpAny_newObj_type (wpAny_pure ⟨_,rfl,wpAny_pure h⟩) htake))
end
end HT
namespace L2
open PySem PySem.Spec PyProof.Rows
abbrev TO:=St→Hp→(Option Int→Hp→Prop)→Prop
def PO (X:Cx) (e:Option Expr) (t:TO):Prop :=
  ∀ (pins:List (Addr×Obj)) (s:Shared) (σ:St) (H:Hp) (Q:Option Int→Hp→Prop),Inv X pins σ H s→t σ H Q→
    wpAny (model X.prog X.w) X.A (evalPart e X.env) (fun u s'=>∃ o H',Inv X pins σ H' s'∧IsPart u o∧Q o H') X.xe s
def tNoPart:TO:=fun _ H Q=>Q none H
def tPart (t:TE):TO:=fun σ H Q=>t σ H fun x H1=>∃ i,x=.int i∧Q (some i) H1
theorem intsAre_of {ns:List Int}:∀ {us:List Value},Vals (ns.map V.int) us→IntsAre us ns:=by
  induction ns with
  | nil=>intro us r; rw [List.map_nil] at r; cases r; exact .nil
  | cons n ns ih =>
    intro us r
    rw [List.map_cons] at r
    cases r with
    | cons r1 r2 =>
      obtain ⟨t,e⟩:=r1
      subst e
      exact .cons n t (ih r2)
section
variable {X:Cx} {e:Expr} {te:TE} {lo hi:Option Expr} {tl th:TO} {pos p2:Pos}
theorem po_none:PO X none tNoPart:=by
  intro pins s σ H Q I h
  rw [evalPart_none]
  exact wpAny_pure ⟨none,H,I,.none,h⟩
theorem po_some (h:PE X e te):PO X (some e) (tPart te):=by
  intro pins s σ H Q I hw
  rw [evalPart_some]
  refine thn (h pins s σ H _ I hw) fun u s1 ⟨x,H1,I1,r1,q1⟩=>?_
  obtain ⟨i,rfl,q⟩:=q1
  obtain ⟨t,rfl⟩:=r1
  exact ⟨some i,H1,I1,.int i t,q⟩
def SlR (X:Cx) (r:V→Option Int→Option Int→Hp→VK→Prop):Prop :=
  ∀ (pins:List (Addr×Obj)) (s:Shared) (σ:St) (H:Hp) (x:V) (v vl vu:Value) (lo hi:Option Int) (sl:Addr) (Q:VK),Inv X pins σ H s→RelV x v→s.heap.IsSliceOf sl vl vu .none→IsPart vl lo→IsPart vu hi→r x lo hi H Q→
    ∃ T id,typeLookup (.type T) "__getitem__"=pure (some (.builtin id))∧s.TypeIs v T∧wpAny (model X.prog X.w) X.A (getItem v (.ref sl)) (EP X pins σ Q) X.xe s
def tSl (r:V→Option Int→Option Int→Hp→VK→Prop) (te:TE) (tl th:TO):TE:=fun σ H Q=>te σ H fun x H1=>tl σ H1 fun l H2=>th σ H2 fun u H3=>r x l u H3 Q
theorem pe_slice {r:V→Option Int→Option Int→Hp→VK→Prop} (hr:SlR X r) (he:PE X e te) (hl:PO X lo tl) (hu:PO X hi th):PE X (.Subscript e (.Slice lo hi none p2) pos) (tSl r te tl th):=by
  intro pins s σ H Q I h
  refine Subscript_ (thn (he pins s σ H _ I h) fun v s1 ⟨x,H1,I1,r1,q1⟩=>?_)
  refine wpAny_Slice (thn (hl pins s1 σ H1 _ I1 q1) fun vl s2 ⟨l,H2,I2,pl,q2⟩=>thn (hu pins s2 σ H2 _ I2 q2) fun vu s3 ⟨u,H3,I3,pu,q3⟩=>?_)
  rw [evalPart_none]
  refine wpAny_pure ?_
  have I4:Inv X pins σ H3 { s3 with heap:=s3.heap.push { cls:=.type "slice",data:=.fields #[vl,vu,.none] } }:=I3.kept (t':=s3.toks) fun b ob q=>Heap.get?_push_of_some _ q
  obtain ⟨T,id,hT,ht,hg⟩:=hr pins { s3 with heap:=s3.heap.push { cls:=.type "slice",data:=.fields #[vl,vu,.none] } } σ H3 x v vl vu l u s3.heap.objs.size Q I4 r1 (Heap.IsSliceOf.new ..) pl pu q3
  show wpAny (model X.prog X.w) X.A (subscriptTail e (.Slice lo hi none p2) v (.ref s3.heap.objs.size)) (EP X pins σ Q) X.xe { s3 with heap:=s3.heap.push { cls:=.type "slice",data:=.fields #[vl,vu,.none] } }
  exact tail_any (ops:=[.ref s3.heap.objs.size,v]) ht hT hg (by with_unfolding_all rfl)
def cutV (xs:List V) (lo hi:Option Int):List V:=(xs.drop (HT.sIx xs.length 0 lo)).take (HT.sIx xs.length xs.length hi - HT.sIx xs.length 0 lo)
theorem cutV_length (xs:List V) (lo hi:Option Int):(cutV xs lo hi).length≤xs.length:=by
  unfold cutV
  rw [List.length_take,List.length_drop]
  omega
def rSlT (K:PySem.W.Frag):V→Option Int→Option Int→Hp→VK→Prop:=fun x lo hi H Q=>∃ a xs,x=.ref a∧SqT K H a xs∧
  ¬ (HT.sIx xs.length 0 lo=0∧HT.sIx xs.length xs.length hi=xs.length)∧∀ p,H p=none→Q (.ref p) (upd H p (.tup (cutV xs lo hi)))
theorem sl_tup:SlR X (rSlT X.K):=by
  intro pins s σ H x v vl vu lo hi sl Q I rx hs pl pu h
  obtain ⟨a,xs,rfl,hx,hw,q⟩:=h
  cases rx
  obtain ⟨its,r,ht,hz⟩:=I.tuple hx
  have hlen:its.toArray.size=xs.length:=by rw [List.size_toArray]; exact r.length.symm
  refine ⟨"tuple",_,PyProof.Rows.slot_tuple_getitem.lookup,ht.typeIs,?_⟩
  refine HT.getItem_tuple_cut ht hs pl pu (by rw [hlen]; exact hw) ?_ (by rw [hlen]; exact hz)
  rw [hlen]
  refine ⟨.ref s.heap.objs.size,_,I.laid (t':=s.toks) (o:=.tup (cutV xs lo hi)) (fun b ob q=>Heap.get?_push_of_some _ q) (Nat.le_refl _) ?_,rfl,q _ (I.hok.fresh (Nat.le_refl _))⟩
  exact ⟨Nat.le_trans (cutV_length xs lo hi) hz,_,(r.drop (HT.sIx xs.length 0 lo)).take (HT.sIx xs.length xs.length hi - HT.sIx xs.length 0 lo),IsTup.new _ _⟩
def rLtT (K:PySem.W.Frag):R2:=fun x y H Q=>∃ a b ns ms,x=.ref a∧y=.ref b∧SqT K H a (ns.map V.int)∧SqT K H b (ms.map V.int)∧Q (.bl (HT.lexLt ns ms)) H
def rCatT (K:PySem.W.Frag):R2:=fun x y H Q=>∃ a b xs ys,x=.ref a∧y=.ref b∧SqT K H a xs∧SqT K H b ys∧xs≠[]∧xs.length+ys.length≤sizeLine∧
  (ys=[]→Q (.ref a) H)∧(ys≠[]→∀ p,H p=none→Q (.ref p) (upd H p (.tup (xs++ys))))
theorem Vals.nil_iff {xs:List V} {us:List Value} (r:Vals xs us):us=[]↔xs=[]:=by
  cases r with
  | nil=>simp
  | cons _ _=>simp
theorem op_catT:OpR X (binaryOp .Add) (rCatT X.K):=by
  intro pins s σ H x y v u Q I rx ry h
  obtain ⟨a,b,xs,ys,rfl,rfl,ha,hb,hx,hz,q1,q2⟩:=h
  cases rx
  cases ry
  obtain ⟨its,r1,p1,_⟩:=I.tuple ha
  obtain ⟨its2,r2,p2,_⟩:=I.tuple hb
  refine HT.cat_tup p1 p2 (fun z=>hx (r1.nil_iff.mp z)) (fun z=>⟨.ref a,H,I,rfl,q1 (r2.nil_iff.mp z)⟩) (fun z=>?_) (by rw [← r1.length,← r2.length]; exact hz)
  refine ⟨.ref s.heap.objs.size,_,I.laid (t':=s.toks) (o:=.tup (xs++ys)) (fun b ob q=>Heap.get?_push_of_some _ q) (Nat.le_refl _) ?_,rfl,q2 (fun w=>z (r2.nil_iff.mpr w)) _ (I.hok.fresh (Nat.le_refl _))⟩
  exact ⟨by rw [List.length_append]; exact hz,_,r1.append r2,IsTup.new _ _⟩
end
end L2
namespace L2
open PySem PySem.Spec PyProof.Rows
def ixN (n:Nat) (i:Int):Option Nat:=if 0≤i then (if i<n then some i.toNat else none) else if -(n:Int)≤i then some (i+n).toNat else none
def atI {α:Type} (xs:List α) (i:Int):Option α:=(ixN xs.length i).bind fun j=>xs[j]?
theorem ixN_seq {n:Nat} {i:Int} {j:Nat} (h:ixN n i=some j):seqIndex? i n=some j∧j<n∧-(n:Int)≤i∧i<n:=by
  unfold ixN at h
  by_cases h0:0≤i
  · rw [if_pos h0] at h
    by_cases h1:i<n
    · rw [if_pos h1] at h
      have e:i.toNat=j:=Option.some.inj h
      exact ⟨by rw [seqIndex_of h0 h1,e],by omega,by omega,h1⟩
    · rw [if_neg h1] at h; cases h
  · rw [if_neg h0] at h
    by_cases h1:-(n:Int)≤i
    · rw [if_pos h1] at h
      have e:(i+n).toNat=j:=Option.some.inj h
      exact ⟨by rw [seqIndex_neg (by omega) h1,e],by omega,h1,by omega⟩
    · rw [if_neg h1] at h; cases h
theorem atI_get {α:Type} {xs:List α} {i:Int} {v:α} (h:atI xs i=some v):∃ j,seqIndex? i xs.length=some j∧xs[j]?=some v∧j<xs.length∧-(xs.length:Int)≤i∧i<xs.length:=by
  unfold atI at h
  cases e:ixN xs.length i with
  | none=>rw [e] at h; cases h
  | some j =>
    rw [e] at h
    obtain ⟨h1,h2,h3,h4⟩:=ixN_seq e
    exact ⟨j,h1,h,h2,h3,h4⟩
theorem atI_nat {α:Type} {xs:List α} {j:Nat} {v:α} (h:xs[j]?=some v):atI xs (j:Int)=some v:=by
  have hj:j<xs.length:=(List.getElem?_eq_some_iff.mp h).1
  have e:ixN xs.length (j:Int)=some j:=by
    unfold ixN
    rw [if_pos (by omega),if_pos (by omega)]; simp
  unfold atI; rw [e]; exact h
def PlainIx (b:Expr):Prop:=∀ o i,subscripted b false o i=operate [o,i] (getItem o i)
def IxR (X:Cx) (r:R2):Prop :=
  ∀ (value slice:Expr) (pins:List (Addr×Obj)) (s:Shared) (σ:St) (H:Hp) (x y:V) (v u:Value) (Q:VK),Inv X pins σ H s→RelV x v→RelV y u→r x y H Q→
    subscripted slice false v u=operate [v,u] (getItem v u)→wpAny (model X.prog X.w) X.A (subscriptTail value slice v u) (EP X pins σ Q) X.xe s
def MtR (X:Cx) (id:String) (r:V→List V→Hp→VK→Prop):Prop :=
  ∀ (pins:List (Addr×Obj)) (s:Shared) (σ:St) (H:Hp) (x:V) (xs:List V) (v:Value) (us:List Value) (Q:VK),Inv X pins σ H s→RelV x v→Vals xs us→r x xs H Q→
    wpAny (model X.prog X.w) X.A (call (.builtin id) (v::us)) (EP X pins σ Q) X.xe s
section
variable {X:Cx} {a b:Expr} {ta tb:TE} {pos:Pos}
theorem pe_ix {r:R2} (hr:IxR X r) (ha:PE X a ta) (hb:PE X b tb) (hs:PlainIx b):PE X (.Subscript a b pos) (tOp r ta tb):=by
  intro pins s σ H Q I h
  exact Subscript_ (binT ha hb I h fun v u s2 x y H2 I2 rx ry q=>hr a b pins s2 σ H2 x y v u Q I2 rx ry q (hs _ _))
def rIxL (K:PySem.W.Frag):R2:=fun x y H Q=>∃ p xs i v,x=.ref p∧y=.int i∧SqL K H p xs∧atI xs i=some v∧Q v H
def rIxT (K:PySem.W.Frag):R2:=fun x y H Q=>∃ p xs i v,x=.ref p∧y=.int i∧SqT K H p xs∧atI xs i=some v∧Q v H
def rIxS:R2:=fun x y H Q=>∃ z i c,x=.str z∧y=.int i∧z.length≤sizeLine∧atI z.cps.toList i=some c∧Q (.str ⟨#[c]⟩) H
theorem ix_list:IxR X (rIxL X.K):=by
  intro value slice pins s σ H x y v u Q I rx ry h hs
  obtain ⟨p,xs,i,z,rfl,rfl,hq,he,q⟩:=h
  cases rx
  obtain ⟨t,rfl⟩:=ry
  obtain ⟨its,r,pl,hz⟩:=I.list hq
  obtain ⟨j,h1,h2,h3,h4,h5⟩:=atI_get he
  obtain ⟨w,ew,rw'⟩:=r.get h2
  have hl:=r.length
  have hn:=line63
  have fin:EP X pins σ Q w s:=⟨z,H,I,rw',q⟩
  by_cases h0:0≤i
  · have hj:i.toNat=j:=by
      rw [seqIndex_of h0 h5] at h1
      exact Option.some.inj h1
    exact item_listR pl.isList h0 (by omega) (by rw [hj]; simpa using ew) fin hs
  · have hj:(i+(its.toArray.size:Int)).toNat=j:=by
      rw [seqIndex_neg (by omega) h4] at h1
      rw [List.size_toArray,← hl]
      exact Option.some.inj h1
    exact subscriptTail_builtinR (x:=w) pl.isList.typeIs slot_list_getitem.lookup
      (wpAny_getItem_list_neg (Q:=fun r s'=>r=w∧EP X pins σ Q r s') pl.isList (by omega) (by rw [List.size_toArray] <;> omega) (by omega) (by rw [hj]; simpa using ew) ⟨rfl,fin⟩) hs
theorem ix_tup:IxR X (rIxT X.K):=by
  intro value slice pins s σ H x y v u Q I rx ry h hs
  obtain ⟨p,xs,i,z,rfl,rfl,hq,he,q⟩:=h
  cases rx
  obtain ⟨t,rfl⟩:=ry
  obtain ⟨its,r,pl,hz⟩:=I.tuple hq
  obtain ⟨j,h1,h2,h3,h4,h5⟩:=atI_get he
  obtain ⟨w,ew,rw'⟩:=r.get h2
  have hl:=r.length
  have hn:=line63
  have fin:EP X pins σ Q w s:=⟨z,H,I,rw',q⟩
  exact subscriptTail_builtinR (x:=w) pl.typeIs slot_tuple_getitem.lookup
    (getItem_tuple (j:=j) (Q:=fun r s'=>r=w∧EP X pins σ Q r s') pl (by omega) (by omega) (by rw [List.size_toArray,← hl]; exact h1) (by simpa using ew) ⟨rfl,fin⟩) hs
theorem ix_str:IxR X rIxS:=by
  intro value slice pins s σ H x y v u Q I rx ry h hs
  obtain ⟨z,i,c,rfl,rfl,hz,he,q⟩:=h
  obtain ⟨t,rfl⟩:=rx
  obtain ⟨t',rfl⟩:=ry
  obtain ⟨j,h1,h2,h3,h4,h5⟩:=atI_get he
  have hl:z.cps.toList.length=z.length:=by simp [Str.length]
  rw [hl] at h1 h4 h5
  have hn:=line63
  exact tail_any (typeIs_str s z t) slot_str_getitem.lookup (getItem_str (c:=c) (by
    have e1:decide (i < -(2 ^ 63:Int))=false:=decide_eq_false (by omega)
    have e2:decide (i ≥ 2 ^ 63)=false:=decide_eq_false (by omega)
    rw [e1,e2,Bool.or_false]) (by rw [h1]; simpa using h2) ⟨.str ⟨#[c]⟩,H,I.tok _,⟨_,rfl⟩,q⟩) hs
def rIx (K:PySem.W.Frag):R2:=fun x y H Q=>rIxL K x y H Q∨rIxT K x y H Q∨rIxS x y H Q
theorem mapSeq_set (its:List Value) (n j:Nat) (u:Value):Obj.mapSeq (·.setIfInBounds j u) { cls:=.type "list",data:=.seq its.toArray n }={ cls:=.type "list",data:=.seq (its.set j u).toArray n }:=by
  simp [Obj.mapSeq]
theorem Inv.lst {pins:List (Addr×Obj)} {σ:St} {H:Hp} {s:Shared} {p:Addr} {xs:List V} (I:Inv X pins σ H s) (h:H p=some (.lst xs)) :
    ∃ (its:List Value) (n:Nat),Vals xs its∧s.heap.get? p=some { cls:=.type "list",data:=.seq its.toArray n }∧xs.length≤sizeLine:=by
  obtain ⟨z,its,n,r,e⟩:=I.hok p _ h
  exact ⟨its,n,r,e,z⟩
theorem Inv.lstUpd {pins:List (Addr×Obj)} {σ:St} {H:Hp} {s:Shared} {p:Addr} {xs ys:List V} {its its':List Value} {n n':Nat} {f:Obj→Obj} (I:Inv X pins σ H s) (h:H p=some (.lst xs))
    (ho:s.heap.get? p=some { cls:=.type "list",data:=.seq its.toArray n }) (hf:f { cls:=.type "list",data:=.seq its.toArray n }={ cls:=.type "list",data:=.seq its'.toArray n' }) (r:Vals ys its') (hz:ys.length≤sizeLine) (t:Nat) :
    Inv X pins σ (upd H p (.lst ys)) { s with heap:=s.heap.update p f,toks:=t }:=by
  have e:(s.heap.update p f).get? p=some { cls:=.type "list",data:=.seq its'.toArray n' }:=by
    rw [Heap.get?_update_self f ho (by rw [hf] <;> rfl),hf]
  refine I.write (x:=p) (e:=p) (by rw [h]; trivial) (.inl rfl) (fun b u hb q=>(Heap.get?_update_other _ _ (Ne.symm hb)).trans q) ⟨_,e⟩ ?_
  exact ⟨hz,its',n',r,e⟩
def rSetL:V→V→V→Hp→(Hp→Prop)→Prop:=fun o i v H Q=>∃ p xs k j,o=.ref p∧i=.int k∧H p=some (.lst xs)∧ixN xs.length k=some j∧Q (upd H p (.lst (xs.set j v)))
theorem set_list:PSet X rSetL:=by
  intro pins s σ H o i v ov iv u Q I ro ri rv h
  obtain ⟨p,xs,k,j,rfl,rfl,hp,hj,q⟩:=h
  cases ro
  obtain ⟨t,rfl⟩:=ri
  obtain ⟨its,n,r,ho,hz⟩:=I.lst hp
  obtain ⟨h1,h2,h3,h4⟩:=ixN_seq hj
  have hl:=r.length
  have hn:=line63
  have I':Inv X pins σ (upd H p (.lst (xs.set j v))) { s with heap:=s.heap.update p (Obj.mapSeq (·.setIfInBounds j u)) } :=
    I.lstUpd hp ho (mapSeq_set its n j u) (r.set rv j) (by rw [List.length_set]; exact hz) s.toks
  by_cases h0:0≤k
  · have hk:k.toNat=j:=by
      rw [seqIndex_of h0 h4] at h1
      exact Option.some.inj h1
    exact PySem.W.ki_setAt ho h0 (by omega) (by rw [List.size_toArray,← hl]; exact h4) (by rw [hk]; exact ⟨_,I',q⟩)
  · have hk:(k+(its.toArray.size:Int)).toNat=j:=by
      rw [seqIndex_neg (by omega) h3] at h1
      rw [List.size_toArray,← hl]
      exact Option.some.inj h1
    exact PySem.W.ki_setBack ho (by omega) (by rw [List.size_toArray,← hl]; exact h3) (by omega) (by rw [hk]; exact ⟨_,I',q⟩)
theorem slice_bounds (lo hi:Option Int) (n:Nat):(sliceBounds lo hi none n).1=((HT.sIx n 0 lo:Nat):Int)∧(sliceBounds lo hi none n).2.1=((HT.sIx n n hi:Nat):Int)∧(sliceBounds lo hi none n).2.2=1:=by
  refine ⟨?_,?_,rfl⟩
  · cases lo with
    | none=>simp [sliceBounds,HT.sIx]
    | some i =>
      simp only [sliceBounds,HT.sIx,Option.getD_none,show (1:Int) > 0 by decide,if_true]
      by_cases h:i<0
      · simp only [h,if_true] <;> omega
      · simp only [h,if_false] <;> omega
  · cases hi with
    | none=>simp [sliceBounds,HT.sIx]
    | some i =>
      simp only [sliceBounds,HT.sIx,Option.getD_none,show (1:Int) > 0 by decide,if_true]
      by_cases h:i<0
      · simp only [h,if_true] <;> omega
      · simp only [h,if_false] <;> omega
theorem slicePick_cut (its:List Value) (lo hi:Option Int):slicePick its.toArray lo hi none=((its.drop (HT.sIx its.length 0 lo)).take (HT.sIx its.length its.length hi - HT.sIx its.length 0 lo)).toArray:=by
  obtain ⟨h1,h2,h3⟩:=slice_bounds lo hi its.toArray.size
  unfold slicePick
  rw [h1,h2,h3]
  simp only [sliceRange_one,pick_run,List.size_toArray] <;> rfl
def rSlL (K:PySem.W.Frag):V→Option Int→Option Int→Hp→VK→Prop:=fun x lo hi H Q=>∃ a xs,x=.ref a∧SqL K H a xs∧∀ p,H p=none→Q (.ref p) (upd H p (.lst (cutV xs lo hi)))
theorem sl_list:SlR X (rSlL X.K):=by
  intro pins s σ H x v vl vu lo hi sl Q I rx hs pl pu h
  obtain ⟨a,xs,rfl,hx,q⟩:=h
  cases rx
  obtain ⟨its,r,ht,hz⟩:=I.list hx
  have hlen:=r.length
  refine ⟨"list",_,slot_list_getitem.lookup,ht.isList.typeIs,?_⟩
  refine wpAny_getItem_list_slice ht.isList hs pl pu .none (by simp) ?_ (by rw [List.size_toArray] <;> omega)
  rw [slicePick_cut,← hlen]
  refine ⟨.ref s.heap.objs.size,_,I.laid (t':=s.toks) (o:=.lst (cutV xs lo hi)) (fun b ob q=>Heap.get?_push_of_some _ q) (Nat.le_refl _) ?_,rfl,q _ (I.hok.fresh (Nat.le_refl _))⟩
  exact ⟨Nat.le_trans (cutV_length xs lo hi) hz,_,0,(r.drop (HT.sIx xs.length 0 lo)).take (HT.sIx xs.length xs.length hi - HT.sIx xs.length 0 lo),Heap.get?_push_size _ rfl⟩
def flatV:V→Bool
  | .non=>true
  | .bl _=>true
  | .int _=>true
  | .str _=>true
  | _=>false
def eqV:V→V→Bool
  | .non,.non=>true
  | .bl a,.bl b=>a == b
  | .bl a,.int b=>(if a then 1 else 0) == b
  | .int a,.bl b=>a == (if b then 1 else 0)
  | .int a,.int b=>a == b
  | .str a,.str b=>a == b
  | _,_=>false
theorem eqAt_V {A:Around} {s:Shared} {y x:V} {u v:Value} (ry:RelV y u) (rx:RelV x v) (fy:flatV y=true) (fx:flatV x=true):SeqAt.EqAt A s u v (eqV y x):=by
  cases y with
  | non =>
    cases ry
    cases x with
    | non=>cases rx; exact SeqAt.EqAt.same _
    | bl b=>cases rx; exact SeqAt.EqAt.none_bool b
    | int b=>obtain ⟨t,rfl⟩:=rx; exact SeqAt.EqAt.none_int b t
    | str b=>obtain ⟨t,rfl⟩:=rx; exact SeqAt.EqAt.none_str b t
    | _=>exact absurd (show false=true from fx) Bool.false_ne_true
  | bl a =>
    cases ry
    cases x with
    | non=>cases rx; exact SeqAt.EqAt.bool_none a
    | bl b=>cases rx; exact SeqAt.EqAt.bool_bool a b
    | int b=>obtain ⟨t,rfl⟩:=rx; exact SeqAt.EqAt.bool_int a b t
    | str b=>obtain ⟨t,rfl⟩:=rx; exact SeqAt.EqAt.bool_str a b t
    | _=>exact absurd (show false=true from fx) Bool.false_ne_true
  | int a =>
    obtain ⟨t',rfl⟩:=ry
    cases x with
    | non=>cases rx; exact SeqAt.EqAt.int_none a t'
    | bl b=>cases rx; exact SeqAt.EqAt.int_bool a t' b
    | int b=>obtain ⟨t,rfl⟩:=rx; exact SeqAt.EqAt.int_int a t' b t
    | str b=>obtain ⟨t,rfl⟩:=rx; exact SeqAt.EqAt.int_str a t' b t
    | _=>exact absurd (show false=true from fx) Bool.false_ne_true
  | str a =>
    obtain ⟨t',rfl⟩:=ry
    cases x with
    | non=>cases rx; exact SeqAt.EqAt.str_none a t'
    | bl b=>cases rx; exact SeqAt.EqAt.str_bool a t' b
    | int b=>obtain ⟨t,rfl⟩:=rx; exact SeqAt.EqAt.str_int a t' b t
    | str b=>obtain ⟨t,rfl⟩:=rx; exact SeqAt.EqAt.str_str a t' b t
    | _=>exact absurd (show false=true from fx) Bool.false_ne_true
  | _=>exact absurd (show false=true from fy) Bool.false_ne_true
def eqU (x:V) (u:Value):Bool:=match u with
  | .none=>eqV .non x
  | .bool b=>eqV (.bl b) x
  | .int i _=>eqV (.int i) x
  | .str z _=>eqV (.str z) x
  | _=>false
theorem eqU_of {x y:V} {u:Value} (r:RelV y u) (f:flatV y=true):eqU x u=eqV y x:=by
  cases y with
  | non=>cases r; rfl
  | bl b=>cases r; rfl
  | int i=>obtain ⟨t,rfl⟩:=r; rfl
  | str z=>obtain ⟨t,rfl⟩:=r; rfl
  | _=>exact absurd (show false=true from f) Bool.false_ne_true
theorem any_eqU {x:V}:∀ {xs:List V} {us:List Value},Vals xs us→xs.all flatV=true→us.any (eqU x)=xs.any fun y=>eqV y x
  | _,_,.nil,_=>rfl
  | y::xs,u::us,.cons r t,f=>by
    rw [List.all_cons,Bool.and_eq_true] at f
    rw [List.any_cons,List.any_cons,eqU_of r f.1,any_eqU t f.2]
theorem mem_eqAt {A:Around} {s:Shared} {x:V} {v:Value} (rx:RelV x v) (fx:flatV x=true):∀ {xs:List V} {us:List Value},Vals xs us→xs.all flatV=true→∀ u∈us,SeqAt.EqAt A s u v (eqU x u)
  | _,_,.nil,_=>fun u hu=>by cases hu
  | y::xs,u::us,.cons r t,f=>fun u' hu=>by
    rw [List.all_cons,Bool.and_eq_true] at f
    rcases List.mem_cons.mp hu with rfl | hu
    · rw [eqU_of r f.1]; exact eqAt_V r rx f.1 fx
    · exact mem_eqAt rx fx t f.2 u' hu
def inV (x:V) (xs:List V):Bool:=xs.any fun y=>eqV y x
def rIn (K:PySem.W.Frag) (neg:Bool):R2:=fun x y H Q=>∃ p xs,y=.ref p∧(SqL K H p xs∨SqT K H p xs)∧flatV x=true∧xs.all flatV=true∧Q (.bl (if neg then !inV x xs else inV x xs)) H
theorem op_in_seq:OpR X (compareOp .In) (rIn X.K false):=by
  intro pins s σ H x y v u Q I rx ry h
  obtain ⟨p,xs,rfl,hq,fx,fs,q⟩:=h
  cases ry
  rcases hq with hq | hq
  · obtain ⟨its,r,pl,hz⟩:=I.list hq
    refine SeqAt.in_listAt (eqU x) pl.isList (fun w hw=>mem_eqAt rx fx r fs w (by simpa using hw)) ⟨.bl _,H,I,rfl,?_⟩
    rw [show its.toArray.any (eqU x)=its.any (eqU x) by simp,any_eqU r fs]
    exact q
  · obtain ⟨its,r,pl,hz⟩:=I.tuple hq
    refine SeqAt.in_tupleAt (eqU x) pl (fun w hw=>mem_eqAt rx fx r fs w (by simpa using hw)) ⟨.bl _,H,I,rfl,?_⟩
    rw [show its.toArray.any (eqU x)=its.any (eqU x) by simp,any_eqU r fs]
    exact q
theorem op_notIn_seq:OpR X (compareOp .NotIn) (rIn X.K true):=by
  intro pins s σ H x y v u Q I rx ry h
  obtain ⟨p,xs,rfl,hq,fx,fs,q⟩:=h
  cases ry
  rcases hq with hq | hq
  · obtain ⟨its,r,pl,hz⟩:=I.list hq
    refine SeqAt.notIn_listAt (eqU x) pl.isList (fun w hw=>mem_eqAt rx fx r fs w (by simpa using hw)) ⟨.bl _,H,I,rfl,?_⟩
    rw [show its.toArray.any (eqU x)=its.any (eqU x) by simp,any_eqU r fs]
    exact q
  · obtain ⟨its,r,pl,hz⟩:=I.tuple hq
    refine SeqAt.notIn_tupleAt (eqU x) pl (fun w hw=>mem_eqAt rx fx r fs w (by simpa using hw)) ⟨.bl _,H,I,rfl,?_⟩
    rw [show its.toArray.any (eqU x)=its.any (eqU x) by simp,any_eqU r fs]
    exact q
theorem call_len_seq:CallR X (.builtin "len") (fun xs H Q=>∃ p ys,xs=[.ref p]∧(SqL X.K H p ys∨SqT X.K H p ys)∧Q (.int ys.length) H):=by
  intro pins s σ H xs us Q I r h
  obtain ⟨p,ys,rfl,hq,q⟩:=h
  obtain ⟨u,rfl,rx⟩:=vals1 r
  cases rx
  have hn:=line63
  rcases hq with hq | hq
  · obtain ⟨its,r',pl,hz⟩:=I.list hq
    have hlen:=r'.length
    exact Calls.call_len_list pl.isList (by simp only [List.size_toArray] <;> omega) ⟨.int ys.length,H,I.tok _,⟨s.toks+1,by rw [List.size_toArray,hlen]⟩,q⟩
  · obtain ⟨its,r',pl,hz⟩:=I.tuple hq
    have hlen:=r'.length
    exact len_tuple pl (by simp only [List.size_toArray] <;> omega) ⟨.int ys.length,H,I.tok _,⟨s.toks+1,by rw [List.size_toArray,hlen]⟩,q⟩
theorem call_tuple_of:CallR X (.type "tuple") (fun xs H Q=>∃ p ys,xs=[.ref p]∧((SqL X.K H p ys∧∀ l,H l=none→Q (.ref l) (upd H l (.tup ys)))∨(SqT X.K H p ys∧Q (.ref p) H))):=by
  intro pins s σ H xs us Q I r h
  obtain ⟨p,ys,rfl,h⟩:=h
  obtain ⟨u,rfl,rx⟩:=vals1 r
  cases rx
  rcases h with ⟨hq,q⟩ | ⟨hq,q⟩
  · obtain ⟨its,r',pl,hz⟩:=I.list hq
    have hlen:=r'.length
    refine call_tuple_list pl.isList (fun h' kp=>?_) (by simp only [List.size_toArray] <;> omega)
    have I1:Inv X pins σ H { s with heap:=h' }:=I.kept (t':=s.toks) kp
    have I2:Inv X pins σ (upd H h'.objs.size (.tup ys)) { s with heap:=h'.push { cls:=.type "tuple",data:=.seq its.toArray } } :=
      I1.laid (t':=s.toks) (fun b o e=>Heap.get?_push_of_some _ e) (Nat.le_refl _) (show ObjOk X.prog X.w _ _ _ (.tup ys) from ⟨hz,its,r',IsTup.new _ _⟩)
    exact ⟨.ref h'.objs.size,_,I2,rfl,q _ (I1.hok.fresh (Nat.le_refl _))⟩
  · obtain ⟨its,r',pl,hz⟩:=I.tuple hq
    exact call_tuple_same pl ⟨.ref p,H,I,rfl,q⟩
def tyV (K:PySem.W.Frag) (T:String) (x:V) (H:Hp):Prop:=match x with
  | .str _=>T="str"
  | .int _=>T="int"
  | .ref p=>(T="list"∧∃ xs,SqL K H p xs)∨(T="tuple"∧∃ o,K.lookup p=some o∧o.cls=.type "tuple"∧o.dict=none)∨
      (T="dict"∧((∃ kvs,H p=some (.dK kvs))∨∃ kvs,H p=some (.dT kvs)))∨(T="set"∧∃ S n,H p=some (.set S n))
  | _=>False
theorem tyV_is {pins:List (Addr×Obj)} {σ:St} {H:Hp} {s:Shared} {T:String} {x:V} {v:Value} (I:Inv X pins σ H s) (r:RelV x v) (ty:tyV X.K T x H) :
    s.TypeIs v T∧∀ a,v=.ref a→∃ ob,s.heap.get? a=some ob∧ob.dict=none:=by
  cases x with
  | str z =>
    obtain ⟨t,rfl⟩:=r
    cases (show T="str" from ty)
    exact ⟨typeIs_str s z t,fun _ e=>nomatch e⟩
  | int i =>
    obtain ⟨t,rfl⟩:=r
    cases (show T="int" from ty)
    exact ⟨typeIs_int s i t,fun _ e=>nomatch e⟩
  | ref p =>
    cases r
    rcases ty with ⟨rfl,xs,hq⟩ | ⟨rfl,o,hk,hc,hd⟩ | ⟨rfl,hk⟩ | ⟨rfl,S,n,hk⟩
    · obtain ⟨its,_,pl,_⟩:=I.list hq
      refine ⟨pl.isList.typeIs,fun a e=>?_⟩
      cases e
      obtain ⟨o,n,e,c,hd,_⟩:=pl
      exact ⟨o,e,hd⟩
    · refine ⟨⟨o,I.kIn p o hk,hc⟩,fun a e=>?_⟩
      cases e
      exact ⟨o,I.kIn _ o hk,hd⟩
    · have z:∃ o,s.heap.get? p=some o∧o.ExactDict:=by
        rcases hk with ⟨kvs,hk⟩ | ⟨kvs,hk⟩
        · obtain ⟨_,_,_,_,o,_,_,e,ex,_⟩:=I.hok p _ hk
          exact ⟨o,e,ex⟩
        · obtain ⟨_,_,_,_,o,_,_,e,ex,_⟩:=I.hok p _ hk
          exact ⟨o,e,ex⟩
      obtain ⟨o,e,ex⟩:=z
      refine ⟨⟨o,e,ex.1⟩,fun a e2=>?_⟩
      cases e2
      exact ⟨o,e,ex.2.1⟩
    · obtain ⟨o,_,_,_,e,ex,_⟩:=I.hok p _ hk
      refine ⟨⟨o,e,ex.1⟩,fun a e2=>?_⟩
      cases e2
      exact ⟨o,e,ex.2.1⟩
  | _=>exact False.elim ty
def tBM0 (K:PySem.W.Frag) (T:String) (r:V→List V→Hp→VK→Prop) (to:TE):TE:=fun σ H Q=>to σ H fun x H1=>tyV K T x H1∧r x [] H1 Q
def tBM (K:PySem.W.Frag) (T:String) (r:V→List V→Hp→VK→Prop) (to:TE) (t:TA):TE:=fun σ H Q=>to σ H fun x H1=>tyV K T x H1∧t σ H1 fun xs H2=>r x xs H2 Q
variable {o e:Expr} {es:List Expr} {to:TE} {t:TA} {name:Str} {apos cpos:Pos} {T id:String} {r:V→List V→Hp→VK→Prop}
theorem pe_bm (pa:PlainAttrs T) (slot:Slot T name id) (hty:typeOf (.builtin id)=pure (.type "method_descriptor")) (hm:MtR X id r) (ho:PE X o to) (ha:PA X (e::es) t)
    (hbase:attributeBase o name X.env (eval o X.env)=eval o X.env:=by rfl)
    (hfew:((backTo cpos (starEach (e::es) X.env)).all (fun x=>!x.1) && (backToKw cpos (keywordEach [] X.env)).all (fun x=>x.1.isSome)
      && decide ((e::es).length+([]:List Keyword).length+(if ([]:List Keyword).isEmpty then 0 else 1)<30))=true:=by rfl)
    (hline:(apos.endLine == cpos.line)=true:=by rfl) (hs:starEach (e::es) X.env=(false,eval e X.env)::starEach es X.env:=by rfl) (hplain:(backTo cpos (starEach es X.env)).any (·.1)=false:=by rfl) :
    PE X (.Call (.Attribute o name apos) (e::es) [] cpos) (tBM X.K T r to t):=by
  intro pins s σ H Q I h
  refine wpAny_Call_method_late hbase hfew hline rfl (thn (ho pins s σ H _ I h) fun v s1 ⟨x,H1,I1,r1,ty,q1⟩=>?_)
  obtain ⟨h1,h2⟩:=tyV_is I1 r1 ty
  refine ⟨T,id,pa,slot,hty,h1,h2,?_⟩
  have hA:=ha cpos pins s1 σ H1 _ I1 q1
  rw [hs] at hA ⊢
  refine Calls.callWith_builtin (by show (false || (backTo cpos (starEach es X.env)).any (·.1))=false; rw [hplain] <;> rfl) (Calls.evalArgs_plain ?_)
  exact thn hA fun us s2 ⟨vs,H2,I2,r2,q2⟩=>hm pins s2 σ H2 x vs v us Q I2 r1 r2 q2
end
end L2
namespace L2
open PySem PySem.Spec PyProof.Rows
def MtM (X:Cx) (id:String) (r:V→List V→Hp→VK→Prop):Prop :=
  ∀ (pins:List (Addr×Obj)) (s:Shared) (σ:St) (H:Hp) (x:V) (xs:List V) (v:Value) (us:List Value) (Q:VK),Inv X pins σ H s→RelV x v→Vals xs us→r x xs H Q→
    wpAny (model X.prog X.w) X.A (call (.builtin id) (v::us)) (EP X pins σ Q) X.xe s
theorem Vals.one:∀ {x:V} {us:List Value},Vals [x] us→∃ u,us=[u]∧RelV x u
  | _,_,.cons r .nil=>⟨_,rfl,r⟩
theorem Vals.rep {xs:List V} {us:List Value} (h:Vals xs us):∀ k:Nat,Vals (List.replicate k xs).flatten (List.replicate k us).flatten
  | 0=>.nil
  | k+1=>by
    rw [List.replicate_succ,List.replicate_succ,List.flatten_cons,List.flatten_cons]
    exact Vals.append h (Vals.rep h k)
theorem foldl_rep (its:List Value):∀ (k:Nat) (acc:List Value),
    List.foldl (fun x1 x2=>x1++x2) acc.toArray (List.replicate k its.toArray)=(acc++(List.replicate k its).flatten).toArray
  | 0,acc=>by simp
  | k+1,acc=>by
    have e:acc.toArray++its.toArray=(acc++its).toArray:=by simp
    have e2:(acc++its)++(List.replicate k its).flatten=acc++(List.replicate (k+1) its).flatten:=by
      rw [List.replicate_succ,List.flatten_cons,List.append_assoc]
    rw [← e2,← foldl_rep its k (acc++its),← e,List.replicate_succ,List.foldl_cons]
section
variable {X:Cx} {pins:List (Addr×Obj)} {σ:St} {H:Hp} {s:Shared} {l b:Addr} {xs ys zs:List V}
theorem Inv.lset {its its':List Value} {n:Nat} {f:Array Value→Array Value} {t':Nat} (I:Inv X pins σ H s) (hH:H l=some (.lst xs))
    (e:s.heap.get? l=some { cls:=.type "list",data:=.seq its.toArray n }) (hf:f its.toArray=its'.toArray) (hv:Vals ys its') (hz:ys.length≤sizeLine) :
    Inv X pins σ (upd H l (.lst ys)) { s with heap:=s.heap.update l (Obj.mapSeq f),toks:=t' }:=by
  have q:=PySem.IsL.update e f
  rw [hf] at q
  refine I.write (x:=l) (e:=l) (by rw [hH]; exact trivial) (.inl rfl) (fun b' u hb hu=>(Heap.get?_update_other s.heap (Obj.mapSeq f) (Ne.symm hb)).trans hu) ⟨_,q⟩ ?_
  exact ⟨hz,its',_,hv,q⟩
theorem Inv.lnew {its:List Value} {t':Nat} (I:Inv X pins σ H s) (hv:Vals ys its) (hz:ys.length≤sizeLine) :
    Inv X pins σ (upd H s.heap.objs.size (.lst ys)) { s with heap:=s.heap.push { cls:=.type "list",data:=.seq its.toArray },toks:=t' } :=
  I.laid (fun _ _ q=>Heap.get?_push_of_some _ q) (Nat.le_refl _) ⟨hz,its,0,hv,Heap.get?_push_size _ rfl⟩
theorem Inv.fresh (I:Inv X pins σ H s):H s.heap.objs.size=none:=I.hok.fresh (Nat.le_refl _)
theorem Inv.lstM (I:Inv X pins σ H s) (hH:H l=some (.lst xs)):xs.length≤sizeLine∧∃ (its:List Value) (n:Nat),Vals xs its∧xs.length=its.length∧s.heap.get? l=some { cls:=.type "list",data:=.seq its.toArray n }:=by
  obtain ⟨z,its,n,r,e⟩:=I.hok l _ hH
  exact ⟨z,its,n,r,r.length,e⟩
theorem notLongL {n:Nat} (h:n≤sizeLine):Builtin.List.listTooLong n=false:=by
  unfold Builtin.List.listTooLong
  exact decide_eq_false (by omega)
end
section
variable {X:Cx}
def rAppend:V→List V→Hp→VK→Prop:=fun x vs H Q=>∃ l xs y,x=.ref l∧vs=[y]∧H l=some (.lst xs)∧xs.length<sizeLine∧Q .non (upd H l (.lst (xs++[y])))
theorem mt_append:MtM X "list.append" rAppend:=by
  intro pins s σ H x vs v us Q I rx rv h
  obtain ⟨l,xs,y,rfl,rfl,hH,hz,q⟩:=h
  cases rx
  obtain ⟨u,rfl,ru⟩:=rv.one
  obtain ⟨z,its,n,r,hl,e⟩:=I.lstM hH
  refine call_meets F.slot_list_append ⟨_,e,rfl⟩ F.entry_list_append (F.args_list_append_2 _ _) (PySem.list_append l its.toArray n u (by rw [List.size_toArray]; omega)) ⟨e,?_⟩
  refine ⟨.non,_,I.lset (its':=its++[u]) hH e (by simp) (r.append (.cons ru .nil)) ?_,rfl,q⟩
  rw [List.length_append,List.length_singleton]
  omega
def rExtend:V→List V→Hp→VK→Prop:=fun x vs H Q=>∃ l b xs zs,x=.ref l∧vs=[.ref b]∧H l=some (.lst xs)∧H b=some (.lst zs)∧xs.length+zs.length≤sizeLine∧Q .non (upd H l (.lst (xs++zs)))
theorem mt_extend:MtM X "list.extend" rExtend:=by
  intro pins s σ H x vs v us Q I rx rv h
  obtain ⟨l,b,xs,zs,rfl,rfl,hH,hB,hz,q⟩:=h
  cases rx
  obtain ⟨u,rfl,ru⟩:=rv.one
  cases ru
  obtain ⟨z,its,n,r,hl,e⟩:=I.lstM hH
  obtain ⟨z2,its2,n2,r2,hl2,e2⟩:=I.lstM hB
  have hsz:its.toArray.size+its2.toArray.size≤sizeLine:=by rw [List.size_toArray,List.size_toArray]; omega
  have hlong:¬ (!its.toArray.isEmpty && Builtin.List.listTooLong (its.toArray.size+its2.toArray.size))=true:=by
    rw [notLongL hsz,Bool.and_false]
    exact Bool.false_ne_true
  refine call_meets F.slot_list_extend ⟨_,e,rfl⟩ F.entry_list_extend (F.args_list_extend_2 _ _)
    (AutoSeq1.list_extend_list_list_0 l its.toArray n b its2.toArray n2 hlong (by rw [List.size_toArray]; omega) (by omega)) ⟨e,e2,?_⟩
  refine ⟨.non,_,I.lset (its':=its++its2) hH e (by simp) (r.append r2) ?_,rfl,q⟩
  rw [List.length_append]
  omega
def rPop:V→List V→Hp→VK→Prop:=fun x vs H Q=>∃ l xs y,x=.ref l∧vs=[]∧H l=some (.lst xs)∧xs[xs.length - 1]?=some y∧Q y (upd H l (.lst xs.dropLast))
def rPopAt:V→List V→Hp→VK→Prop:=fun x vs H Q=>∃ l xs i k y,x=.ref l∧vs=[.int i]∧H l=some (.lst xs)∧-(2 ^ 63)≤i∧i<2 ^ 63∧seqIndex? i xs.length=some k∧xs[k]?=some y∧Q y (upd H l (.lst (xs.eraseIdx k)))
def rReverse:V→List V→Hp→VK→Prop:=fun x vs H Q=>∃ l xs,x=.ref l∧vs=[]∧H l=some (.lst xs)∧Q .non (upd H l (.lst xs.reverse))
def rClear:V→List V→Hp→VK→Prop:=fun x vs H Q=>∃ l xs,x=.ref l∧vs=[]∧H l=some (.lst xs)∧Q .non (upd H l (.lst []))
def rCat:R2:=fun x y H Q=>∃ l b xs zs,x=.ref l∧y=.ref b∧H l=some (.lst xs)∧H b=some (.lst zs)∧xs.length+zs.length≤sizeLine∧∀ p,H p=none→Q (.ref p) (upd H p (.lst (xs++zs)))
theorem op_cat:OpR X (binaryOp .Add) rCat:=by
  intro pins s σ H x y v u Q I rx ry h
  obtain ⟨l,b,xs,zs,rfl,rfl,hH,hB,hz,q⟩:=h
  cases rx
  cases ry
  obtain ⟨z,its,n,r,hl,e⟩:=I.lstM hH
  obtain ⟨z2,its2,n2,r2,hl2,e2⟩:=I.lstM hB
  refine PySem.P.add_list e e2 ?_ (by rw [List.size_toArray,List.size_toArray]; omega)
  have ea:its.toArray++its2.toArray=(its++its2).toArray:=by simp
  rw [ea]
  exact ⟨.ref _,_,I.lnew (t':=s.toks) (r.append r2) (by rw [List.length_append]; omega),rfl,q _ I.fresh⟩
def rRep:R2:=fun x y H Q=>∃ l k xs,x=.ref l∧y=.int k∧H l=some (.lst xs)∧-(2 ^ 63)≤k∧k<2 ^ 63∧xs.length * k.toNat≤sizeLine∧
  ∀ p,H p=none→Q (.ref p) (upd H p (.lst (List.replicate k.toNat xs).flatten))
theorem len_rep {α:Type} (xs:List α) (k:Nat):(List.replicate k xs).flatten.length=k * xs.length:=by
  induction k with
  | zero=>simp
  | succ k ih=>rw [List.replicate_succ,List.flatten_cons,List.length_append,ih,Nat.succ_mul,Nat.add_comm]
theorem op_rep:OpR X (binaryOp .Mult) rRep:=by
  intro pins s σ H x y v u Q I rx ry h
  obtain ⟨l,k,xs,rfl,rfl,hH,h1,h2,hz,q⟩:=h
  cases rx
  obtain ⟨t,rfl⟩:=ry
  obtain ⟨z,its,n,r,hl,e⟩:=I.lstM hH
  have hlen:its.toArray.size * k.toNat≤sizeLine:=by rw [List.size_toArray,← hl]; exact hz
  have hcap:¬ its.toArray.size * k.toNat > (2 ^ 63 - 1) / 8:=by
    have:(sizeLine:Nat)≤(2 ^ 63 - 1) / 8:=by decide
    omega
  have hfit:¬ (!Builtin.List.listFitsIndex k)=true:=by
    rw [fitsIndex_both h1 h2]
    exact Bool.false_ne_true
  have hlong:¬ Builtin.List.listTooLong (its.toArray.size * k.toNat)=true:=by
    rw [notLongL hlen]
    exact Bool.false_ne_true
  have hnew:List.foldl (fun x1 x2=>x1++x2) #[] (List.replicate (if its.toArray.isEmpty=true then 0 else k.toNat) its.toArray)=(List.replicate k.toNat its).flatten.toArray:=by
    have f0:∀ m:Nat,List.foldl (fun x1 x2=>x1++x2) #[] (List.replicate m its.toArray)=(List.replicate m its).flatten.toArray:=fun m=>by
      have:=foldl_rep its m []
      rw [List.nil_append] at this
      exact this
    rw [f0]
    cases its with
    | nil=>simp
    | cons a r'=>rw [if_neg (by simp)]
  refine wpAny_binaryOp_repeat_ref (T:="list") (U:="int") (by decide) ⟨_,e,rfl⟩ (fun s'=>typeIs_int s' k t) noFill_list_mul F.fills_int_mul F.slot_int_rmul repeat_list F.slot_int_index.lookup
    (call_meets F.slot_int_rmul (typeIs_int s k t) F.entry_int_rmul (F.args_int_rmul_2 _ _) (int___rmul___int_list k t l its.toArray n)
      ⟨e,rfl,⟨_,e,rfl⟩,call_meets F.slot_list_mul ⟨_,e,rfl⟩ F.entry_list_mul (F.args_list_mul_2 _ _) (AutoListH.list___mul___list_int_3 l its.toArray n k t hfit hcap hlong) ⟨e,?_⟩⟩)
  rw [hnew]
  exact ⟨.ref _,_,I.lnew (t':=s.toks) (r.rep k.toNat) (by rw [len_rep,Nat.mul_comm]; exact hz),rfl,q _ I.fresh⟩
end
section
variable {prog:Program} {w:World} {A:Around} {E:Value→Shared→Prop} {s:Shared}
end
section
variable {X:Cx}
end
end L2
namespace Att
open PySem PySem.W PySem.Calls PyProof.Rows
theorem ints_of_wellAll {P:Params} {h:Heap}:∀ (ns:List Int) (vs:List Value),WellAll P h vs (ns.map WData.int)→IntsAre vs ns:=by
  intro ns
  induction ns with
  | nil =>
    intro vs w
    rw [List.map_nil] at w
    cases w
    exact .nil
  | cons n ns ih =>
    intro vs w
    rw [List.map_cons] at w
    cases w with
    | cons a b =>
      cases a
      exact .cons _ _ (ih _ b)
theorem script_of {l:OpenLaw} {n:Nat} (hn:l.most=some n) {P:Params} {h:Heap} {args:List WData} {vals:List Value}
    (hpre:l.row.toRowW.claim.pre args=true) (hwl:WellAll P h vals args) :
    ∃ a vs ns,vals=[Value.ref a]∧args=[WData.list (ns.map WData.int)]∧h.get? a=some { cls:=.type "list",data:=.seq vs.toArray }∧IntsAre vs ns∧ns.length≤n:=by
  have hsh:WShape.hasAll [] args [.list .int]=true:=(pre_splitW hpre).1
  have hc:l.pre.holds [] { args:=args }=true:=(pre_splitW hpre).2
  obtain ⟨d,r,rfl,h1,h2⟩:=hasAllW_cons hsh
  obtain rfl:=hasAllW_nil h2
  obtain ⟨xs,rfl,h3⟩:=hasW_list h1
  obtain ⟨ns,rfl⟩:=items_int h3
  have hlen:ns.length≤n:=by
    unfold OpenLaw.pre at hc
    have h4:(WTm.not (.lt (.lit (.int (n:Int))) (.len (.arg 0)))).holds [] { args:=[.list (ns.map .int)] }=true:=by
      have h4:=(holds_andW hc).1
      rw [hn] at h4
      exact h4
    have h5:=condW_of h4 (w_not (w_lt w_lit (w_len_list (w_arg rfl))))
    rw [List.length_map] at h5
    refine Nat.le_of_not_lt fun q=>?_
    have q':(n:Int)<((ns.length:Nat):Int):=by omega
    first
      | (rw [decide_eq_true q'] at h5; exact absurd h5 (by decide))
      | (simp at h5; omega)
  cases hwl with
  | cons w1 w2 =>
    cases w2
    cases w1 with
    | list ho hall=>exact ⟨_,_,ns,rfl,rfl,ho,ints_of_wellAll ns _ hall,hlen⟩
theorem post_true (l:OpenLaw) (args:List WData):l.row.toRowW.claim.post args (.bool true) args=true :=
  postW_of (r:=l.row.toRowW) (X:=(true == true))
    (show WShape.has [] (.bool true) .bool=true by first | rfl | decide | simp [WShape.has,WShape.arms,WShape.armsAll])
    (show (WTm.eq .res (.lit (.bool true))).value [] { args:=args,res:=some (.bool true),after:=args }=some (.bool (true == true)) from w_eq_bool (w_res rfl) w_lit) rfl
theorem attach_call {l:OpenLaw} {n:Nat} {q:Program} {loose:List Str} {XP:(Str→Option Value)→Heap→Prop} {YP:World→Heap→Prop} {d:DefRec}
    (hn:l.most=some n) (hdf:d.params.defaults=[])
    (call:∀ (w:World) (s₀ s₁:Shared) (mg mb:Str→Option Value) (fa:Addr) (o:Obj) (pm cd doc:Value) (a:Addr) (vs:List Value) (ns:List Int),
      Ground q loose [] XP w s₀ mg mb s₁.heap→YP w s₁.heap→
      s₁.heap.get? fa=some o→o.data=.func (docDef d.name d.params d.body d.scope pm cd doc)→s₁.heap.CodeRec cd d.name→mg d.name=some (.ref fa)→
      s₁.heap.get? a=some { cls:=.type "list",data:=.seq vs.toArray }→IntsAre vs ns→ns.length≤n→s₁.gens=#[]→
      codeAny (model l.prog w) callerA (.call (.ref fa) ⟨[.ref a],[]⟩) (fun r s'=>r=.ok (.ret (.bool true))∧OldK s₁.heap s'.heap∧s'.os=s₁.os∧AllBare s'.gens) s₁) :
    WalkO q loose XP YP l.row.toRowW d [] (fun f vs=>PySem.call f vs):=by
  intro w s₀ s₁ mg mb G Y fa o pm cd doc dV kV ho hd hcd hD hmg hg args vals as hpre hlay hrd hwl hlo
  obtain rfl:dV=.none:=Dflts.none hD hdf
  obtain rfl:kV=.none:=Dflts.noKw hD
  obtain ⟨a,vs,ns,rfl,rfl,hobj,hints,hlen⟩:=script_of hn hpre hwl
  refine enter_call (codeAny_mono (call w s₀ s₁ mg mb fa o pm cd doc a vs ns G Y ho (fd_plain hd) hcd hmg hobj hints hlen hg) fun r s' hq=>?_)
  obtain ⟨rfl,h2,h3,h4⟩:=hq
  exact ⟨.inl ⟨.bool true,.bool true,[],rfl,fun _=>rfl,.bool true,post_true l _,fun _=>⟨List.Pairwise.nil,fun _ hm=>(nomatch hm)⟩⟩,h2,h3,h4⟩
section
variable {prog:Program} {w:World} {A:Around} {E:Value→Shared→Prop} {s:Shared} {K:Frag}
def noObjs (h:Heap):Heap:={ h with objs:=#[] }
def ledger (h:Heap) (L d:Addr):List (Addr×Obj):=(List.range h.objs.size).filterMap fun a=>if a=L∨a=d then none else (h.get? a).map fun o=>(a,o)
end
end Att
namespace L2
open PySem PySem.Spec PyProof.Rows
theorem vals_ints:∀ {vs:List Value} {ns:List Int},IntsAre vs ns→Vals (ns.map V.int) vs
  | _,_,.nil=>.nil
  | _,_,.cons n t h=>.cons ⟨t,rfl⟩ (vals_ints h)
def Only (H:Hp):Prop:=∀ b,H b=none∨∃ o xs,H b=some (.frz o (.lst xs))
theorem law_call {P:Program} {w:World} {K:PySem.W.Frag} {mg mb:Str→Option Value} {CX:CXT} {k:Nat} {fa a:Addr} {fd:FuncData} {x:Str} {sp:Sp} {s₁:Shared} {vs:List Value} {ns:List Int}
    (KX:K.In s₁.heap) (hns:s₁.heap.Ns mainGlobals mg) (hb:s₁.heap.Ns builtinsNs mb) (hbb:∀ x:Str,x≠"__name__"→mb x=bootBuiltins x) (hlim:s₁.heap.NoLimit) (hg:s₁.gens=#[])
    (ha:s₁.heap.get? a=some { cls:=.type "list",data:=.seq vs.toArray }) (hi:IntsAre vs ns) (hl:ns.length≤sizeLine) (hr:Room k callerA)
    (F:∀ base:Heap,K.In base→base.Ns mainGlobals mg→FnOk P w K mg base CX k fa fd [x] sp) (hbind:∀ (s:Shared) (u:Value),BindsTo s fd ⟨[u],[]⟩ [(x,u)])
    (hsp:∀ H:Hp,Only H→SqL K H a (ns.map V.int)→sp [.ref a] H (fun v _=>v=.bl true) fun _ _ _=>False)
    (hCX:∀ H e s',CX [] H s₁ (fun _ _ _=>False) e s'→False) :
    codeAny (model P w) callerA (.call (.ref fa) ⟨[.ref a],[]⟩) (fun r s'=>r=.ok (.ret (.bool true))∧OldK s₁.heap s'.heap∧s'.os=s₁.os∧AllBare s'.gens) s₁:=by
  have rv:=vals_ints hi
  have lenV:=hi.length
  have core:∀ H:Hp,Only H→SqL K H a (ns.map V.int)→HOk P w H s₁.heap→(∀ b,H b≠none→b=a)→(H a≠none→K.lookup a=none)→
      codeAny (model P w) callerA (.call (.ref fa) ⟨[.ref a],[]⟩) (fun r s'=>r=.ok (.ret (.bool true))∧OldK s₁.heap s'.heap∧s'.os=s₁.os∧AllBare s'.gens) s₁:=by
    intro H hO hS hok hA hK
    have base_of:∀ {b:Addr} {o:Obj},s₁.heap.get? b=some o→H b=none→(hidT s₁.heap H).get? b=some o:=fun e n=>hidT_get e n
    have noA:∀ {b:Addr} {o:Obj} {es:Array DictEntry} {ep:Nat},s₁.heap.get? b=some o→o.data=.dict es ep→H b=none:=fun {b o es ep} e d=>by
      cases q:H b with
      | none=>rfl
      | some u =>
        have e':b=a:=hA b (by rw [q]; simp)
        subst e'
        rw [ha] at e; cases e
        have d':Data.seq vs.toArray _=Data.dict es ep:=d
        cases d'
    have nsK:∀ {b:Addr} {m:Str→Option Value},s₁.heap.Ns b m→(hidT s₁.heap H).Ns b m:=fun {b m} ⟨o,es,ep,e,d,r⟩=>⟨o,es,ep,base_of e (noA e d),d,r⟩
    have hKb:K.In (hidT s₁.heap H):=fun b o e=>base_of (KX b o e) (by
      cases q:H b with
      | none=>rfl
      | some u =>
        have e':b=a:=hA b (by rw [q]; simp)
        subst e'
        rw [hK (by rw [q]; simp)] at e; cases e)
    have hM:Mod K mg (hidT s₁.heap H):=⟨hKb,nsK hns,⟨mb,nsK hb,hbb⟩,let ⟨mc,h1,h2⟩:=hlim; ⟨mc,nsK h1,h2⟩⟩
    have e0:Env0 P w K mg (hidT s₁.heap H) callerA [] s₁ H:=⟨rfl,hM,fun b o e=>of_hidT e,Nat.le_of_eq (hidT_size _ _),trivial,fun b hb=>absurd (show b∈([]:List Addr) from hb) (by simp),hok,.of_eq hg⟩
    refine codeAny_mono ((F _ hKb (nsK hns)).run callerA [] s₁ H ⟨[.ref a],[]⟩ [.ref a] [.ref a] _ _ hr e0 (hbind s₁ (.ref a)) (.cons rfl .nil) (hsp H hO hS)) fun r s' h=>?_
    cases r with
    | error e=>exact (hCX H e s' h).elim
    | ok fl =>
      cases fl with
      | next=>exact False.elim h
      | brk=>exact False.elim h
      | cont=>exact False.elim h
      | ret u =>
        obtain ⟨v,H',os,bare,un,hok',r',q⟩:=h
        have q':v=.bl true:=q
        subst q'
        obtain rfl:u=Value.bool true:=r'
        refine ⟨rfl,OldK.of_keep fun b o e=>?_,os,bare⟩
        cases q:H b with
        | none=>exact un.keep b o e q (by intro z; exact absurd (show b∈([]:List Addr) from z) (by simp)) (by simp)
        | some u =>
          rcases hO b with z | ⟨ob,xs,z⟩
          · rw [q] at z; cases z
          · have z2:=un.frzs b ob _ z
            obtain ⟨e1,_⟩:=hok b _ z
            obtain ⟨e2,_⟩:=hok' b _ z2
            rw [e] at e1; cases e1
            exact e2
  cases hk:K.lookup a with
  | some o =>
    have e:=KX a o hk
    rw [ha] at e
    cases e
    refine core (fun _=>none) (fun _=>.inl rfl) (.inr ⟨_,vs.toArray,_,hk,rfl,rfl,rfl,by rw [List.size_toArray,lenV]; exact hl,by simpa using rv⟩) (fun b u z=>by have z':(none:Option HO)=some u:=z; cases z') (fun b z=>absurd rfl z) fun z=>absurd rfl z
  | none =>
    refine core (fun b=>if b=a then some (.frz { cls:=.type "list",data:=.seq vs.toArray } (.lst (ns.map V.int))) else none) (fun b=>?_) (.inl (.inr ⟨{ cls:=.type "list",data:=.seq vs.toArray },if_pos rfl⟩)) (fun b u z=>?_) (fun b z=>?_) fun _=>hk
    · by_cases hb:b=a
      · exact .inr ⟨_,_,if_pos hb⟩
      · exact .inl (if_neg hb)
    · by_cases hb:b=a
      · have z':=(if_pos hb).symm.trans z
        cases z'
        subst hb
        exact ⟨ha,by rw [List.length_map]; exact hl,vs,_,rv,ha⟩
      · have z':=(if_neg hb).symm.trans z
        cases z'
    · by_cases hb:b=a
      · exact hb
      · exact absurd (if_neg hb) z
end L2
namespace L2
open PySem PySem.Spec PyProof.Rows
abbrev KOf {K:PySem.W.Frag} {h:Heap} (_:K.In h):PySem.W.Frag:=K
theorem walk_of {l:PySem.W.OpenLaw} {n k:Nat} {q:Program} {loose:List Str} {XP:(Str→Option Value)→Heap→Prop} {YP:World→Heap→Prop} {d:DefRec} {K:Params→PySem.W.Frag} {CX:World→CXT} {sp:World→Sp} {x:Str}
    (hn:l.most=some n) (hn2:n≤sizeLine) (hdf:d.params.defaults=[]) (hr:Room k callerA)
    (hY:∀ (w:World) (h:Heap),YP w h→(K w.params).In h)
    (F:∀ (w:World) (mg:Str→Option Value) (fa:Addr) (h:Heap),(K w.params).In h→h.Ns mainGlobals mg→mg d.name=some (.ref fa)→
      ∃ fd:FuncData,(∀ (s:Shared) (u:Value),BindsTo s fd ⟨[u],[]⟩ [(x,u)])∧
        ∀ base:Heap,(K w.params).In base→base.Ns mainGlobals mg→FnOk l.prog w (K w.params) mg base (CX w) k fa fd [x] (sp w))
    (hsp:∀ (w:World) (H:Hp) (a:Addr) (ns:List Int),ns.length≤n→Only H→SqL (K w.params) H a (ns.map V.int)→sp w [.ref a] H (fun v _=>v=.bl true) fun _ _ _=>False)
    (hCX:∀ (w:World) (H:Hp) (s:Shared) (e:Value) (s':Shared),CX w [] H s (fun _ _ _=>False) e s'→False) :
    PySem.W.WalkO q loose XP YP l.row.toRowW d [] (fun f vs=>PySem.call f vs):=by
  refine Att.attach_call hn hdf fun w s₀ s₁ mg mb fa o pm cd doc a vs ns G Y ho hd hcd hmg hobj hints hlen hg=>?_
  have KX:=hY w _ Y
  obtain ⟨fd,hb,hF⟩:=F w mg fa _ KX G.T.g hmg
  exact law_call KX G.T.g G.T.b G.T.builtins G.T.nolimit hg hobj hints (Nat.le_trans hlen hn2) hr hF hb (fun H hO hS=>hsp w H a ns hlen hO hS) fun H e s'=>hCX w H s₁ e s'
theorem walk_ofK {l:PySem.W.OpenLaw} {n k:Nat} {q:Program} {loose:List Str} {XP:(Str→Option Value)→Heap→Prop} {YP:World→Heap→Prop} {d:DefRec} {K:Params→PySem.W.Frag} {CX:CXT} {sp:PySem.W.Frag→Sp} {x:Str}
    (hn:l.most=some n) (hn2:n≤sizeLine) (hdf:d.params.defaults=[]) (hr:Room k callerA)
    (hY:∀ (w:World) (h:Heap),YP w h→(K w.params).In h)
    (F:∀ (w:World) (mg:Str→Option Value) (fa:Addr) (h:Heap),(K w.params).In h→h.Ns mainGlobals mg→mg d.name=some (.ref fa)→
      ∃ fd:FuncData,(∀ (s:Shared) (u:Value),BindsTo s fd ⟨[u],[]⟩ [(x,u)])∧
        ∀ base:Heap,(K w.params).In base→base.Ns mainGlobals mg→FnOk l.prog w (K w.params) mg base CX k fa fd [x] (sp (K w.params)))
    (hsp:∀ (K:PySem.W.Frag) (H:Hp) (a:Addr) (ns:List Int),ns.length≤n→Only H→SqL K H a (ns.map V.int)→sp K [.ref a] H (fun v _=>v=.bl true) fun _ _ _=>False)
    (hCX:∀ (H:Hp) (s:Shared) (e:Value) (s':Shared),CX [] H s (fun _ _ _=>False) e s'→False) :
    PySem.W.WalkO q loose XP YP l.row.toRowW d [] (fun f vs=>PySem.call f vs) :=
  walk_of (K:=K) (CX:=fun _=>CX) (sp:=fun w=>sp (K w.params)) hn hn2 hdf hr hY F (fun w H a ns h1 h2 h3=>hsp (K w.params) H a ns h1 h2 h3) fun _ H s e s'=>hCX H s e s'
end L2
namespace L2
open PySem PySem.Spec PyProof.Rows
def inClass (s:Stmt) (j:Nat):Stmt:=match s with
  | .ClassDef _ _ _ body _ _ _ _ _ _ _=>body.getD j (.Pass ⟨0,0,0,0⟩)
  | _=>.Pass ⟨0,0,0,0⟩
def defArgs (s:Stmt):Arguments:=match s with
  | .FunctionDef _ a _ _ _ _ _ _ _ _=>a
  | _=>{ posonlyargs:=[],args:=[],vararg:=none,kwonlyargs:=[],kw_defaults:=[],kwarg:=none,defaults:=[] }
def defBody (s:Stmt):List Stmt:=match s with
  | .FunctionDef _ _ b _ _ _ _ _ _ _=>b
  | _=>[]
def defScope (s:Stmt):Scope:=match s with
  | .FunctionDef _ _ _ _ _ _ sc _ _ _=>sc
  | _=>{ kind:=.function,names:=[],isGenerator:=false,isCoroutine:=false }
abbrev CX0:CXT:=fun _ _ _ _ _ _=>False
abbrev E0:XK:=fun _ _ _=>False
theorem pass0 {X:Cx}:Passes CX0 X E0:=fun _ _ _ _ _ _ _ h=>h.elim
structure Fun (K:PySem.W.Frag) (x qual:Str) (st:Stmt) (f:Addr) (fd:FuncData):Prop where
  ex:∃ (oc:Value) (od:Option Addr) (kV doc pm:Value) (an:Option Addr) (cdv ct:Value) (osl:Array (Option Value)),
    fd=PySem.W.fnOf x qual (defArgs st) (defBody st) (defScope st) .none kV doc pm an cdv ct∧K.lookup f=some ⟨oc,od,.func fd,osl⟩∧PySem.W.codeIn K cdv qual=true
  kp:PySem.W.keepIn K (.ref f)=true
section
variable {P:Program} {w:World} {K:PySem.W.Frag} {mg:Str→Option Value} {base:Heap}
theorem Fun.ok {x qual:Str} {st:Stmt} {f:Addr} {fd:FuncData} {N ps:List Str} {k:Nat} {sp:Sp} (F:Fun K x qual st f fd) (S:FnScope N ps (defScope st)) (len:∀ vs H Q E,sp vs H Q E→vs.length=ps.length)
    (hbody:∀ (cdv:Value) (A:Around) (outer:List Env) (s:Shared) (H:Hp) (vs:List V) (Q:VK) (E:XK),Room k (A.deeper (envOfC qual (defScope st) s.heap.objs.size f cdv))→sp vs H Q E→
      ∃ t,PSs (cxOf CX0 P w K mg base N qual (defScope st) f cdv A outer s H E).nox (defBody st) t∧t { nx:=fun _ H'=>Q .non H',rt:=Q } (start N vs) H):FnOk P w K mg base CX0 (k+1) f fd ps sp:=by
  obtain ⟨oc,od,kV,doc,pm,an,cdv,ct,osl,rfl,lk,hcd⟩:=F.ex
  refine fn_of lk hcd S len fun A outer s H vs Q E hr hsp=>?_
  obtain ⟨t,h,q⟩:=hbody cdv A outer s H vs Q E hr hsp
  exact ⟨t,h.nox,q⟩
theorem Fun.binds {x qual:Str} {st:Stmt} {f:Addr} {fd:FuncData} {ps:List Str} (F:Fun K x qual st f fd)
    (h:∀ (kV doc pm:Value) (an:Option Addr) (cdv ct:Value) (us:List Value),us.length=ps.length→bindArgs (PySem.W.fnOf x qual (defArgs st) (defBody st) (defScope st) .none kV doc pm an cdv ct) ⟨us,[]⟩=pure (ps.zip us)):Binds K fd ps []:=by
  obtain ⟨oc,od,kV,doc,pm,an,cdv,ct,osl,rfl,lk,hcd⟩:=F.ex
  exact .all (h kV doc pm an cdv ct)
theorem fun_mk {x qual:Str} {st:Stmt} {f:Addr} {oc:Value} {od an:Option Addr} {osl:Array (Option Value)} {kV doc pm cdv ct:Value} (l:K.lookup f=some ⟨oc,od,.func (PySem.W.fnOf x qual (defArgs st) (defBody st) (defScope st) .none kV doc pm an cdv ct),osl⟩)
    (c:PySem.W.codeIn K cdv qual=true) (k:PySem.W.keepIn K (.ref f)=true):Fun K x qual st f (PySem.W.fnOf x qual (defArgs st) (defBody st) (defScope st) .none kV doc pm an cdv ct):=⟨⟨oc,od,kV,doc,pm,an,cdv,ct,osl,rfl,l,c⟩,k⟩
end
theorem small1000 {n:Nat} (h:n≤1000):n<sizeLine:=Nat.lt_of_le_of_lt h (by decide)
section
variable {X:Cx}
theorem pv (i:Nat) {x:Str} {pos:Pos} (hN:X.N[i]?=some x:=by rfl) (hv:Vis X.env.scope x:=by first | exact Or.inl rfl | exact Or.inr (Or.inl rfl) | exact Or.inr (Or.inr rfl)) (hd:(x == ("__debug__":Str))=false:=by decide)
    (hcd:(x == ("__classdict__":Str))=false:=by decide):PE X (.Name x pos) (tVar i):=pe_var hN hv hd hcd
end
theorem iteF {A B:Prop} (h:B):if false=true then A else B:=by
  rw [if_neg Bool.false_ne_true]
  exact h
theorem iteT {A B:Prop} (h:A):if true=true then A else B:=by
  rw [if_pos rfl]
  exact h
theorem ite2 {c A B:Prop} [Decidable c] (h1:c→A) (h2:¬ c→B):if c then A else B:=by
  by_cases h:c
  · rw [if_pos h]
    exact h1 h
  · rw [if_neg h]
    exact h2 h
def Same (H H':Hp):Prop:=∀ b o,H b=some o→H' b=some o
theorem Same.refl (H:Hp):Same H H:=fun _ _ h=>h
theorem Same.trans {H H1 H2:Hp} (a:Same H H1) (b:Same H1 H2):Same H H2:=fun c o h=>b c o (a c o h)
theorem Same.free {H H':Hp} (e:Same H H') {l:Addr} (h:H' l=Option.none):H l=Option.none:=by
  cases q:H l with
  | none=>rfl
  | some o =>
    rw [e l o q] at h
    cases h
theorem Same.seq {K:PySem.W.Frag} {H H':Hp} {a:Addr} {xs:List V} (e:Same H H') (h:SqL K H a xs):SqL K H' a xs:=by
  rcases h with (h | ⟨o,h⟩) | h
  · exact .inl (.inl (e _ _ h))
  · exact .inl (.inr ⟨o,e _ _ h⟩)
  · exact .inr h
end L2
set_option maxHeartbeats 4000000
namespace L2
open PySem PySem.Spec PyProof.Rows
def Big (i:Int):Prop:=i.natAbs<2 ^ 4000
theorem log2_lt_of {n m:Nat} (h:n<2 ^ m) (hm:0<m):n.log2<m:=by
  rcases Nat.eq_zero_or_pos n with h0 | hp
  · rw [h0]
    exact Nat.lt_of_le_of_lt (by decide) hm
  · exact (Nat.log2_lt (Nat.ne_of_gt hp)).mpr h
def CMulB (i j:Int):Prop:=Big i∧Big j
def CDivB (_ j:Int):Prop:=0<j∧Big j
section
variable {X:Cx}
theorem op_fdivB:OpR X (binaryOp .FloorDiv) (rI CDivB fun i j=>.int (i / j)):=opI fun i j _ _ _ _ _ hc q=>by
  have h1:(0:Int)<j:=hc.1
  have h2:j.natAbs.log2<4000:=log2_lt_of hc.2 (by decide)
  exact floordiv_int (by omega) (by rw [Int.fdiv_eq_ediv_of_nonneg i (by omega)]; exact q) (.inl (PyProof.noPylong_of_log2 (by omega)))
theorem call_isinst:CallR X (.builtin "isinstance") (fun xs H Q=>∃ (x c:V) (t:Value) (b:Bool),xs=[x,c]∧TyOf X.K H x t∧(∃ u,RelV c u∧(∀ u',RelV c u'→u'=u)∧PySem.W.kitOne X.K t u=some b)∧Q (.bl b) H):=by
  intro pins s σ H xs us Q I r h
  obtain ⟨x,c,t,b,rfl,ty,⟨u,_,hu,e⟩,q⟩:=h
  obtain ⟨u1,u2,rfl,r1,r2⟩:=vals2 r
  have e2:=hu u2 r2
  subst e2
  exact isinst_ok I r1 ty e fun tk=>⟨.bl b,H,I.tok _,rfl,q⟩
def rIsT (K:PySem.W.Frag) (n:String):List V→Hp→VK→Prop:=fun xs H Q=>∃ (x:V) (t:Value) (b:Bool),xs=[x,.ty n]∧TyOf K H x t∧PySem.W.kitOne K t (.type n)=some b∧Q (.bl b) H
theorem call_isT (n:String):CallR X (.builtin "isinstance") (rIsT X.K n):=by
  intro pins s σ H xs us Q I r h
  obtain ⟨x,t,b,rfl,ty,e,q⟩:=h
  exact call_isinst pins s σ H _ us Q I r ⟨x,.ty n,t,b,rfl,ty,⟨.type n,rfl,fun u' h'=>h',e⟩,q⟩
def rIsC (K:PySem.W.Frag) (C:Addr):List V→Hp→VK→Prop:=fun xs H Q=>∃ (x:V) (t:Value) (b:Bool),xs=[x,.ref C]∧TyOf K H x t∧PySem.W.kitOne K t (.ref C)=some b∧Q (.bl b) H
theorem Inv.turnedNew {pins:List (Addr×Obj)} {σ:St} {H:Hp} {s:Shared} {h':Heap} {t':Nat} {ch:List Addr} {a:Addr} {o:HO} (I:Inv X pins σ H s) (k:∀ b u,b∉ch→s.heap.get? b=some u→h'.get? b=some u)
    (hf:∀ b∈ch,FpOk X pins H b) (hp:s.heap.objs.size≤a) (new:ObjOk X.prog X.w (upd H a o) h' a o):Inv X pins σ (upd H a o) { s with heap:=h',toks:=t' }:=by
  have na:H a=none:=I.hok.fresh hp
  have nch:∀ b u,H b=some u→b∉ch:=fun b u e z=>by
    have:=(hf b z).1
    rw [this] at e
    cases e
  refine I.step (g':=s.gens) (d':=s.drawn) (ch:=ch) (fun b hb=>?_) (fun b u _ _ hc e _=>k b u hc e) (fun b u _ _ hc e _=>⟨u.slots,k b u hc e⟩) (fun b u _ e n=>?_)
    (fun b u hc e=>⟨u,k b u hc e⟩) (fun b xs e=>by rw [upd_ne (ne_of_none e na)]; exact e) (fun b u v e=>by rw [upd_ne (ne_of_none e na)]; exact e) (fun b ps e=>⟨#[],by rw [upd_ne (ne_of_none e na),e]; simp⟩) (fun m hm=>?_) (fun b u e=>?_) I.bare
  · obtain ⟨_,f1,_,f3,f4,f5⟩:=hf b hb
    exact ⟨f3,f1,f4,f5⟩
  · have hne:b≠a:=Nat.ne_of_lt (Nat.lt_of_lt_of_le (Heap.lt_size e) hp)
    rw [upd_ne hne]
    exact n
  · obtain ⟨ob,es,ep,ho,r⟩:=hm
    exact ⟨ob,es,ep,k _ ob (fun z=>(hf _ z).2.1 rfl) ho,r⟩
  · by_cases hb:b=a
    · subst hb
      rw [upd_same] at e
      cases e
      exact new
    · rw [upd_ne hb] at e
      refine (I.hok b u e).stay (fun c v hc q=>k c v ?_ q) (fun c q=>by rw [upd_ne (ne_of_none q na)]; exact q) fun c xs q=>by rw [upd_ne (ne_of_none q na)]; exact q
      rcases hc with z | z
      · rw [z]; exact nch b u e
      · exact nch c _ z
theorem Inv.turnedL {pins:List (Addr×Obj)} {σ:St} {H:Hp} {s:Shared} {h':Heap} {t':Nat} {ch:List Addr} (I:Inv X pins σ H s) (k:∀ b u,b∉ch→s.heap.get? b=some u→h'.get? b=some u)
    (hf:∀ b∈ch,FpOk X pins H b):Inv X pins σ H { s with heap:=h',toks:=t' }:=by
  have nch:∀ b u,H b=some u→b∉ch:=fun b u e z=>by
    have:=(hf b z).1
    rw [this] at e
    cases e
  refine I.step (g':=s.gens) (d':=s.drawn) (ch:=ch) (fun b hb=>?_) (fun b u _ _ hc e _=>k b u hc e) (fun b u _ _ hc e _=>⟨u.slots,k b u hc e⟩) (fun b u _ e n=>n)
    (fun b u hc e=>⟨u,k b u hc e⟩) (fun b xs e=>e) (fun b u v e=>e) (fun b ps e=>⟨#[],by rw [e]; simp⟩) (fun m hm=>?_) (fun b u e=>?_) I.bare
  · obtain ⟨_,f1,_,f3,f4,f5⟩:=hf b hb
    exact ⟨f3,f1,f4,f5⟩
  · obtain ⟨ob,es,ep,ho,r⟩:=hm
    exact ⟨ob,es,ep,k _ ob (fun z=>(hf _ z).2.1 rfl) ho,r⟩
  · refine (I.hok b u e).stay (fun c v hc q=>k c v ?_ q) (fun c q=>q) fun c xs q=>q
    rcases hc with z | z
    · rw [z]; exact nch b u e
    · exact nch c _ z
end
def Ite (K:PySem.W.Frag) (a:Addr):It :=
  ⟨fun i H=>∃ xs x,SqL K H a xs∧xs[i]?=some x,fun i H v H'=>∃ T x,H T=none∧H'=upd H T (.tup [.int (i:Int),x])∧v=.ref T∧∀ xs,SqL K H a xs→xs[i]?=some x,fun i H=>∃ xs,SqL K H a xs∧xs.length≤i⟩
theorem turn_enum {P:Program} {w:World} {K:PySem.W.Frag} {elts:List Expr} {x1:Nat} {tp:Pos} (a e it:Addr) (hei:e≠it) :
    Turn P w K (.Tuple elts x1 tp) (Ite K a) [e,it] e (fun i h=>(∃ old,IsEnum h e it i old)∧h.IsListIter it a i) where
  mem:=by simp
  obj:=fun i h st b hb=>by
    obtain ⟨⟨old,he⟩,⟨o,e1,c,d⟩⟩:=st
    rcases List.mem_cons.mp hb with z | z
    · subst z
      exact ⟨_,he,fun v q=>nomatch q⟩
    · have z':b=it:=by simpa using z
      subst z'
      exact ⟨o,e1,fun v q=>by rw [d] at q; cases q⟩
  keep:=fun i h h' st k=>⟨st.1.elim fun old he=>⟨old,k e (by simp) _ he⟩,st.2.at fun o q=>k it (by simp) o q⟩
  item:=by
    intro X hP hw hK hc i pins s σ H E I hf st hg
    subst hP hw hK
    obtain ⟨xs,x,hq,hx⟩:=hg
    obtain ⟨its,rv,p,hz⟩:=I.list hq
    obtain ⟨u,hu,ru⟩:=rv.get hx
    obtain ⟨⟨old,he⟩,hit⟩:=st
    refine wpAny_pyNext_enum_item he hit p.isList (x:=u) (by simpa using hu) hei fun h' ho hit' hT hsz hk=>?_
    have helt:e<s.heap.objs.size:=Heap.lt_size he
    have hilt:it<s.heap.objs.size:=by obtain ⟨_,q,_⟩:=hit; exact Heap.lt_size q
    refine ⟨_,rfl,?_⟩
    refine wpAny_letOwnedTupleGo_enum ho fun h2 he2 hs2=>?_
    have k2:∀ b o,b∉[e,it]→s.heap.get? b=some o→h2.get? b=some o:=fun b o hb q=>by
      have n1:b≠e:=fun z=>hb (by simp [z])
      have n2:b≠it:=fun z=>hb (by simp [z])
      exact (hs2.2 b n1).trans (hk b o n1 n2 q)
    have t2:h2.get? s.heap.objs.size=some { cls:=.type "tuple",data:=.seq #[.int i s.toks,u] }:=(hs2.2 _ (Nat.ne_of_gt helt)).trans hT
    have hn:H s.heap.objs.size=none:=I.hok.fresh (Nat.le_refl _)
    have new:ObjOk X.prog X.w (upd H s.heap.objs.size (.tup [.int (i:Int),x])) h2 s.heap.objs.size (.tup [.int (i:Int),x]) :=
      ⟨by simp only [List.length_cons,List.length_nil]; rw [sizeLine_eq]; decide,[.int i s.toks,u],.cons ⟨_,rfl⟩ (.cons ru .nil),⟨_,t2,rfl,_,rfl⟩⟩
    have I2:Inv X pins σ (upd H s.heap.objs.size (.tup [.int (i:Int),x])) { s with heap:=h2,toks:=s.toks+1 }:=I.turnedNew k2 hf (Nat.le_refl _) new
    refine ⟨.ref s.heap.objs.size,_,I2,rfl,⟨s.heap.objs.size,x,hn,rfl,rfl,fun ys hy=>by rw [I.list_inj hy hq]; exact hx⟩,⟨⟨u,?_⟩,hit'.at fun o q=>(hs2.2 it hei.symm).trans q⟩,fun b hb=>?_⟩
    · simpa using he2
    · have hb1:b≠s.heap.objs.size:=by
        rcases List.mem_cons.mp hb with z | z
        · rw [z]; exact Nat.ne_of_lt helt
        · have z':b=it:=by simpa using z
          rw [z']; exact Nat.ne_of_lt hilt
      rw [upd_ne hb1]
      exact (hf b hb).1
  done:=by
    intro X hP hw hK hc i pins s σ H E I hf st hg
    subst hP hw hK
    obtain ⟨xs,hq,hx⟩:=hg
    obtain ⟨its,rv,p,hz⟩:=I.list hq
    obtain ⟨⟨old,he⟩,hit⟩:=st
    have hl:=rv.length
    refine wpAny_pyNext_enum_end (I.ok.hd hc) he hit p.isList (by simp; omega) fun h' eb=>⟨rfl,?_⟩
    exact I.turnedL (t':=s.toks) (fun b o hb q=>eb b o (fun z=>hb (by simp [z])) q) hf
  self:=fun _ _ _ _ _ st h=>by
    obtain ⟨⟨old,he⟩,_⟩:=st
    exact wpAny_pyIter_enum he h
section
variable {X:Cx}
def iEnum (K:PySem.W.Frag) (ta:TA):TI:=fun σ H R=>ta σ H fun vs H1=>∃ a,vs=[.ref a]∧(∃ xs,SqL K H1 a xs)∧R (Ite K a) H1
theorem pi_enum {a:Expr} {ta:TA} {p pos tp:Pos} {elts:List Expr} {x1:Nat} (hg:Gl X "enumerate") (hm:X.mg "enumerate"=none) (ha:PA X [a] ta) (hs:starEach [a] X.env=[(false,eval a X.env)]:=by rfl) :
    PI X (.Tuple elts x1 tp) (.Call (.Name "enumerate" p) [a] [] pos) (iEnum X.K ta):=by
  intro pins s σ H R I h
  refine Call_ (ld_blt I hg hm boot_enumerate (PyProof.Rows.callWith_type1 (thn (ha pos pins s σ H _ I h) fun us s1 ⟨vs,H1,I1,r1,q1⟩=>?_) hs rfl))
  obtain ⟨l,e,⟨xs,hx⟩,q⟩:=q1
  subst e
  obtain ⟨u,rfl,ru⟩:=vals1 r1
  cases ru
  obtain ⟨its,rv,pl,hz⟩:=I1.list hx
  refine call_enumerate_list pl.isList fun h' he hit hsz hk=>?_
  refine wpAny_pyIter_enum he ?_
  have hfp:∀ b∈[s1.heap.objs.size+1,s1.heap.objs.size],FpOk X pins H1 b:=fun b hb=>by
    have hge:s1.heap.objs.size≤b:=by
      rcases List.mem_cons.mp hb with z | z
      · omega
      · have z':b=s1.heap.objs.size:=by simpa using z
        omega
    exact I1.fpOk hge (I1.hok.fresh hge)
  exact ⟨s1.heap.objs.size+1,[s1.heap.objs.size+1,s1.heap.objs.size],_,_,H1,rfl,I1.kept (t':=s1.toks) hk,turn_enum l _ _ (Nat.succ_ne_self _),⟨⟨_,he⟩,hit⟩,hfp,q⟩
end
theorem for_enum {K:PySem.W.Frag} {a:Addr} {xs:List V} {g:TG} {tb:TS} {D:Ends} {σ:St} {H:Hp} (Pv:Nat→St→Hp→Prop) (h0:Pv 0 σ H) (hl:∀ i σ H,i≤xs.length→Pv i σ H→SqL K H a xs)
    (hs:∀ i x σ H T,xs[i]?=some x→Pv i σ H→H T=none→g (.ref T) σ (upd H T (.tup [.int (i:Int),x])) fun σ2 H2=>tb { D with nx:=Pv (i+1),ct:=Pv (i+1),bk:=D.nx } σ2 H2) (hd:∀ σ H,Pv xs.length σ H→D.nx σ H) :
    ∃ W:Nat→Nat→St→Hp→Prop,(∃ m,W 0 m σ H)∧∀ i m σ H,W i m σ H→
      ((Ite K a).stop i H∧D.nx σ H)∨((Ite K a).go i H∧∃ N:St→Hp→Prop,(∀ σ' H',N σ' H'→∃ m',m'<m∧W (i+1) m' σ' H')∧∀ x H',(Ite K a).yld i H x H'→g x σ H' fun σ2 H2=>tb { D with nx:=N,ct:=N,bk:=D.nx } σ2 H2):=by
  refine ⟨fun i m σ H=>m=xs.length - i∧i≤xs.length∧Pv i σ H,⟨xs.length,by simp,Nat.zero_le _,h0⟩,?_⟩
  rintro i m σ H ⟨rfl,hi,p⟩
  have q:=hl i σ H hi p
  by_cases hlt:i<xs.length
  · refine .inr ⟨⟨xs,xs[i],q,by simp [hlt]⟩,Pv (i+1),fun σ' H' p'=>⟨xs.length - (i+1),by omega,rfl,hlt,p'⟩,fun v H' y=>?_⟩
    obtain ⟨T,x,hT,e1,e2,y⟩:=y
    subst e1 e2
    exact hs i x σ H T (y xs q) p hT
  · have e:i=xs.length:=by omega
    subst e
    exact .inl ⟨⟨xs,q,Nat.le_refl _⟩,hd σ H p⟩
section
variable {prog:Program} {w:World} {A:Around} {E:Value→Shared→Prop} {s:Shared}
theorem draw_listA {it l:Addr} {items:Array Value} (hne:l≠it):∀ (n i:Nat) (s:Shared) (Q:List Value→Shared→Prop),s.heap.IsListIter it l i→s.heap.IsList l items→i+n≤items.size→
    (∀ h',h'.IsListIter it l (i+n)→Heap.SameBut it s.heap h'→Q ((items.toList.drop i).take n) { s with heap:=h' })→wpAny (model prog w) A (draw (.ref it) n) Q E s
  | 0,i,s,Q,hit,_,_,hQ=>by
    show wpAny _ _ (pure []) Q E s
    exact wpAny_pure (by simpa using hQ s.heap hit (Heap.SameBut.refl ..))
  | n+1,i,s,Q,hit,ht,hle,hQ=>by
    have hlt:i<items.size:=by omega
    show wpAny _ _ (pyNext (.ref it) >>= _) Q E s
    refine wpAny_bind (wpAny_pyNext_list_item hit ht (x:=items[i]) (by simp [hlt]) fun h₁ hit₁ hs₁=>?_)
    refine wpAny_bind (wpAny_holding (draw_listA hne n (i+1) _ _ hit₁ (ht.extBut hs₁.extBut hne) (by omega) fun h₂ hit₂ hs₂=>wpAny_pure ?_))
    have hd:items.toList.drop i=items[i]::items.toList.drop (i+1):=by simp [List.drop_eq_getElem_cons,hlt]
    have:=hQ h₂ (by rw [show i+(n+1)=i+1+n by omega]; exact hit₂) (hs₁.trans hs₂)
    rw [hd,List.take_succ_cons] at this
    exact this
theorem unpackItems_listA {t:Addr} {items:Array Value} {Q:List Value→Shared→Prop} (hh:A.handled=none) (ht:s.heap.IsList t items)
    (hQ:∀ h',Heap.ExtBut s.heap.objs.size s.heap h'→Q items.toList { s with heap:=h' }):wpAny (model prog w) A (unpackItems (.ref t) items.size none) Q E s:=by
  have hlt:t≠s.heap.objs.size:=by obtain ⟨o,ho,_⟩:=ht; exact Nat.ne_of_lt (Heap.lt_size ho)
  unfold unpackItems
  refine wpAny_bind ?_
  · unfold notIterableAtAll
    refine wpAny_bind (wpAny_specialOf ht.typeIs F.slot_list_iter.lookup ?_)
    refine wpAny_pure ?_
    simp only [Bool.false_eq_true,if_false]
    refine wpAny_bind (wpAny_holding (wpAny_pyIter_list ht ?_))
    have hpush:∀ o,Heap.IsList (s.heap.push o) t items:=fun o=>ht.at fun o' e=>Heap.get?_push_of_some _ e
    refine wpAny_bind (wpAny_holding (draw_listA hlt items.size 0 _ _ ⟨_,Heap.get?_push_size _ rfl,rfl,rfl⟩ (hpush _) (by omega) fun h₁ hit₁ hs₁=>?_))
    have hall:List.take items.size (List.drop 0 items.toList)=items.toList:=by
      rw [List.drop_zero]; exact List.take_of_length_le (by simp)
    rw [hall]
    rw [if_neg (by simp)]
    have ht₁:h₁.IsList t items:=(hpush _).extBut hs₁.extBut hlt
    refine wpAny_bind (wpAny_holding (wpAny_pyNext_list_end hh hit₁ ht₁ (by simp) fun h₂ he₂=>?_))
    simp only [Option.isSome_none,Bool.false_eq_true,if_false]
    refine wpAny_pure (hQ h₂ fun b o hb e=>he₂ b o hb (hs₁.extBut b o hb (Heap.get?_push_of_some _ e)))
theorem unpack_listA {t:Addr} {items:Array Value} {targets:List (Bool×(Value→Sem Unit))} {Q:Unit→Shared→Prop} (hh:A.handled=none) (ht:s.heap.IsList t items)
    (hn:targets.length=items.size) (hstar:targets.findIdx? (·.1)=none)
    (h:∀ h',Heap.ExtBut s.heap.objs.size s.heap h'→wpAny (model prog w) A (assignInOrder (targets.map (·.2)) items.toList) Q E { s with heap:=h' }) :
    wpAny (model prog w) A (unpack (.ref t) targets) Q E s:=by
  unfold unpack
  rw [hn,hstar]
  exact wpAny_bind (wpAny_holding (unpackItems_listA hh ht h))
end
section
variable {X:Cx} {pos:Pos}
def gTupL (K:PySem.W.Frag) (n:Nat) (t:TGs):TG:=fun v σ H Q=>∃ a xs,v=.ref a∧SqL K H a xs∧xs.length=n∧t xs σ H Q
theorem pg_tupL {es:List Expr} {k:Nat} {t:TGs} {n:Nat} (hc:X.calm=true) (h:PGs X es t)
    (hn:(assignEach es X.env).length=n:=by rfl) (hst:(assignEach es X.env).findIdx? (·.1)=none:=by rfl):PG X (.Tuple es k pos) (gTupL X.K n t):=by
  intro pins s σ H v u Q I r hw
  obtain ⟨a,xs,e1,hq,hl,hw⟩:=hw
  subst e1
  cases r
  obtain ⟨its,rv,ht,hz⟩:=I.list hq
  rw [assign_Tuple]
  refine wpAny_bind (wpAny_standAt (unpack_listA (I.ok.hd hc) ht.isList (by simp [hn,← hl,rv.length]) hst fun h' hx=>?_))
  have I1:Inv X pins σ H { s with heap:=h' }:=I.kept (t':=s.toks) fun b o e=>hx b o (Nat.ne_of_lt (Heap.lt_size e)) e
  exact h pins _ σ H xs _ Q I1 (by simpa using rv) hw
end
structure Cal (P:Program) (w:World) (K:PySem.W.Frag) (mg:Str→Option Value) (base:Heap) (k:Nat) (x:Str) (ps:List Str) (sp:Sp):Prop where
  ex:∃ (f:Addr) (fd:FuncData),FnOk P w K mg base CX0 k f fd ps sp∧Binds K fd ps []∧PySem.W.keepIn K (.ref f)=true∧mg x=some (.ref f)
section
variable {X:Cx} {k j:Nat} {x:Str} {ps:List Str} {sp:Sp} {p pos:Pos} {e:Expr} {es:List Expr} {t:TA}
theorem pe_fn (C:Cal X.prog X.w X.K X.mg X.base k x ps sp) (hr:Room j X.A) (hj:k≤j) (hg:Gl X x) (ha:PA X (e::es) t) (hdb:(x == ("__debug__":Str))=false:=by decide) (he:starEach (e::es) X.env=(false,eval e X.env)::starEach es X.env:=by rfl) (hpl:(backTo pos (starEach es X.env)).any (·.1)=false:=by rfl) :
    PE X (.Call (.Name x p) (e::es) [] pos) (tCall sp [] E0 t):=by
  obtain ⟨f,fd,G,b,kp,m⟩:=C.ex
  exact pe_call G (hr.mono hj) hg m kp b .nil pass0 ha hdb he hpl
end
theorem same_new {H:Hp} {p:Addr} (h:H p=none) (o:HO):Same H (upd H p o):=fun b u q=>by rw [upd_ne (ne_of_none q h)]; exact q
theorem Same.upd {H H1:Hp} {p:Addr} (s:Same H H1) (h:H p=none) (o:HO):Same H (upd H1 p o):=fun b u q=>by rw [upd_ne (ne_of_none q h)]; exact s b u q
theorem small {n:Nat} (h:n≤1000):n≤sizeLine:=Nat.le_of_lt (small1000 h)
end L2
namespace L2
open PySem PySem.Spec PyProof.Rows
structure FunAt (K:PySem.W.Frag) (x:Str) (st:Stmt):Prop where
  ex:∃ (f:Addr) (fd:FuncData),Fun K x x st f fd∧PySem.W.nsIn K mainGlobals x=some (some (.ref f))
theorem funAt_mk {K:PySem.W.Frag} {x:Str} {st:Stmt} {f:Addr} {oc:Value} {od an:Option Addr} {osl:Array (Option Value)} {kV doc pm cdv ct:Value} (a:PySem.W.nsIn K mainGlobals x=some (some (.ref f)))
    (l:K.lookup f=some ⟨oc,od,.func (PySem.W.fnOf x x (defArgs st) (defBody st) (defScope st) .none kV doc pm an cdv ct),osl⟩)
    (c:PySem.W.codeIn K cdv x=true) (k:PySem.W.keepIn K (.ref f)=true):FunAt K x st:=⟨f,_,fun_mk (st:=st) l c k,a⟩
theorem FunAt.cal {P:Program} {w:World} {K:PySem.W.Frag} {h base:Heap} {mg:Str→Option Value} {x:Str} {st:Stmt} {ps:List Str} {k:Nat} {sp:Sp} (F:FunAt K x st) (X:K.In h) (G:h.Ns mainGlobals mg)
    (hb:∀ (kV doc pm:Value) (an:Option Addr) (cdv ct:Value) (us:List Value),us.length=ps.length→bindArgs (PySem.W.fnOf x x (defArgs st) (defBody st) (defScope st) .none kV doc pm an cdv ct) ⟨us,[]⟩=pure (ps.zip us))
    (ok:∀ (f:Addr) (fd:FuncData),Fun K x x st f fd→FnOk P w K mg base CX0 k f fd ps sp):Cal P w K mg base k x ps sp:=by
  obtain ⟨f,fd,F1,a⟩:=F.ex
  exact ⟨f,fd,ok f fd F1,F1.binds hb,F1.kp,PySem.W.mg_of X G a⟩
theorem FunAt.law {P:Program} {w:World} {K:PySem.W.Frag} {h:Heap} {mg:Str→Option Value} {x p:Str} {st:Stmt} {fa:Addr} {k:Nat} {sp:Sp} (F:FunAt K x st) (X:K.In h) (G:h.Ns mainGlobals mg) (hfa:mg x=some (.ref fa))
    (hb:∀ (kV doc pm:Value) (an:Option Addr) (cdv ct:Value) (u:Value),bindArgs (PySem.W.fnOf x x (defArgs st) (defBody st) (defScope st) .none kV doc pm an cdv ct) ⟨[u],[]⟩=pure [(p,u)])
    (ok:∀ (base:Heap),K.In base→base.Ns mainGlobals mg→∀ (f:Addr) (fd:FuncData),Fun K x x st f fd→FnOk P w K mg base CX0 k f fd [p] sp) :
    ∃ fd:FuncData,(∀ (s:Shared) (u:Value),BindsTo s fd ⟨[u],[]⟩ [(p,u)])∧∀ base:Heap,K.In base→base.Ns mainGlobals mg→FnOk P w K mg base CX0 k fa fd [p] sp:=by
  obtain ⟨f,fd,F1,a⟩:=F.ex
  have e:=hfa.symm.trans (PySem.W.mg_of X G a)
  cases e
  refine ⟨fd,fun s u=>?_,fun base kb nb=>ok base kb nb _ fd F1⟩
  obtain ⟨oc,od,kV,doc,pm,an,cdv,ct,osl,rfl,lk,hcd⟩:=F1.ex
  exact .of_eq (hb kV doc pm an cdv ct u)
end L2
namespace L2
open PySem PySem.Spec PyProof.Rows
theorem fun_ex {K:PySem.W.Frag} {x qual:Str} {st:Stmt} {f:Addr} {oc:Value} {od an:Option Addr} {osl:Array (Option Value)} {kV doc pm cdv ct:Value}
    (l:K.lookup f=some ⟨oc,od,.func (PySem.W.fnOf x qual (defArgs st) (defBody st) (defScope st) .none kV doc pm an cdv ct),osl⟩)
    (c:PySem.W.codeIn K cdv qual=true) (k:PySem.W.keepIn K (.ref f)=true):∃ fd,Fun K x qual st f fd:=⟨_,fun_mk (st:=st) l c k⟩
end L2
namespace L2
open PySem PySem.Spec PyProof.Rows
theorem cellsFrom_app:∀ (names:List (Str×NameKind)) (n:Nat) (acc:List (Str×Addr)),cellsFrom n names acc=cellsFrom n names []++acc
  | [],_,_=>rfl
  | (x,k)::r,n,acc=>by
    unfold cellsFrom
    split
    · rw [cellsFrom_app r (n+1) ((x,n)::acc),cellsFrom_app r (n+1) [(x,n)],List.append_assoc]
      rfl
    · exact cellsFrom_app r n acc
theorem cellsFrom_none {y:Str}:∀ (names:List (Str×NameKind)) (n:Nat),(∀ k,(y,k)∈names→k≠.cell)→(cellsFrom n names []).lookup y=none
  | [],_,_=>rfl
  | (x,k)::r,n,h=>by
    have hr:∀ k,(y,k)∈r→k≠.cell:=fun k' hk=>h k' (List.mem_cons_of_mem _ hk)
    unfold cellsFrom
    split
    · rename_i hk
      rw [cellsFrom_app,List.lookup_append,cellsFrom_none r (n+1) hr]
      have hne:(y == x)=false:=by
        cases e:(y == x) with
        | false=>rfl
        | true =>
          have e':y=x:=beq_iff_eq.mp e
          subst e'
          exact absurd (beq_iff_eq.mp hk) (h k List.mem_cons_self)
      show Option.or none (List.lookup y [(x,n)])=none
      rw [List.lookup_cons,hne]
      rfl
    · exact cellsFrom_none r n hr
theorem closure_loop {env:Env} (f:Str×NameKind→List (Str×Addr)→Sem (ForInStep (List (Str×Addr))))
    (hf:∀ name kind cs,f (name,kind) cs=if kind == .free then (do let a ← cellOf env name; pure (.yield ((name,a)::cs))) else pure (.yield cs)) :
    ∀ (names:List (Str×NameKind)) (acc:List (Str×Addr)),(∀ y∈names,y.2=.free→∃ c,env.cells.lookup y.1=some c)→(∀ y c,acc.lookup y=some c→env.cells.lookup y=some c)→
      ∃ cl,forIn names acc f=pure cl∧(∀ y c,cl.lookup y=some c→env.cells.lookup y=some c)∧(∀ y c,acc.lookup y=some c→∃ c',cl.lookup y=some c')∧∀ y∈names,y.2=.free→∃ c,cl.lookup y.1=some c
  | [],acc,_,ha=>⟨acc,by rw [List.forIn_nil],ha,fun y c e=>⟨c,e⟩,fun y hy=>nomatch hy⟩
  | (x,k)::r,acc,hc,ha=>by
    have hr:∀ y∈r,y.2=.free→∃ c,env.cells.lookup y.1=some c:=fun y hy=>hc y (List.mem_cons_of_mem _ hy)
    by_cases hk:k=.free
    · obtain ⟨c,ec⟩:=hc (x,k) List.mem_cons_self hk
      have ha':∀ y d,((x,c)::acc).lookup y=some d→env.cells.lookup y=some d:=fun y d e=>by
        rw [List.lookup_cons] at e
        cases q:(y == x) with
        | true =>
          rw [q] at e
          have e1:c=d:=Option.some.inj e
          rw [beq_iff_eq.mp q,← e1]
          exact ec
        | false=>rw [q] at e; exact ha y d e
      obtain ⟨cl,h1,h2,h3,h4⟩:=closure_loop f hf r ((x,c)::acc) hr ha'
      refine ⟨cl,?_,h2,fun y d e=>?_,fun y hy hf=>?_⟩
      · rw [List.forIn_cons,hf,if_pos (by rw [hk]; rfl)]
        have:cellOf env x=pure c:=by unfold cellOf; rw [ec]
        rw [this]
        simp only [pure_bind]
        exact h1
      · cases q:(y == x) with
        | true=>exact h3 y c (by rw [List.lookup_cons,q])
        | false=>exact h3 y d (by rw [List.lookup_cons,q]; exact e)
      · rcases List.mem_cons.mp hy with z | z
        · subst z
          exact h3 x c (by rw [List.lookup_cons]; simp)
        · exact h4 y z hf
    · obtain ⟨cl,h1,h2,h3,h4⟩:=closure_loop f hf r acc hr ha
      refine ⟨cl,?_,h2,h3,fun y hy hf=>?_⟩
      · rw [List.forIn_cons,hf,if_neg (by intro z; exact hk (beq_iff_eq.mp z))]
        simp only [pure_bind]
        exact h1
      · rcases List.mem_cons.mp hy with z | z
        · subst z
          exact absurd hf hk
        · exact h4 y z hf
theorem closure_ok {scope:Scope} {env:Env} (hc:∀ y∈scope.names,y.2=.free→∃ c,env.cells.lookup y.1=some c) :
    ∃ cl,closureFor scope env=pure cl∧(∀ y c,cl.lookup y=some c→env.cells.lookup y=some c)∧∀ y∈scope.names,y.2=.free→∃ c,cl.lookup y.1=some c:=by
  unfold closureFor
  obtain ⟨cl,h1,h2,_,h4⟩:=closure_loop (env:=env) (fun (x:Str×NameKind) (r:List (Str×Addr))=>if x.2 == .free then (do let a ← cellOf env x.1; pure (.yield ((x.1,a)::r))) else pure (.yield r)) (fun _ _ _=>rfl) scope.names [] hc (fun y c e=>by cases e)
  refine ⟨cl,?_,h2,h4⟩
  have e:∀ (f:Str×NameKind→List (Str×Addr)→Sem (ForInStep (List (Str×Addr)))),(∀ x r,f x r=if x.2 == .free then (do let a ← cellOf env x.1; pure (.yield ((x.1,a)::r))) else pure (.yield r))→(forIn scope.names ([]:List (Str×Addr)) f >>= fun cs=>pure cs)=(pure cl:Sem _):=fun f hf=>by
    have:f=fun (x:Str×NameKind) (r:List (Str×Addr))=>if x.2 == .free then (do let a ← cellOf env x.1; pure (.yield ((x.1,a)::r))) else pure (.yield r):=by
      funext x r
      exact hf x r
    rw [this,h1]
    rfl
  refine e _ fun x r=>?_
  obtain ⟨n,k⟩:=x
  cases hk:k == NameKind.free <;> simp [hk]
section
variable {prog:Program} {w:World} {A:Around} {E:Value→Shared→Prop} {R:Result→Shared→Prop} {s:Shared}
theorem comp_loop {elt target iter:Expr} {ifs:List Expr} {scope:Scope} {pos:Pos} {it acc:Value} {env:Env} (I:Nat→Shared→Prop)
    (turn:∀ n s,I n s→wpAny (model prog w) A (pyNext it) (fun r s₁=>match r with
      | none=>R (.ok .next) s₁
      | some v=>wpAny (model prog w) A (letOwnedTupleGo target it v) (fun _ s₁'=>wpAny (model prog w) A (assign target env v) (fun _ s₂ =>
          wpAny (model prog w) A (forIn ifs true fun c r=>if r=true then do let ok ← isTrue c env (eval c env); pure (ForInStep.yield ok) else pure (ForInStep.yield r)) (fun ok s₃ =>
            if ok=true then wpAny (model prog w) A (eval elt env) (fun x s₄ =>
              wpAny (model prog w) A (call (.builtin "list.append") [acc,x]) (fun _ s₅=>∃ m,m<n∧I m s₅) (fun _ _=>False) s₄) (fun _ _=>False) s₃
            else ∃ m,m<n∧I m s₃) (fun _ _=>False) s₂) (fun _ _=>False) s₁') (fun _ _=>False) s₁) (fun _ _=>False) s)
    (n:Nat) (h:I n s) :
    codeAny (model prog w) A (.compLoop (.ListComp elt [⟨target,iter,ifs,0⟩] scope pos) 0 it acc env) R s:=by
  refine codeAny_loop rfl I (fun n s hI=>?_) n h
  show wpAny _ A ((compTurn (.ListComp elt [⟨target,iter,ifs,0⟩] scope pos) 0 it acc env).onRaise (fun x=>do noteFrame x env; theTreesLotGoes x)) _ _ s
  refine wpAny_noted ?_
  rw [compTurn_list]
  refine wpAny_mono (E:=fun _ _=>False) ?_ (fun _ _ z=>z) fun _ _ z=>z.elim
  refine wpAny_bind (wpAny_standAt (wpAny_bind (wpAny_mono (turn n s hI) (fun r s₁ h₁=>?_) fun _ _ h'=>h')))
  cases r with
  | none=>exact wpAny_pure h₁
  | some v =>
    refine wpAny_bind (wpAny_mono h₁ (fun _ s₁' h₁'=>?_) fun _ _ h'=>h')
    refine wpAny_bind (wpAny_mono h₁' (fun _ s₂ h₂=>wpAny_bind (wpAny_mono h₂ (fun ok s₃ h₃=>?_) fun _ _ h'=>h')) fun _ _ h'=>h')
    cases ok with
    | false=>exact wpAny_pure ⟨rfl,h₃⟩
    | true =>
      exact wpAny_bind (wpAny_bind (wpAny_mono h₃ (fun x s₄ h₄=>wpAny_bind (wpAny_mono h₄ (fun _ s₅ h₅=>wpAny_pure (wpAny_pure ⟨rfl,h₅⟩)) fun _ _ h'=>h')) fun _ _ h'=>h'))
theorem comp_env {scope:Scope} {env:Env} {cl:List (Str×Addr)} {Q:Env→Shared→Prop}
    (hQ:Q { scope:=scope,locals:=s.heap.objs.size,globals:=env.globals,cells:=cellsFrom (s.heap.objs.size+1) scope.names cl,qual:=env.qual,func:=none,code:=env.code,frame:=env.frame,builtins:=env.builtins }
      { s with heap:=pushCells (s.heap.push { cls:=.type "dict",data:=.dict #[] }) scope.names }) :
    wpAny (model prog w) A (newFunctionEnv scope env.globals cl [] env.qual none .none (some env)) Q E s:=by
  simp only [newFunctionEnv,Option.isSome_some,if_true]
  refine wpAny_bind (wpAny_alloc ?_)
  refine wpAny_bind (wpAny_layCells _ (fun name kind cells=>by cases hkc:kind == NameKind.cell <;> simp [hkc]) _ _ _ _ ?_)
  rw [show ({ s with heap:=s.heap.push { cls:=.type "dict",data:=.dict #[] } }:Shared).heap.objs.size=s.heap.objs.size+1 from Heap.size_push ..]
  rw [List.forIn_nil]
  exact wpAny_bind (wpAny_pure (wpAny_pure hQ))
end
end L2
namespace L2
open PySem PySem.Spec PyProof.Rows
def compCx (X:Cx) (scope:Scope) (C:Addr) (cells:List (Str×Addr)) (N':List Str) (fp:List Addr) (s:Shared) (H:Hp):Cx where
  prog:=X.prog
  w:=X.w
  K:=X.K
  mg:=X.mg
  base:=X.base
  A:=X.A
  N:=N'
  s₀:=s
  H₀:=H
  env:={ scope:=relabel scope X.env,locals:=C,globals:=X.env.globals,cells:=cells,qual:=X.env.qual,func:=none,code:=X.env.code,frame:=X.env.frame,builtins:=X.env.builtins }
  outer:=X.stack
  stack:=X.stack
  ex:=fp
  fn:=fun y=>decide (scope.names.lookup y=some .cell)
  calm:=X.calm
  pn:=[]
  xe:=fun _ _=>False
def isCF:Option NameKind→Bool
  | some .cell=>true
  | some .free=>true
  | _=>false
theorem isCF_iff {o:Option NameKind} (h:isCF o=true):o=some .cell∨o=some .free:=by
  cases o with
  | none=>cases h
  | some k=>cases k <;> first | exact .inl rfl | exact .inr rfl | cases h
def capOk (env:Env) (scope:Scope) (y:Str):Bool:=isCF (env.scope.names.lookup y) && isCF ((relabel scope env).names.lookup y) && scope.names.all (fun z=>!(z.1 == y) || !(z.2 == .cell)) && scope.names.any fun z=>z.1 == y && z.2 == .free
def PTs (X:Cx) (ifs:List Expr) (t:TT):Prop :=
  ∀ (pins:List (Addr×Obj)) (s:Shared) (σ:St) (H:Hp) (Q:Bool→Hp→Prop),Inv X pins σ H s→t σ H Q→
    wpAny (model X.prog X.w) X.A (forIn ifs true fun c r=>if r=true then do let ok ← isTrue c X.env (eval c X.env); pure (ForInStep.yield ok) else pure (ForInStep.yield r)) (TP X pins σ Q) X.xe s
def tTrue:TT:=fun _ H Q=>Q true H
theorem pts_nil {X:Cx}:PTs X [] tTrue:=fun pins s σ H Q I h=>by
  rw [List.forIn_nil]
  exact wpAny_pure ⟨H,I,h⟩
theorem pts_one {X:Cx} {c:Expr} {t:TT} (h:PT X c t):PTs X [c] t:=fun pins s σ H Q I hw=>by
  rw [List.forIn_cons]
  simp only [if_true]
  refine wpAny_bind (wpAny_bind (thn (h pins s σ H Q I hw) fun b s1 q=>wpAny_pure ?_))
  show wpAny _ _ (forIn [] b _) _ _ s1
  rw [List.forIn_nil]
  exact wpAny_pure q
def capσ (nv:Nat) (ix:List Nat) (σ:St):St:=List.replicate nv none++ix.map fun i=>(σ[i]?).getD none
def CompAt (J:It) (g:TG) (tt:TT) (te:TE) (nv:Nat) (ix:List Nat) (σ:St) (Q:VK) (H1:Hp) (D:Addr):Prop:=∃ W:Nat→Nat→Hp→Prop,(∃ m,W 0 m (upd H1 D (.lst [])))∧∀ i m H2,W i m H2→
  (J.stop i H2∧Q (.ref D) H2)∨(J.go i H2∧∃ Nx:Hp→Prop,(∀ H',Nx H'→∃ m',m'<m∧W (i+1) m' H')∧∀ x H',J.yld i H2 x H'→g x (capσ nv ix σ) H' fun σ2 H3=>σ2.drop nv=(capσ nv ix σ).drop nv∧tt σ2 H3 fun b H4 =>
    if b=true then te σ2 H4 fun v H5=>∃ xs,H5 D=some (.lst xs)∧xs.length<sizeLine∧Nx (upd H5 D (.lst (xs++[v]))) else Nx H4)
def tComp (wi:TI) (g:TG) (tt:TT) (te:TE) (nv:Nat) (ix:List Nat):TE:=fun σ H Q=>wi σ H fun J H1=>∀ D,H1 D=none→CompAt J g tt te nv ix σ Q H1 D
section
variable {X:Cx} {elt target iter:Expr} {ifs:List Expr} {scope:Scope} {pos:Pos} {g:TG} {tt:TT} {te:TE}
theorem comp_block {pins:List (Addr×Obj)} {σ:St} {H:Hp} {s:Shared} {J:It} {fp:List Addr} {it:Addr} {tn:Nat→Heap→Prop} {Q:VK} {E:Value→Shared→Prop} {RR:Value→Addr→Result→Shared→Prop} {cl:List (Str×Addr)} (xs capN:List Str) (ix:List Nat) (hc:X.calm=true)
    (hg:∀ C cells fp s H,PG (compCx X scope C cells (xs++capN) fp s H) target g) (ht:∀ C cells fp s H,PTs (compCx X scope C cells (xs++capN) fp s H) ifs tt) (he:∀ C cells fp s H,PE (compCx X scope C cells (xs++capN) fp s H) elt te)
    (hix:ix.map (fun i=>X.N[i]?)=capN.map some) (hcap:capN.all (capOk X.env scope)=true) (hfree:scope.names.all (fun z=>!(z.2 == .free) || isCF (X.env.scope.names.lookup z.1))=true) (hkind:scope.kind=.function)
    (hclo:∀ y c,cl.lookup y=some c→X.env.cells.lookup y=some c) (hclh:∀ y∈scope.names,y.2=.free→∃ c,cl.lookup y.1=some c)
    (I:Inv X pins σ H s) (T:Turn X.prog X.w X.K target J fp it tn) (st:tn 0 s.heap) (hf:∀ b∈fp,FpOk X pins H b)
    (h:∀ D,H D=none→CompAt J g tt te xs.length ix σ Q H D)
    (hRR:∀ D C s' H' m,Inv X pins σ H' s'→FpOk X pins H' C→s'.heap.Ns C m→Q (.ref D) H'→RR (.ref D) C (.ok .next) s') :
    wpAny (model X.prog X.w) X.A (newList []) (fun acc s₃=>wpAny (model X.prog X.w) X.A (newFunctionEnv scope X.env.globals cl [] X.env.qual none .none (some X.env)) (fun cenv s₄ =>
      codeAny (model X.prog X.w) X.A (.compStart (.ListComp elt [⟨target,iter,ifs,0⟩] scope pos) 0 (.ref it) acc { cenv with scope:=relabel scope X.env }) (RR acc cenv.locals) s₄) E s₃) E s:=by
  refine wpAny_newObj_type (comp_env ?_)
  generalize hD:s.heap.objs.size=D
  have nD:H D=none:=I.hok.fresh (Nat.le_of_eq hD)
  generalize hH1:s.heap.push { cls:=.type "list",dict:=none,data:=.seq ([]:List Value).toArray }=h1
  have z1:h1.objs.size=D+1:=by rw [← hH1,Heap.size_push,hD]
  have k1:∀ b o,s.heap.get? b=some o→h1.get? b=some o:=fun b o e=>by rw [← hH1]; exact Heap.get?_push_of_some _ e
  have l1:h1.get? D=some { cls:=.type "list",dict:=none,data:=.seq ([]:List Value).toArray }:=by rw [← hH1,← hD]; exact Heap.get?_push_size _ rfl
  show codeAny _ _ _ (RR (.ref D) h1.objs.size) { s with heap:=pushCells (h1.push { cls:=.type "dict",data:=.dict #[] }) scope.names }
  rw [z1]
  generalize hH2:h1.push { cls:=.type "dict",data:=.dict #[] }=h2
  have z2:h2.objs.size=D+2:=by rw [← hH2,Heap.size_push,z1]
  have k2:∀ b o,h1.get? b=some o→h2.get? b=some o:=fun b o e=>by rw [← hH2]; exact Heap.get?_push_of_some _ e
  have n2:h2.Ns (D+1) (fun _=>none):=by rw [← hH2,← z1]; exact Heap.Ns.new h1 (.type "dict")
  have ok:=cellsFrom_ok scope.names h2 (D+2) [] ⟨fun _ _ hm=>(nomatch hm),List.Pairwise.nil⟩ (Nat.le_of_eq z2.symm)
  rw [z2] at ok
  have k3:=pushCells_keeps scope.names h2
  have n3:(pushCells h2 scope.names).Ns (D+1) (fun _=>none):=n2.keeps k3
  generalize hH3:pushCells h2 scope.names=h3 at ok k3 n3
  have kk:∀ b o,s.heap.get? b=some o→h3.get? b=some o:=fun b o e=>k3 b o (k2 b o (k1 b o e))
  have l3:h3.get? D=some { cls:=.type "list",dict:=none,data:=.seq ([]:List Value).toArray }:=k3 _ _ (k2 _ _ l1)
  rw [cellsFrom_app]
  generalize hcs:cellsFrom (D+2) scope.names []=cs at ok
  have csn:∀ y,(∀ k,(y,k)∈scope.names→k≠.cell)→cs.lookup y=none:=fun y hy=>by rw [← hcs]; exact cellsFrom_none _ _ hy
  have csh:∀ y,scope.names.lookup y=some .cell→∃ c,cs.lookup y=some c:=fun y hy=>by rw [← hcs]; exact cell_has hy
  have cells_or:∀ y c,(cs++cl).lookup y=some c→(cs.lookup y=some c)∨(cs.lookup y=none∧cl.lookup y=some c):=fun y c e=>by
    rw [List.lookup_append] at e
    cases q:cs.lookup y with
    | some d=>rw [q] at e; exact .inl e
    | none=>rw [q] at e; exact .inr ⟨rfl,e⟩
  have newc:∀ y c,cs.lookup y=some c→D+2≤c∧h3.IsCell c none:=fun y c e=>⟨(ok.empty y c (PySem.mem_of_lookup e)).2,(ok.empty y c (PySem.mem_of_lookup e)).1⟩
  have oldc:∀ y c,cl.lookup y=some c→D > c∧(∃ v,h3.IsCell c v)∧H c=none:=fun y c e=>by
    obtain ⟨v,q⟩:=I.cell y c (hclo y c e)
    exact ⟨by rw [← hD]; exact q.lt,⟨v,q.keeps kk⟩,I.freeC y c (hclo y c e)⟩
  have szD:s.heap.objs.size≤D:=Nat.le_of_eq hD
  have szC:s.heap.objs.size≤D+1:=by omega
  let X':Cx:=compCx X scope (D+1) (cs++cl) (xs++capN) fp s H
  have fpD:∀ b∈fp,D > b:=fun b hb=>by
    obtain ⟨o,e,_⟩:=T.obj 0 s.heap st b hb
    rw [← hD]
    exact Heap.lt_size e
  have okX:X'.Ok:=by
    refine ⟨I.ok.mod,?_,I.ok.glob,I.ok.blt,szC,fun x y c h1 h2=>?_,fun x hx=>?_,fun x c hx hl=>?_,fun _=>I.ok.hd hc,I.ok.frames,.inl rfl,fun b hb=>⟨?_,fun x c hl z=>?_⟩,fun b o e=>⟨(I.bs b o e).1,(I.bs b o e).2⟩,Nat.le_trans I.ok.bsz I.sz,fun b o e hb=>?_,fun b hb hz=>?_,I.stack,I.stkFree⟩
    · show (relabel scope X.env).kind=.function
      exact hkind
    · rcases cells_or x c h1 with e1 | ⟨_,e1⟩ <;> rcases cells_or y c h2 with e2 | ⟨_,e2⟩
      · exact name_of_addr ok.apart (PySem.mem_of_lookup e1) (PySem.mem_of_lookup e2)
      · have a1:=(newc x c e1).1
        have a2:=(oldc y c e2).1
        omega
      · have a1:=(newc y c e2).1
        have a2:=(oldc x c e1).1
        omega
      · exact I.ok.inj x y c (hclo x c e1) (hclo y c e2)
    ·
      have hm:∃ k,(x,k)∈scope.names∧(k=.free∨k=.cell):=by
        have hx':(relabel scope X.env).names.lookup x=some .cell∨(relabel scope X.env).names.lookup x=some .free:=hx
        have mem:∀ k,(relabel scope X.env).names.lookup x=some k→(x,k)∈(relabel scope X.env).names:=fun k e=>PySem.mem_of_lookup e
        rcases hx' with e | e
        · obtain ⟨⟨n,k⟩,h1,h2⟩:=List.mem_map.mp (mem _ e)
          by_cases q:(k == NameKind.free && X.env.scope.kind == .function && X.env.kindOf n == some .cell)=true
          · simp only [q,if_true] at h2
            cases h2
            simp only [Bool.and_eq_true] at q
            exact ⟨k,h1,.inl (beq_iff_eq.mp q.1.1)⟩
          · simp only [q] at h2
            cases h2
            exact ⟨_,h1,.inr rfl⟩
        · obtain ⟨⟨n,k⟩,h1,h2⟩:=List.mem_map.mp (mem _ e)
          by_cases q:(k == NameKind.free && X.env.scope.kind == .function && X.env.kindOf n == some .cell)=true
          · simp only [q,if_true] at h2
            cases h2
          · simp only [q] at h2
            cases h2
            exact ⟨_,h1,.inl rfl⟩
      obtain ⟨k,hk,hk2⟩:=hm
      show ∃ c,(cs++cl).lookup x=some c
      rw [List.lookup_append]
      cases q:cs.lookup x with
      | some d=>exact ⟨d,rfl⟩
      | none =>
        rcases hk2 with z | z
        · subst z
          obtain ⟨c,e⟩:=hclh _ hk rfl
          exact ⟨c,e⟩
        · subst z
          exfalso
          have:∀ (names:List (Str×NameKind)) (n:Nat),(x,NameKind.cell)∈names→(cellsFrom n names []).lookup x≠none:=by
            intro names
            induction names with
            | nil=>intro n hm; cases hm
            | cons p r ih =>
              intro n hm
              obtain ⟨a,b⟩:=p
              unfold cellsFrom
              split
              · rw [cellsFrom_app,List.lookup_append]
                rcases List.mem_cons.mp hm with z | z
                · cases z
                  cases (cellsFrom (n+1) r []).lookup x with
                  | some d=>intro z; cases z
                  | none=>simp
                · cases e:(cellsFrom (n+1) r []).lookup x with
                  | some d=>intro z; cases z
                  | none=>exact absurd e (ih (n+1) z)
              · rename_i hb
                rcases List.mem_cons.mp hm with z | z
                · cases z
                  exact absurd rfl hb
                · exact ih n z
          exact this scope.names (D+2) hk (by rw [hcs]; exact q)
    · have hx':scope.names.lookup x=some .cell:=of_decide_eq_true hx
      rcases cells_or x c hl with e1 | ⟨e0,_⟩
      · have:=(newc x c e1).1
        show s.heap.objs.size≤c
        omega
      · obtain ⟨d,e⟩:=csh x hx'
        rw [e0] at e
        cases e
    · exact Nat.ne_of_lt (Nat.lt_succ_of_lt (fpD b hb))
    · rcases cells_or x c hl with e1 | ⟨_,e1⟩
      · have a1:=(newc x c e1).1
        have a2:=fpD b hb
        subst z
        omega
      · exact (hf b hb).2.2.2.2.1 x c (hclo x c e1) z
    · obtain ⟨f0,f1,f2,f3,_⟩:=hf b hb
      rcases f3 with z | z
      · exact I.ok.noex b o e z
      · have a1:=(I.ok.bs b o e).1
        exact absurd (Nat.lt_of_lt_of_le (Heap.lt_size a1) z) (Nat.lt_irrefl _)
    · have z:=I.stkSub b hz
      rcases List.mem_cons.mp z with q | q
      · exact (hf b hb).2.1 q
      · exact (hf b hb).2.2.1 q
  have hgens:AllBare s.gens:=I.bare
  have capl:capN.length=ix.length:=by
    have:=congrArg List.length hix
    rw [List.length_map,List.length_map] at this
    exact this.symm
  have I0:Inv X' [] (capσ xs.length ix σ) (upd H D (.lst [])) { s with heap:=h3 }:=by
    refine ⟨okX,rfl,hgens,Un.laid kk szD nD,⟨_,n3,fun i y v e1 e2 e3=>?_⟩,fun y c e=>?_,?_,fun y c e=>?_,fun p hp=>absurd hp (by show p∉([]:List (Addr×Obj))++[]; simp),I.hok.laid kk szD ⟨by decide,[],0,.nil,l3⟩,?_⟩
    ·
      have e1':(xs++capN)[i]?=some y:=e1
      have e2':(List.replicate xs.length none++ix.map fun i=>(σ[i]?).getD none)[i]?=some (some v):=e2
      by_cases hi:i<xs.length
      · rw [List.getElem?_append_left (by simpa using hi),List.getElem?_replicate] at e2'
        rw [if_pos hi] at e2'
        cases e2'
      · rw [List.getElem?_append_right (by omega)] at e1'
        rw [List.getElem?_append_right (by simpa using hi),List.length_replicate,List.getElem?_map] at e2'
        generalize i - xs.length=j at e1' e2'
        cases ej:ix[j]? with
        | none=>rw [ej] at e2'; cases e2'
        | some k =>
          rw [ej] at e2'
          have e2'':(σ[k]?).getD none=some v:=Option.some.inj e2'
          have hs:σ[k]?=some (some v):=by
            cases q:σ[k]? with
            | none=>rw [q] at e2''; cases e2''
            | some o=>rw [q] at e2''; exact congrArg some e2''
          have hN:X.N[k]?=some y:=by
            have q:=congrArg (fun l=>l[j]?) hix
            simp only [List.getElem?_map,ej,e1',Option.map_some] at q
            exact Option.some.inj q
          have hyc:=List.all_eq_true.mp hcap y (List.mem_of_getElem? e1')
          unfold capOk at hyc
          simp only [Bool.and_eq_true] at hyc
          obtain ⟨⟨⟨c1,c2⟩,c3⟩,c4⟩:=hyc
          have vis:Vis X.env.scope y:=(isCF_iff c1).elim (fun z=>.inr (.inl z)) fun z=>.inr (.inr z)
          obtain ⟨m0,_,hl0⟩:=I.loc
          obtain ⟨u,ru,lk⟩:=hl0 k y v hN hs vis
          refine ⟨u,ru,.inr ⟨isCF_iff c2,?_⟩⟩
          rcases lk with ⟨q,_⟩ | ⟨_,c,ec,hcell⟩
          · have q':X.env.scope.names.lookup y=some .local:=q
            rw [q'] at c1
            cases c1
          · have no:cs.lookup y=none:=csn y fun k hk z=>by
              have:=List.all_eq_true.mp c3 _ hk
              subst z
              simp at this
            obtain ⟨z,hz,hz2⟩:=List.any_eq_true.mp c4
            simp only [Bool.and_eq_true] at hz2
            have ez:z.1=y:=beq_iff_eq.mp hz2.1
            obtain ⟨d,ed⟩:=hclh z hz (beq_iff_eq.mp hz2.2)
            rw [ez] at ed
            have:d=c:=Option.some.inj ((hclo y d ed).symm.trans ec)
            subst this
            refine ⟨d,?_,hcell.keeps kk⟩
            show (cs++cl).lookup y=some d
            rw [List.lookup_append,no]
            exact ed
    · rcases cells_or y c e with e1 | ⟨_,e1⟩
      · exact ⟨none,(newc y c e1).2⟩
      · exact (oldc y c e1).2.1
    · show (upd H D (.lst [])) (D+1)=none
      rw [upd_ne (Nat.succ_ne_self D)]
      exact I.hok.fresh szC
    · rcases cells_or y c e with e1 | ⟨_,e1⟩
      · have a1:=(newc y c e1).1
        rw [upd_ne (Nat.ne_of_gt (by omega:D<c))]
        exact I.hok.fresh (by omega)
      · have a1:=oldc y c e1
        rw [upd_ne (Nat.ne_of_lt a1.1)]
        exact a1.2.2
    · show (capσ xs.length ix σ).length=(xs++capN).length
      unfold capσ
      rw [List.length_append,List.length_replicate,List.length_map,List.length_append,capl]
  have st3:tn 0 h3:=T.keep 0 s.heap h3 st fun b _ o e=>kk b o e
  obtain ⟨W,⟨m0,w0⟩,turn⟩:=h D nD
  have fpX:∀ {pins':List (Addr×Obj)} {H':Hp},(∀ b∈fp,H' b=none)→(∀ p∈pins',∀ b∈fp,p.1≠b)→∀ b∈fp,FpOk X' pins' H' b:=fun {pins' H'} hn hp b hb=>by
    refine ⟨hn b hb,(okX.exf b hb).1,okX.exfs b hb,.inl hb,(okX.exf b hb).2,fun p hp'=>?_⟩
    rcases List.mem_append.mp hp' with q | q
    · exact absurd (show p∈([]:List (Addr×Obj)) from q) (by simp)
    · exact hp p q b hb
  have noHP:∀ {H':Hp},(∀ b∈fp,H' b=none)→∀ b∈fp,FpOk X' [] H' b:=fun hn=>fpX hn fun p hp=>absurd hp (by simp)
  have loop:∀ s₃:Shared,s₃={ s with heap:=h3 }→codeAny (model X.prog X.w) X.A (.compLoop (.ListComp elt [⟨target,iter,ifs,0⟩] scope pos) 0 (.ref it) (.ref D) X'.env) (RR (.ref D) (D+1)) s₃:=by
    rintro s₃ rfl
    refine comp_loop (fun n s'=>∃ i H',Inv X' [] (capσ xs.length ix σ) H' s'∧tn i s'.heap∧(∀ b∈fp,H' b=none)∧W i n H') ?_ m0 ⟨0,_,I0,st3,fun b hb=>?_,w0⟩
    · rintro n s' ⟨i,H',I',st',fr',w'⟩
      rcases turn i n H' w' with ⟨stop,q⟩ | ⟨go,Nx,hN,step⟩
      · refine thn (T.done X' rfl rfl rfl hc i [] s' _ H' _ I' (noHP fr') st' stop) fun r s4 ⟨hr,I4⟩=>?_
        subst hr
        obtain ⟨m,hn4,_⟩:=I4.loc
        have u4:Un (frs X.stack) fp H H' s.heap s4.heap:=I4.base
        have J4:Inv X pins σ H' s4:=I.call' I4.os u4 I4.hok I4.bare fun b hb=>by
          obtain ⟨f0,f1,f2,f3,f4,f5⟩:=hf b hb
          exact ⟨f3,f1,f4,f5⟩
        refine hRR D (D+1) s4 H' m J4 ⟨I4.free,?_,?_,.inr (Nat.le_trans I.sz szC),fun x c e z=>?_,fun p hp z=>?_⟩ hn4 q
        · exact Nat.ne_of_gt (Nat.lt_of_lt_of_le I.lt szC)
        · exact I.nofs szC
        · obtain ⟨v,qq⟩:=I.cell x c e
          exact Nat.ne_of_lt (Nat.lt_of_lt_of_le qq.lt szC) z
        · exact Nat.ne_of_lt (Nat.lt_of_lt_of_le (Heap.lt_size (I.pin p hp).1) szC) z
      · refine thn (T.item X' rfl rfl rfl hc i [] s' _ H' _ I' (noHP fr') st' go) fun r s4 ⟨u,hr,h4⟩=>?_
        subst hr
        refine thn h4 fun _ s5 ⟨x,H5,I5,r5,y5,st5,fr5⟩=>?_
        have I5':=I5.pinned (noHP fr5) (T.obj _ _ st5)
        have back:∀ {σ7:St} {H7:Hp} {s7:Shared},Inv X' ([]++pinsAt fp s5.heap) σ7 H7 s7→(∀ (j:Nat) v,(capσ xs.length ix σ)[j]?=some (some v)→σ7[j]?=some (some v))→Nx H7→∃ m,m<n∧∃ i H',Inv X' [] (capσ xs.length ix σ) H' s7∧tn i s7.heap∧(∀ b∈fp,H' b=none)∧W i m H':=fun {σ7 H7 s7} I7 hσ n7=>by
          obtain ⟨m',hm,w7⟩:=hN H7 n7
          have I8:Inv X' [] (capσ xs.length ix σ) H7 s7:=(I7.weak (by rw [I7.len]; exact I0.len) hσ).pins_of fun p hp=>absurd hp (by simp)
          refine ⟨m',hm,i+1,H7,I8,T.keep _ _ _ st5 fun b hb o e=>(I7.pin (b,o) (List.mem_append_right _ (List.mem_append_right _ (mem_pinsAt hb e)))).1,fun b hb=>?_,w7⟩
          obtain ⟨o,e,d⟩:=T.obj _ _ st5 b hb
          exact (I7.pin (b,o) (List.mem_append_right _ (List.mem_append_right _ (mem_pinsAt hb e)))).2.1
        have conv:∀ σ7:St,σ7.drop xs.length=(capσ xs.length ix σ).drop xs.length→∀ (j:Nat) v,(capσ xs.length ix σ)[j]?=some (some v)→σ7[j]?=some (some v):=fun σ7 e j v q=>by
          by_cases hj:j<xs.length
          · unfold capσ at q
            rw [List.getElem?_append_left (by simpa using hj),List.getElem?_replicate,if_pos hj] at q
            cases q
          · have e2:=congrArg (fun l=>l[j - xs.length]?) e
            simp only [List.getElem?_drop] at e2
            rw [show xs.length+(j - xs.length)=j by omega] at e2
            rw [e2]
            exact q
        refine thn (hg _ _ _ _ _ _ s5 _ H5 x u _ I5' r5 (step x H5 y5)) fun _ s6 ⟨σ6,H6,I6,hσ,q6⟩=>?_
        refine thn (ht _ _ _ _ _ _ s6 σ6 H6 _ I6 q6) fun b s7 ⟨H7,I7,q7⟩=>?_
        cases b with
        | false =>
          rw [if_neg Bool.false_ne_true]
          rw [if_neg Bool.false_ne_true] at q7
          exact back I7 (conv σ6 hσ) q7
        | true =>
          rw [if_pos rfl]
          rw [if_pos rfl] at q7
          refine thn (he _ _ _ _ _ _ s7 σ6 H7 _ I7 q7) fun v s8 ⟨y,H8,I8,r8,ys,hy,hl,q8⟩=>?_
          refine thn (mt_append _ s8 σ6 H8 (.ref D) [y] (.ref D) [v] (fun _ H9=>Nx H9) I8 rfl (.cons r8 .nil) ⟨D,ys,y,rfl,rfl,hy,hl,q8⟩) fun _ s9 ⟨_,H9,I9,_,q9⟩=>?_
          exact back I9 (conv σ6 hσ) q9
    · rw [upd_ne (Nat.ne_of_lt (fpD b hb))]
      exact (hf b hb).1
  exact codeAny_compStart_list (loop _ rfl) (wpAny_mono (T.self X.A 0 _ _ (fun _ _=>False) st3 (loop _ rfl)) (fun _ _ z=>z) fun _ _ z=>z.elim)
theorem pe_comp {wi:TI} (xs capN:List Str) (ix:List Nat) (hc:X.calm=true) (hi:PI X target iter wi)
    (hg:∀ C cells fp s H,PG (compCx X scope C cells (xs++capN) fp s H) target g) (ht:∀ C cells fp s H,PTs (compCx X scope C cells (xs++capN) fp s H) ifs tt) (he:∀ C cells fp s H,PE (compCx X scope C cells (xs++capN) fp s H) elt te)
    (hix:ix.map (fun i=>X.N[i]?)=capN.map some:=by rfl) (hcap:capN.all (capOk X.env scope)=true:=by rfl) (hfree:scope.names.all (fun z=>!(z.2 == .free) || isCF (X.env.scope.names.lookup z.1))=true:=by rfl) (hkind:scope.kind=.function:=by rfl)
    (hnames:scope.names.all (fun z=>!(z.2 == .local) || scope.names.lookup z.1 == some .local)=true:=by decide +kernel) (hs:∀ x,foldedSetIterable iter X.env x=pure x:=by intro _; rfl) :
    PE X (.ListComp elt [⟨target,iter,ifs,0⟩] scope pos) (tComp wi g tt te xs.length ix):=by
  intro pins s σ H Q I h
  have hcf:∀ y∈scope.names,y.2=.free→∃ c,X.env.cells.lookup y.1=some c:=fun y hy hf=>by
    have:=List.all_eq_true.mp hfree y hy
    rw [hf] at this
    exact I.ok.has y.1 (isCF_iff (show isCF (X.env.scope.names.lookup y.1)=true by simpa using this))
  obtain ⟨cl,hcl,h2,h3⟩:=closure_ok hcf
  rw [eval_ListComp]
  refine wpAny_comprehension_free (use:=none) rfl hs hcl hkind (fun x hx hl=>?_) (thn (hi pins s σ H _ I h) fun v s1 h1=>thn h1 fun itv s2 ⟨it,fp,tn,J,H2,e,I2,T,st,hf,q⟩=>?_)
  · have:=List.all_eq_true.mp hnames x hx
    rw [hl] at this
    simpa using this
  subst e
  refine comp_block (RR:=fun acc C=>compPost (model X.prog X.w) X.A X.xe none (EP X pins σ Q) acc C) xs capN ix hc hg ht he hix hcap hfree hkind h2 h3 I2 T st hf q ?_
  intro D C s' H' m I' fC hn q'
  refine ⟨m,hn,fun h' hs'=>⟨.ref D,H',?_,rfl,q'⟩⟩
  obtain ⟨f0,f1,f2,f3,f4,f5⟩:=fC
  exact I'.turned (t':=s'.toks) (fun b o hb e=>(hs'.2 b hb).trans e) f0 f1 f3 f4 f5
end
end L2
namespace L2
open PySem PySem.Spec PyProof.Rows
section
variable {X:Cx} {elt target iter:Expr} {ifs:List Expr} {scope:Scope} {pos spos px:Pos} {g:TG} {tt:TT} {te:TE}
theorem ps_setComp {wi:TI} {i:Nat} {x:Str} (xs capN:List Str) (ix:List Nat) (hc:X.calm=true) (hN:X.N.Nodup) (hxi:X.N[i]?=some x) (hx:Loc X.env.scope x) (hi:PI X target iter wi)
    (hg:∀ C cells fp s H,PG (compCx X scope C cells (xs++capN) fp s H) target g) (ht:∀ C cells fp s H,PTs (compCx X scope C cells (xs++capN) fp s H) ifs tt) (he:∀ C cells fp s H,PE (compCx X scope C cells (xs++capN) fp s H) elt te)
    (hix:ix.map (fun i=>X.N[i]?)=capN.map some:=by rfl) (hcap:capN.all (capOk X.env scope)=true:=by rfl) (hfree:scope.names.all (fun z=>!(z.2 == .free) || isCF (X.env.scope.names.lookup z.1))=true:=by rfl) (hkind:scope.kind=.function:=by rfl)
    (hnames:scope.names.all (fun z=>!(z.2 == .local) || scope.names.lookup z.1 == some .local)=true:=by decide +kernel) (hs:∀ x,foldedSetIterable iter X.env x=pure x:=by intro _; rfl)
    (hsw:swapsWith (.ListComp elt [⟨target,iter,ifs,0⟩] scope pos) (some (.Name x px)) spos.line X.env=pure true:=by rfl)
    (hf:X.fn x=true∨X.env.scope.names.lookup x=some .local:=by first | exact .inl rfl | exact .inr rfl | assumption) :
    PS X (.Assign [.Name x px] (.ListComp elt [⟨target,iter,ifs,0⟩] scope pos) spos) (tAsg (tComp wi g tt te xs.length ix) (gName i)):=by
  intro pins s σ H D I h
  have hcf:∀ y∈scope.names,y.2=.free→∃ c,X.env.cells.lookup y.1=some c:=fun y hy hf=>by
    have:=List.all_eq_true.mp hfree y hy
    rw [hf] at this
    exact I.ok.has y.1 (isCF_iff (show isCF (X.env.scope.names.lookup y.1)=true by simpa using this))
  obtain ⟨cl,hcl,h2,h3⟩:=closure_ok hcf
  rw [exec_Assign_Name_used _ _ _ _ hsw]
  refine wpAny_bind (wpAny_standAt (wpAny_bind ?_))
  show wpAny _ X.A (do let _ ← comprehension (.ListComp elt [⟨target,iter,ifs,0⟩] scope pos) scope X.env _ (newList []) false (eval iter X.env) (some (assign (.Name x px) X.env))) _ _ s
  refine wpAny_bind (wpAny_mono (wpAny_comprehension_free (use:=some (assign (.Name x px) X.env)) (Q:=fun _ s'=>SP X pins D .next s') rfl hs hcl hkind (fun x hx hl=>?_)
    (thn (hi pins s σ H _ I h) fun v s1 h1=>thn h1 fun itv s2 ⟨it,fp,tn,J,H2,e,I2,T,st,hf',q⟩=>?_)) (fun _ s' hq=>wpAny_pure (wpAny_pure hq)) fun _ _ e=>e)
  · have:=List.all_eq_true.mp hnames x hx
    rw [hl] at this
    simpa using this
  subst e
  refine comp_block (Q:=fun v H1=>gName i v σ H1 D.nx) (RR:=fun acc C=>compPost (model X.prog X.w) X.A X.xe (some (assign (.Name x px) X.env)) (fun _ s'=>SP X pins D .next s') acc C) xs capN ix hc hg ht he hix hcap hfree hkind h2 h3 I2 T st hf' q ?_
  intro E C s' H' m I' fC hn q'
  obtain ⟨f0,f1,f2,f3,f4,f5⟩:=fC
  obtain ⟨oC,es,ep,hoC,hdC,r⟩:=hn
  have I'':Inv X (pins++[(C,oC)]) σ H' s':=I'.pins_of fun p hp=>by
    rcases List.mem_append.mp hp with z | z
    · exact I'.pin p (List.mem_append_right _ z)
    · have e:p=(C,oC):=by simpa using z
      subst e
      exact ⟨hoC,f0,f1,f2,fun v z=>by rw [hdC] at z; cases z⟩
  show wpAny _ X.A (assign (.Name x px) X.env (.ref E)) _ _ s'
  refine thn (pg_name hN hxi hx hf _ s' σ H' (.ref E) (.ref E) _ I'' rfl q') fun _ s4 ⟨σ2,H4,I4,q4⟩=>?_
  have hp4:=I4.pin (C,oC) (List.mem_append_right _ (List.mem_append_right _ (by simp)))
  refine ⟨m,⟨oC,es,ep,hp4.1,hdC,r⟩,fun h' hs'=>⟨σ2,H4,?_,q4⟩⟩
  have I5:Inv X pins σ2 H4 s4:=I4.unpinned
  exact I5.turned (t':=s4.toks) (fun b o hb e=>(hs'.2 b hb).trans e) hp4.2.1 f1 f3 f4 f5
end
theorem comp_list {K:PySem.W.Frag} {a:Addr} {xs:List V} {g:TG} {tt:TT} {te:TE} {nv:Nat} {ix:List Nat} {σ:St} {D:Addr} {H:Hp} {Q:VK} (Pv:Nat→List V→Hp→Prop) (h0:Pv 0 [] (upd H D (.lst []))) (hl:∀ i ys H,i≤xs.length→Pv i ys H→SqL K H a xs)
    (hs:∀ i x ys H,xs[i]?=some x→Pv i ys H→H D=some (.lst ys)→g x (capσ nv ix σ) H fun σ2 H3=>σ2.drop nv=(capσ nv ix σ).drop nv∧tt σ2 H3 fun b H4 =>
      if b=true then te σ2 H4 fun v H5=>∃ zs,H5 D=some (.lst zs)∧zs.length<sizeLine∧(∃ ys',Pv (i+1) ys' (upd H5 D (.lst (zs++[v])))∧(upd H5 D (.lst (zs++[v]))) D=some (.lst ys')) else ∃ ys',Pv (i+1) ys' H4∧H4 D=some (.lst ys'))
    (hd:∀ ys H,Pv xs.length ys H→H D=some (.lst ys)→Q (.ref D) H) :
    CompAt (Itl K a) g tt te nv ix σ Q H D:=by
  refine ⟨fun i m H2=>m=xs.length - i∧i≤xs.length∧∃ ys,Pv i ys H2∧H2 D=some (.lst ys),⟨xs.length,by simp,Nat.zero_le _,[],h0,upd_same⟩,?_⟩
  rintro i m H2 ⟨rfl,hi,ys,p,hD⟩
  have q:=hl i ys H2 hi p
  by_cases hlt:i<xs.length
  · refine .inr ⟨⟨xs,xs[i],q,by simp [hlt]⟩,fun H'=>∃ ys,Pv (i+1) ys H'∧H' D=some (.lst ys),fun H' p'=>⟨xs.length - (i+1),by omega,rfl,hlt,p'⟩,fun x H' y=>?_⟩
    obtain ⟨e,y⟩:=y
    subst e
    exact hs i x ys _ (y xs q) p hD
  · have e:i=xs.length:=by omega
    subst e
    exact .inl ⟨⟨xs,q,Nat.le_refl _⟩,hd ys H2 p hD⟩
theorem comp_range {lo:Int} {n:Nat} {g:TG} {tt:TT} {te:TE} {nv:Nat} {ix:List Nat} {σ:St} {D:Addr} {H:Hp} {Q:VK} (Pv:Nat→List V→Hp→Prop) (h0:Pv 0 [] (upd H D (.lst [])))
    (hs:∀ i ys H,i<n→Pv i ys H→H D=some (.lst ys)→g (.int (lo+i)) (capσ nv ix σ) H fun σ2 H3=>σ2.drop nv=(capσ nv ix σ).drop nv∧tt σ2 H3 fun b H4 =>
      if b=true then te σ2 H4 fun v H5=>∃ zs,H5 D=some (.lst zs)∧zs.length<sizeLine∧(∃ ys',Pv (i+1) ys' (upd H5 D (.lst (zs++[v])))∧(upd H5 D (.lst (zs++[v]))) D=some (.lst ys')) else ∃ ys',Pv (i+1) ys' H4∧H4 D=some (.lst ys'))
    (hd:∀ ys H,Pv n ys H→H D=some (.lst ys)→Q (.ref D) H) :
    CompAt (Itr lo n) g tt te nv ix σ Q H D:=by
  refine ⟨fun i m H2=>m=n - i∧i≤n∧∃ ys,Pv i ys H2∧H2 D=some (.lst ys),⟨n,by simp,Nat.zero_le _,[],h0,upd_same⟩,?_⟩
  rintro i m H2 ⟨rfl,hi,ys,p,hD⟩
  by_cases hlt:i<n
  · refine .inr ⟨hlt,fun H'=>∃ ys,Pv (i+1) ys H'∧H' D=some (.lst ys),fun H' p'=>⟨n - (i+1),by omega,rfl,hlt,p'⟩,fun x H' y=>?_⟩
    obtain ⟨e,y⟩:=y
    subst e y
    exact hs i ys _ hlt p hD
  · have e:i=n:=by omega
    subst e
    exact .inl ⟨Nat.le_refl _,hd ys H2 p hD⟩
end L2
namespace L2
open PySem PySem.Spec PyProof.Rows
def eqL:List V→List V→Bool
  | [],[]=>true
  | x::xs,y::ys=>eqV x y && eqL xs ys
  | _,_=>false
def eqJ (xs ys:List V) (j:Nat):Bool:=match xs[j]?,ys[j]? with
  | some a,some b=>eqV a b
  | _,_=>false
theorem all_eqJ:∀ (xs ys:List V),xs.length=ys.length→(List.range xs.length).all (eqJ xs ys)=eqL xs ys
  | [],[],_=>rfl
  | x::xs,y::ys,h=>by
    have ih:=all_eqJ xs ys (Nat.succ.inj h)
    rw [List.length_cons,List.range_succ_eq_map,List.all_cons,List.all_map]
    show (eqV x y && (List.range xs.length).all (eqJ xs ys))=(eqV x y && eqL xs ys)
    rw [ih]
theorem eqL_len:∀ {xs ys:List V},¬ xs.length=ys.length→eqL xs ys=false
  | [],[],h=>absurd rfl h
  | [],_::_,_=>rfl
  | _::_,[],_=>rfl
  | x::xs,y::ys,h=>by
    unfold eqL
    rw [eqL_len (fun e=>h (congrArg (·+1) e)),Bool.and_false]
section
variable {X:Cx}
def rEqL (K:PySem.W.Frag) (neg:Bool):R2:=fun x y H Q=>∃ a b xs ys,x=.ref a∧y=.ref b∧SqL K H a xs∧SqL K H b ys∧xs.all flatV=true∧ys.all flatV=true∧Q (.bl (if neg then !eqL xs ys else eqL xs ys)) H
theorem eqL_at {A:Around} {s:Shared} {xs ys:List V} {us ws:List Value} (r:Vals xs us) (r':Vals ys ws) (f:xs.all flatV=true) (f':ys.all flatV=true) :
    ∀ j (h1:j<us.toArray.size) (h2:j<ws.toArray.size),SeqAt.EqAt A s us.toArray[j] ws.toArray[j] (eqJ xs ys j):=fun j h1 h2=>by
  have l1:=r.length
  have l2:=r'.length
  simp only [List.size_toArray] at h1 h2
  have e1:xs[j]?=some xs[j]:=List.getElem?_eq_getElem (by omega)
  have e2:ys[j]?=some ys[j]:=List.getElem?_eq_getElem (by omega)
  obtain ⟨u,hu,ru⟩:=r.get e1
  obtain ⟨v,hv,rv⟩:=r'.get e2
  have fu:=List.all_eq_true.mp f _ (List.mem_of_getElem? e1)
  have fv:=List.all_eq_true.mp f' _ (List.mem_of_getElem? e2)
  have eu:us.toArray[j]=u:=by
    have:us[j]?=some us[j]:=List.getElem?_eq_getElem h1
    rw [this] at hu
    exact Option.some.inj hu
  have ev:ws.toArray[j]=v:=by
    have:ws[j]?=some ws[j]:=List.getElem?_eq_getElem h2
    rw [this] at hv
    exact Option.some.inj hv
  rw [eu,ev]
  unfold eqJ
  rw [e1,e2]
  exact eqAt_V ru rv fu fv
theorem op_eqL (hu:X.A.units<cLine):OpR X (compareOp .Eq) (rEqL X.K false):=by
  intro pins s σ H x y v u Q I rx ry h
  obtain ⟨a,b,xs,ys,rfl,rfl,ha,hb,fa,fb,q⟩:=h
  cases rx
  cases ry
  obtain ⟨us,r1,p1,_⟩:=I.list ha
  obtain ⟨ws,r2,p2,_⟩:=I.list hb
  have l1:=r1.length
  have l2:=r2.length
  by_cases hl:xs.length=ys.length
  · refine SeqAt.eq_listAt p1.isList p2.isList (by simp only [List.size_toArray]; omega) hu (eqL_at r1 r2 fa fb) ⟨.bl (eqL xs ys),H,I,?_,q⟩
    show Value.bool _=Value.bool _
    rw [List.size_toArray,← l1,all_eqJ _ _ hl]
  · refine SeqAt.eq_list_lengthsAt p1.isList p2.isList (by simp only [List.size_toArray,bne_iff_ne]; omega) hu ⟨.bl (eqL xs ys),H,I,?_,q⟩
    show Value.bool _=Value.bool _
    rw [eqL_len hl]
theorem call_sorted:CallR X (.builtin "sorted") (fun xs H Q=>∃ (p:Addr) (ns:List Int),xs=[.ref p]∧SqL X.K H p (ns.map V.int)∧ns.length<64∧∀ (l:Addr) (ns':List Int),H l=none→ns'.Perm ns→ns'.Pairwise (·≤·)→Q (.ref l) (upd H l (.lst (ns'.map V.int)))):=by
  intro pins s σ H xs us Q I r h
  obtain ⟨p,ns,rfl,hp,hl,q⟩:=h
  obtain ⟨u,rfl,ru⟩:=vals1 r
  cases ru
  obtain ⟨its,rv,pl,hz⟩:=I.list hp
  have hlen:=rv.length
  rw [List.length_map] at hlen
  refine sorted_ints pl.isList (intsAre_of rv) (by omega) fun out ns' a1 a2 a3=>?_
  obtain ⟨e,he⟩:=sortedAll_at s.heap its out
  have hn:H (s.heap.objs.size+1)=none:=I.hok.fresh (Nat.le_succ _)
  refine ⟨.ref (s.heap.objs.size+1),_,I.laid (t':=s.toks) (o:=.lst (ns'.map V.int)) (fun _ _=>sortedAll_old) (Nat.le_succ _) ?_,rfl,q _ ns' hn a2 a3⟩
  refine ⟨?_,out.toList,e,vals_ints a1,?_⟩
  · rw [List.length_map,a2.length_eq]
    exact small (by omega)
  · simpa using he
theorem vals_bools:∀ {bs:List Bool} {us:List Value},Vals (bs.map V.bl) us→∀ (i:Nat) v,us[i]?=some v→∃ b,bs[i]?=some b∧v=.bool b
  | [],_,r,i,v,e=>by cases r; simp at e
  | b::bs,_,.cons r t,0,v,e=>by
    simp at e
    subst e
    exact ⟨b,rfl,r⟩
  | b::bs,_,.cons r t,i+1,v,e=>by
    obtain ⟨c,h1,h2⟩:=vals_bools t i v (by simpa using e)
    exact ⟨c,by simpa using h1,h2⟩
theorem call_all (hc:X.calm=true):CallR X (.builtin "all") (fun xs H Q=>∃ (p:Addr) (bs:List Bool),xs=[.ref p]∧SqL X.K H p (bs.map V.bl)∧Q (.bl (bs.all id)) H):=by
  intro pins s σ H xs us Q I r h
  obtain ⟨p,bs,rfl,hp,q⟩:=h
  obtain ⟨u,rfl,ru⟩:=vals1 r
  cases ru
  obtain ⟨its,rv,pl,hz⟩:=I.list hp
  have hl:=pl.isList
  have hlt:p<s.heap.objs.size:=by obtain ⟨_,e,_⟩:=hl; exact Heap.lt_size e
  have hlen:=rv.length
  rw [List.length_map] at hlen
  refine call_all_walk (wpAny_pyIter_list hl ?_)
  refine ⟨s.heap.objs.size,[s.heap.objs.size,p],[s.heap.objs.size],its.toArray.size,_,_,fun i=>(bs[i]?).getD true,rfl,Walks.list (A:=X.A.in1) (I.ok.hd hc) _ p (Nat.ne_of_lt hlt) its.toArray,
    ⟨⟨_,Heap.get?_push_size _ rfl,rfl,rfl⟩,hl.push _⟩,fun i v s' Q' E' hP hQ=>?_,fun h' tk hk=>?_⟩
  · obtain ⟨b,e,rfl⟩:=vals_bools rv i v (by simpa using hP)
    simp only [e,Option.getD_some] at hQ
    exact wpAny_truthy_bool hQ
  · have e:((List.range its.toArray.size).all fun i=>(bs[i]?).getD true)=bs.all id:=by
      rw [List.size_toArray,← hlen,Bool.eq_iff_iff,List.all_eq_true,List.all_eq_true]
      constructor
      · intro z b hb
        obtain ⟨i,hi,rfl⟩:=List.getElem_of_mem hb
        have:=z i (List.mem_range.mpr hi)
        show bs[i]=true
        simpa only [List.getElem?_eq_getElem hi,Option.getD_some] using this
      · intro z i hi
        have hi':=List.mem_range.mp hi
        have z2:bs[i]=true:=z _ (List.getElem_mem hi')
        simpa only [List.getElem?_eq_getElem hi',Option.getD_some] using z2
    refine ⟨.bl (bs.all id),H,I.kept fun b o x=>hk b o (fun hm=>?_) (Heap.get?_push_of_some _ x),by rw [e]; rfl,q⟩
    rw [List.mem_singleton.mp hm] at x
    exact Nat.lt_irrefl _ (Heap.lt_size x)
def rRevL (K:PySem.W.Frag):V→Hp→VK→Prop:=fun x H Q=>∃ a xs,x=.ref a∧SqL K H a xs∧∀ p,H p=none→Q (.ref p) (upd H p (.lst xs.reverse))
def tRev (K:PySem.W.Frag) (te:TE):TE:=fun σ H Q=>te σ H fun x H1=>rRevL K x H1 Q
end
structure ClsFn (K:PySem.W.Frag) (C:Addr) (m:Str) (g:Addr):Prop where
  rd:PySem.W.readsIn K C (.type "type")=true
  at_:PySem.W.findCls K (.ref C) (.type "type") m=some (.val (.ref g))
  sp:PySem.W.specialIn K (.ref C) "__getattribute__"=some (some (.builtin "type.__getattribute__"))
  kp:PySem.W.keepIn K (.ref g)=true
section
variable {X:Cx} {CX:CXT} {k:Nat} {f C:Addr} {fd:FuncData} {ps:List Str} {sp:Sp} {dvs:List V} {ds:List Value} {E:XK} {x m:Str} {p pos apos:Pos} {e:Expr} {es:List Expr} {t:TA}
theorem pe_clsfn {pl:Sem Bool} (hg:Gl X x) (hm:X.mg x=some (.ref C)) (c:ClsFn X.K C m f) (F:FnOk X.prog X.w X.K X.mg X.base CX k f fd ps sp) (hr:Room k X.A) (hb:Binds X.K fd ps ds) (hd:Vals dvs ds) (hx:Passes CX X E) (ha:PA X (e::es) t)
    (hdb:(x == ("__debug__":Str))=false:=by decide) (hst:starEach (e::es) X.env=(false,eval e X.env)::starEach es X.env:=by rfl) (hpl:(backTo pos (starEach es X.env)).any (·.1)=false:=by rfl)
    (ht:eval (.Call (.Attribute (.Name x p) m apos) (e::es) [] pos) X.env=(do
      let ov ← eval (.Name x p) X.env
      standAt apos.atName
      let (f,first) ← holding [ov] (getMethod ov m pl)
      callWith pos f first (backTo pos (starEach (e::es) X.env)) (backToKw pos (keywordEach [] X.env))):=by rfl) :
    PE X (.Call (.Attribute (.Name x p) m apos) (e::es) [] pos) (tCall sp dvs E t):=by
  intro pins s σ H Q I h
  refine PySem.W.methodCall_KW (pl:=pl) (ld_glob I hg hm ?_ hdb) ht
  refine PySem.W.method_cls I.kIn c.sp (PySem.W.cls_value I.kIn c.rd c.at_ rfl ?_)
  have I1:Inv X pins σ H { s with toks:=s.toks+1 }:=I.tok _
  refine PySem.W.callWith_K (first:=[]) (h₀:=X.base) I.ok.mod.kin c.kp (thn (ha pos pins _ σ H _ I1 h) fun us s2 ⟨vs,H2,I2,r,q2⟩=>⟨I2.kIn,?_⟩) hst hpl
  exact run_fn (us:=us) (vs:=vs) F hr hb hd hx I2 r q2
end
end L2
namespace L2
open PySem PySem.Spec PyProof.Rows
def XAt (B h:Heap) (x:Addr) (C:Value) (d:Option Addr) (vs:Array Value):Prop:=B.get? x=none∧∃ sl,h.get? x=some ⟨C,d,.fields vs,sl⟩
def TAt (B h:Heap) (x:Addr) (vs:Array Value) (fl:Value):Prop:=∃ (T:Addr) (oT:Obj) (ts:Array Value),vs[1]?=some (.ref T)∧T≠x∧B.get? T=none∧h.get? T=some oT∧oT.data=.fields ts∧ts[3]?=some fl
structure Moved (l:List Env) (B h h':Heap):Prop where
  stay:B.StaysIn h'
  funs:h'.FunFrames B l
  slot:∀ b∈frs l,∀ o,h.get? b=some o→∃ sl,h'.get? b=some { o with slots:=sl }
theorem Moved.trans {l:List Env} {B h h1 h2:Heap} (a:Moved l B h h1) (b:Moved l B h1 h2):Moved l B h h2 :=
  ⟨b.stay,b.funs,fun c hc o e=>by
    obtain ⟨sl,e1⟩:=a.slot c hc o e
    obtain ⟨sl2,e2⟩:=b.slot c hc _ e1
    exact ⟨sl2,e2⟩⟩
section
variable {M:Model} {A:Around} {E:Value→Shared→Prop} {s:Shared} {B:Heap} {l:List Env} {x:Addr} {C:Value} {d:Option Addr} {vs:Array Value}
theorem rec_noFrame {h:Heap} (hl:h.FunFrames B l) {b:Addr} {o:Obj} {ws:Array Value} (e:h.get? b=some o) (hd:o.data=.fields ws):b∉frs l:=fun hb=>by
  obtain ⟨_,o',e',n⟩:=hl.mem hb
  rw [e] at e'
  cases e'
  exact n ws hd
theorem moved_update {h:Heap} (hs:B.StaysIn h) (hl:h.FunFrames B l) {b:Addr} {o:Obj} {ws:Array Value} (e:h.get? b=some o) (hd:o.data=.fields ws) (hb:B.get? b=none) (f:Obj→Obj):Moved l B h (h.update b f):=by
  have nf:=rec_noFrame hl e hd
  refine ⟨fun c u q=>?_,hl.of_keeps fun c u q n=>⟨u,?_,rfl⟩,fun c hc u q=>⟨u.slots,?_⟩⟩
  · have hne:b≠c:=fun z=>by rw [z,q] at hb; cases hb
    rw [Heap.get?_update_other _ _ hne]
    exact hs c u q
  · have hne:b≠c:=fun z=>by
      subst z
      rw [e] at q
      cases q
      exact n ws hd
    rw [Heap.get?_update_other _ _ hne]
    exact q
  · have hne:b≠c:=fun z=>nf (by rw [z]; exact hc)
    rw [Heap.get?_update_other _ _ hne]
    exact q
theorem flight_none {fl:Value} {Q:Unit→Shared→Prop} (hs:B.StaysIn s.heap) (hl:s.heap.FunFrames B l) (hx:XAt B s.heap x C d vs) (ht:TAt B s.heap x vs fl)
    (h:∀ h',XAt B h' x C d vs→TAt B h' x vs .none→Moved l B s.heap h'→Q () { s with heap:=h' }):wpAny M A (setFlight (.ref x) none) Q E s:=by
  obtain ⟨bx,sl,ex⟩:=hx
  obtain ⟨T,oT,ts,v1,hne,bT,eT,dT,t3⟩:=ht
  have h3:3<ts.size:=(Array.getElem?_eq_some_iff.mp t3).1
  unfold setFlight
  refine wpAny_bind (wpAny_field ex rfl v1 ?_)
  rw [if_pos (show (Value.ref T != Value.none)=true by simp)]
  refine wpAny_setField eT dT h3 (h _ ⟨bx,sl,?_⟩ ?_ (moved_update hs hl eT dT bT _))
  · rw [Heap.get?_update_other _ _ hne]
    exact ex
  · have dN:=Obj.data_mapFields dT (·.setIfInBounds 3 Value.none)
    exact ⟨T,_,_,v1,hne,bT,Heap.get?_update_self _ eT (Obj.isFreed_of_fields dN),dN,by simp [h3]⟩
theorem entry_new {env:Env} {outer:List Env} {L:Addr} {head:Value} {hadNext:Bool} {Q:Unit→Shared→Prop} (hfr:A.frames=some (env::outer)) (hf:env.frame=some L) (hs:B.StaysIn s.heap) (hl:s.heap.FunFrames B (env::outer))
    (hx:XAt B s.heap x C d vs) (h1:1<vs.size)
    (h:∀ h' ws,ws[0]?=vs[0]?→XAt B h' x C d ws→TAt B h' x ws (rawInt L)→Moved (env::outer) B s.heap h'→Q () { s with heap:=h' }) :
    wpAny M A (do let a ← frameOf env; let pl ← entryPlaceOf L hadNext; let b ← EntryCells.newEntry head a .none (rawInt L) .none pl; setField (.ref x) 1 b) Q E s:=by
  obtain ⟨bx,sl,ex⟩:=hx
  have nx:=rec_noFrame hl ex rfl
  refine wpAny_bind (wpAny_frameOf_fun hfr hl hf fun g1 k1=>?_)
  have ex1:g1.get? x=some ⟨C,d,.fields vs,sl⟩:=(k1.2.1 x nx).trans ex
  have hs1:B.StaysIn g1:=fun b o q=>(k1.2.1 b fun hb=>by have z:=(hl.mem hb).1; rw [q] at z; cases z).trans (hs b o q)
  have m1:Moved (env::outer) B s.heap g1:=⟨hs1,hl.of_keeps fun b o q _=>let ⟨sl',z⟩:=k1.2.2 b o q; ⟨_,z,rfl⟩,fun b _ o q=>k1.2.2 b o q⟩
  refine wpAny_bind (wpAny_entryPlaceOf fun pl hpl=>?_)
  unfold EntryCells.newEntry newFields
  refine wpAny_bind (wpAny_newObj_type ?_ (hpl.sizeOk5 _ _ _ _ _))
  generalize hts:([head,Value.ref L,Value.none,rawInt L,Value.none]++(if pl.isEmpty then List.replicate 6 Value.none else pl)).toArray=ts
  have t3:ts[3]?=some (rawInt L):=by
    rw [← hts]
    simp
  have hTx:g1.objs.size≠x:=Nat.ne_of_gt (Heap.lt_size ex1)
  have m2:Moved (env::outer) B g1 (g1.push ⟨.type "traceback",none,.fields ts,#[]⟩) :=
    ⟨fun b o q=>Heap.get?_push_of_some _ (hs1 b o q),m1.funs.of_keeps fun b o q _=>⟨o,Heap.get?_push_of_some _ q,rfl⟩,fun b _ o q=>⟨o.slots,Heap.get?_push_of_some _ q⟩⟩
  have ex2:=Heap.get?_push_of_some (h:=g1) ⟨.type "traceback",none,.fields ts,#[]⟩ ex1
  refine wpAny_setField ex2 rfl h1 (h _ (vs.setIfInBounds 1 (.ref g1.objs.size)) ?_ ⟨bx,sl,?_⟩ ?_ ((m1.trans m2).trans (moved_update m2.stay m2.funs ex2 rfl bx _)))
  · rw [Array.getElem?_setIfInBounds_ne (by decide)]
  · exact Heap.get?_update_self (Obj.mapFields (·.setIfInBounds 1 (Value.ref g1.objs.size))) ex2 rfl
  · refine ⟨g1.objs.size,⟨.type "traceback",none,.fields ts,#[]⟩,ts,by simp [h1],hTx,hs1.fresh,?_,rfl,t3⟩
    rw [Heap.get?_update_other _ _ (Ne.symm hTx)]
    exact Heap.get?_push_size _ rfl
theorem note_frame {env:Env} {outer:List Env} {L:Addr} {Q:Unit→Shared→Prop} (hfr:A.frames=some (env::outer)) (hf:env.frame=some L) (hs:B.StaysIn s.heap) (hl:s.heap.FunFrames B (env::outer))
    (hx:XAt B s.heap x C d vs) (ht:vs[1]?=some .none∨TAt B s.heap x vs .none)
    (h:∀ h' ws,ws[0]?=vs[0]?→XAt B h' x C d ws→TAt B h' x ws (rawInt L)→Moved (env::outer) B s.heap h'→Q () { s with heap:=h' }) :
    wpAny M A (noteFrame (.ref x) env) Q E s:=by
  obtain ⟨bx,sl,ex⟩:=id hx
  unfold noteFrame
  simp only [hf]
  rcases ht with v1 | ⟨T,oT,ts,v1,hne,bT,eT,dT,t3⟩
  · refine wpAny_bind (wpAny_field ex rfl v1 ?_)
    rw [if_neg (by decide)]
    exact entry_new hfr hf hs hl hx (Array.getElem?_eq_some_iff.mp v1).1 h
  · refine wpAny_bind (wpAny_field ex rfl v1 ?_)
    rw [if_pos (show (Value.ref T != Value.none)=true by simp)]
    refine wpAny_bind (wpAny_field eT dT t3 ?_)
    rw [if_neg (show ¬ ((Value.none == rawInt L)=true) by simp [rawInt])]
    refine wpAny_bind (wpAny_setField eT dT (Array.getElem?_eq_some_iff.mp t3).1 ?_)
    have mv:=moved_update hs hl eT dT bT (Obj.mapFields (·.setIfInBounds 3 Value.none))
    refine entry_new (s:={ s with heap:=s.heap.update T (Obj.mapFields (·.setIfInBounds 3 Value.none)) }) hfr hf mv.stay mv.funs ⟨bx,sl,?_⟩ (Array.getElem?_eq_some_iff.mp v1).1 fun h' ws a b c e=>h h' ws a b c (mv.trans e)
    show (s.heap.update T _).get? x=_
    rw [Heap.get?_update_other _ _ hne]
    exact ex
theorem leave_frame {env:Env} {outer:List Env} {L:Addr} {Q:Unit→Shared→Prop} (hfr:A.frames=some (env::outer)) (hf:env.frame=some L) (hs:B.StaysIn s.heap) (hl:s.heap.FunFrames B (env::outer))
    (hx:XAt B s.heap x C d vs) (ht:vs[1]?=some .none∨TAt B s.heap x vs .none)
    (h:∀ h' ws,ws[0]?=vs[0]?→XAt B h' x C d ws→TAt B h' x ws .none→Moved (env::outer) B s.heap h'→Q () { s with heap:=h' }) :
    wpAny M A (leaving env (.ref x)) Q E s:=by
  unfold leaving
  refine wpAny_bind (note_frame hfr hf hs hl hx ht fun g1 ws a b c e=>?_)
  exact flight_none (s:={ s with heap:=g1 }) e.stay e.funs b c fun g2 b2 c2 e2=>h g2 ws a b2 c2 (e.trans e2)
end
end L2
namespace L2
open PySem PySem.Spec PyProof.Rows
theorem HOk.tracked {P:Program} {w:World} {H:Hp} {h h':Heap} (ok:HOk P w H h) (k:∀ b u o,H b=some u→h.get? b=some o→h'.get? b=some o):HOk P w H h':=fun b u e=>by
  refine (ok b u e).stay (fun c v hc q=>?_) (fun _ q=>q) fun _ _ q=>q
  rcases hc with z | z
  · subst z
    exact k _ u v e q
  · exact k c _ v z q
theorem ObjOk.there {P:Program} {w:World} {H:Hp} {h:Heap} {a:Addr} {o:HO} (x:ObjOk P w H h a o):∃ u,h.get? a=some u:=by
  cases o with
  | lst xs=>obtain ⟨_,_,_,_,e⟩:=x; exact ⟨_,e⟩
  | tup xs=>obtain ⟨_,_,_,p⟩:=x; obtain ⟨u,e,_⟩:=p; exact ⟨u,e⟩
  | dK kvs=>obtain ⟨_,_,_,_,u,_,_,e,_⟩:=x; exact ⟨u,e⟩
  | dT kvs=>obtain ⟨_,_,_,_,u,_,_,e,_⟩:=x; exact ⟨u,e⟩
  | set S n=>obtain ⟨u,_,_,_,e,_⟩:=x; exact ⟨u,e⟩
  | ins C dx fs=>exact ⟨_,x.2.2.2.1⟩
  | own y=>exact x
  | xd fs=>obtain ⟨_,⟨u,_,_,e,_⟩,_⟩:=x; exact ⟨u,e⟩
  | met f y=>exact ⟨_,x⟩
  | rng lo hi=>obtain ⟨_,_,_,e⟩:=x; exact ⟨_,e⟩
  | frz u v=>exact ⟨u,x.1⟩
  | tbl ps=>exact ⟨_,x⟩
  | ext φ=>exact x.2.1
theorem frames_base {h B B':Heap}:∀ {l:List Env},(∀ b∈frs l,B'.get? b=none)→h.FunFrames B l→h.FunFrames B' l
  | [],_,_=>trivial
  | env::r,hn,⟨hk,⟨L,o,hf,_,ho,hd⟩,hr⟩=>by
    have e:frs (env::r)=L::frs r:=by
      unfold frs
      rw [List.filterMap_cons,hf]
    exact ⟨hk,⟨L,o,hf,hn L (by rw [e]; exact List.mem_cons_self),ho,hd⟩,frames_base (fun b hb=>hn b (by rw [e]; exact List.mem_cons_of_mem _ hb)) hr⟩
structure Fly (P:Program) (w:World) (outer:List Env) (H H':Hp) (g B:Heap) (x C:Addr) (d:Option Addr) (h':Heap):Prop where
  un:Un (frs outer) [] H H' g h'
  hok:HOk P w H' h'
  stay:B.StaysIn h'
  funs:h'.FunFrames B outer
  cov:∀ b o,g.get? b=some o→b∉frs outer→∃ o',B.get? b=some o'
  covT:∀ b o,H' b=some o→∃ o',B.get? b=some o'
  exc:∃ vs,XAt B h' x (.ref C) d vs∧TAt B h' x vs .none
def CXE (P:Program) (w:World):CXT:=fun outer H s E e s'=>∃ (x C:Addr) (d:Option Addr) (H':Hp) (B:Heap),e=.ref x∧s'.os=s.os∧AllBare s'.gens∧Fly P w outer H H' s.heap B x C d s'.heap∧E (.ref C) d H'
section
variable {P:Program} {w:World} {outer:List Env} {H H':Hp} {g B h h':Heap} {x C:Addr} {d:Option Addr}
theorem Fly.noX (F:Fly P w outer H H' g B x C d h):H' x=none:=by
  obtain ⟨_,⟨bx,_⟩,_⟩:=F.exc
  cases q:H' x with
  | none=>rfl
  | some o =>
    obtain ⟨o',z⟩:=F.covT x o q
    rw [z] at bx
    cases bx
theorem un_moved (un:Un (frs outer) [] H H' g h) (hs:B.StaysIn h) (hl:h.FunFrames B outer) (cov:∀ b o,g.get? b=some o→b∉frs outer→∃ o',B.get? b=some o') (m:Moved outer B h h'):Un (frs outer) [] H H' g h' where
  keep:=fun b o e n hb hx=>by
    have e1:=un.keep b o e n hb hx
    obtain ⟨o',e2⟩:=cov b o e hb
    have e3:=hs b o' e2
    rw [e1] at e3
    cases e3
    exact m.stay b _ e2
  slot:=fun b o e n hb hx=>by
    obtain ⟨sl,e1⟩:=un.slot b o e n hb hx
    obtain ⟨sl2,e2⟩:=m.slot b hb _ e1
    exact ⟨sl2,e2⟩
  free:=un.free
  there:=fun b o e hx=>by
    by_cases hb:b∈frs outer
    · obtain ⟨o1,e1⟩:=un.there b o e hx
      obtain ⟨sl,e2⟩:=m.slot b hb o1 e1
      exact ⟨_,e2⟩
    · obtain ⟨o',e2⟩:=cov b o e hb
      exact ⟨o',m.stay b o' e2⟩
  tups:=un.tups
  frzs:=un.frzs
  tbls:=un.tbls
theorem hok_moved (ok:HOk P w H' h) (hs:B.StaysIn h) (covT:∀ b o,H' b=some o→∃ o',B.get? b=some o') (m:B.StaysIn h'):HOk P w H' h' :=
  ok.tracked fun b u o e q=>by
    obtain ⟨o',e2⟩:=covT b u e
    have e3:=hs b o' e2
    rw [q] at e3
    cases e3
    exact m b _ e2
theorem Fly.moved (F:Fly P w outer H H' g B x C d h) {vs:Array Value} (m:Moved outer B h h') (hx:XAt B h' x (.ref C) d vs) (ht:TAt B h' x vs .none):Fly P w outer H H' g B x C d h' :=
  ⟨un_moved F.un F.stay F.funs F.cov m,hok_moved F.hok F.stay F.covT m.stay,m.stay,m.funs,F.cov,F.covT,vs,hx,ht⟩
end
def Starts (X:Cx) (E:XK):Prop:=∀ (pins:List (Addr×Obj)) (σ:St) (H:Hp) (s:Shared) (h':Heap) (x C:Addr) (sl:Array (Option Value)) (vs:Array Value),Inv X pins σ H s→(∀ b o,s.heap.get? b=some o→h'.get? b=some o)→
  s.heap.get? x=none→h'.get? x=some ⟨.ref C,none,.fields vs,sl⟩→vs[1]?=some .none→E (.ref C) none H→X.xe (.ref x) { s with heap:=h' }
section
variable {P:Program} {w:World} {K:PySem.W.Frag} {mg:Str→Option Value} {base:Heap} {N:List Str} {qual:Str} {scope:Scope} {f:Addr} {cd:Value} {A:Around} {outer:List Env} {s₀:Shared} {H₀:Hp} {E:XK}
theorem stack_frs {X:Cx} {env:Env} {outer:List Env} {L:Addr} (e:X.stack=env::outer) (hf:env.frame=some L):frs X.stack=L::frs outer:=by
  rw [e]
  unfold frs
  rw [List.filterMap_cons,hf]
theorem leave_un {H1 H2:Hp} {g0 g1 h' B:Heap} {L:Addr} (hL:g0.objs.size≤L) (a:Un (frs outer) [] H₀ H1 g0 g1) (b:Un (L::frs outer) [] H1 H2 g1 h'):Un (frs outer) [] H₀ H2 g0 h':=by
  have nL:∀ c o,g0.get? c=some o→c≠L:=fun c o e=>Nat.ne_of_lt (Nat.lt_of_lt_of_le (Heap.lt_size e) hL)
  have n0:∀ c:Addr,c∉([]:List Addr):=fun c=>by simp
  refine ⟨fun c o e n hc hx=>?_,fun c o e n hc hx=>?_,fun c o e n hx=>?_,fun c o e hx=>?_,fun c xs e=>b.tups c xs (a.tups c xs e),fun c o u e=>b.frzs c o u (a.frzs c o u e),fun c ps e=>?_⟩
  · exact b.keep c o (a.keep c o e n hc hx) (a.free c o e n hx) (fun z=>(List.mem_cons.mp z).elim (nL c o e) hc) (n0 c)
  · obtain ⟨sl,e1⟩:=a.slot c o e n hc hx
    obtain ⟨sl2,e2⟩:=b.slot c _ e1 (a.free c o e n hx) (List.mem_cons_of_mem _ hc) (n0 c)
    exact ⟨sl2,e2⟩
  · obtain ⟨o1,e1⟩:=a.there c o e hx
    exact b.free c o1 e1 (a.free c o e n hx) (n0 c)
  · obtain ⟨o1,e1⟩:=a.there c o e hx
    exact b.there c o1 e1 (n0 c)
  · obtain ⟨m1,e1⟩:=a.tbls c ps e
    obtain ⟨m2,e2⟩:=b.tbls c _ e1
    exact ⟨m1++m2,by rw [e2,Array.append_assoc]⟩
theorem passes_cx:Passes (CXE P w) (cxOf (CXE P w) P w K mg base N qual scope f cd A outer s₀ H₀ E) E:=by
  intro pins σ H s e s' I hx
  obtain ⟨x,C,d,H',B,rfl,os,bare,F,q⟩:=hx
  obtain ⟨vs,xa,ta⟩:=F.exc
  show wpAny _ _ (leaving _ _) _ _ s'
  have hfr:=I.ok.frames
  have hsf:frs (cxOf (CXE P w) P w K mg base N qual scope f cd A outer s₀ H₀ E).stack=s₀.heap.objs.size::frs outer:=stack_frs rfl rfl
  refine leave_frame (L:=s₀.heap.objs.size) hfr rfl F.stay F.funs xa (.inr ta) fun h' ws _ xa' ta' m=>?_
  refine ⟨x,C,d,H',B,rfl,os.trans I.os,bare,⟨?_,hok_moved F.hok F.stay F.covT m.stay,m.stay,m.funs.2.2,fun b o e hb=>?_,F.covT,ws,xa',ta'⟩,q⟩
  · have u2:=un_moved F.un F.stay F.funs F.cov m
    exact leave_un (L:=s₀.heap.objs.size) (B:=B) (Nat.le_refl _) I.base (hsf▸u2)
  · obtain ⟨o1,e1⟩:=I.base.there b o e (fun z=>by simp [cxOf] at z)
    refine F.cov b o1 e1 fun z=>?_
    rw [hsf] at z
    exact (List.mem_cons.mp z).elim (Nat.ne_of_lt (Heap.lt_size e)) hb
theorem starts_cx:Starts (cxOf (CXE P w) P w K mg base N qual scope f cd A outer s₀ H₀ E) E:=by
  intro pins σ H s h' x C sl vs I kp nx hx v1 q
  show wpAny _ _ (leaving _ _) _ _ _
  have hfr:=I.ok.frames
  have hsf:frs (cxOf (CXE P w) P w K mg base N qual scope f cd A outer s₀ H₀ E).stack=s₀.heap.objs.size::frs outer:=stack_frs rfl rfl
  let B:=PySem.W.hideAll s.heap (frs (cxOf (CXE P w) P w K mg base N qual scope f cd A outer s₀ H₀ E).stack)
  have hB:B.StaysIn s.heap:=fun b o e=>PySem.W.of_hideAll _ e
  have hB':B.StaysIn h':=fun b o e=>kp b o (hB b o e)
  have bget:∀ b o,s.heap.get? b=some o→b∉frs (cxOf (CXE P w) P w K mg base N qual scope f cd A outer s₀ H₀ E).stack→B.get? b=some o:=fun b o e n=>PySem.W.hideAll_get _ e n
  have bx:B.get? x=none:=by
    cases z:B.get? x with
    | none=>rfl
    | some o =>
      have:=hB x o z
      rw [nx] at this
      cases this
  have fn:h'.FunFrames B (cxOf (CXE P w) P w K mg base N qual scope f cd A outer s₀ H₀ E).stack:=(frames_base (fun b hb=>PySem.W.hideAll_none _ hb) I.stack).of_keeps fun b o e _=>⟨o,kp b o e,rfl⟩
  have covT:∀ b o,H b=some o→∃ o',B.get? b=some o':=fun b o e=>by
    have hlt:=(I.hok b o e).lt
    obtain ⟨u,hu⟩:∃ u,s.heap.get? b=some u:=(I.hok b o e).there
    refine ⟨u,bget b u hu fun hb=>?_⟩
    rw [I.stkFree b hb] at e
    cases e
  have un0:Un (frs (cxOf (CXE P w) P w K mg base N qual scope f cd A outer s₀ H₀ E).stack) [] H H s.heap h':=Un.kept kp
  have cov1:∀ b o,s.heap.get? b=some o→b∉frs (cxOf (CXE P w) P w K mg base N qual scope f cd A outer s₀ H₀ E).stack→∃ o',B.get? b=some o':=fun b o e n=>⟨o,bget b o e n⟩
  refine leave_frame (s:={ s with heap:=h' }) (B:=B) (L:=s₀.heap.objs.size) hfr rfl hB' fn ⟨bx,sl,hx⟩ (.inl v1) fun h2 ws _ xa' ta' m=>?_
  refine ⟨x,C,none,H,B,rfl,I.os,I.bare,⟨?_,hok_moved (I.hok.kept kp) hB' covT m.stay,m.stay,m.funs.2.2,fun b o e hb=>?_,covT,ws,xa',ta'⟩,q⟩
  · have u2:=un_moved un0 hB' fn cov1 m
    exact leave_un (L:=s₀.heap.objs.size) (B:=B) (Nat.le_refl _) I.base (hsf▸u2)
  · obtain ⟨o1,e1⟩:=I.base.there b o e (fun z=>by simp [cxOf] at z)
    refine cov1 b o1 e1 fun z=>?_
    rw [hsf] at z
    exact (List.mem_cons.mp z).elim (Nat.ne_of_lt (Heap.lt_size e)) hb
end
end L2
namespace L2
open PySem PySem.Spec PyProof.Rows
section
variable {P:Program} {w:World} {K:PySem.W.Frag} {mg:Str→Option Value} {base:Heap} {k:Nat} {f:Addr} {fd:FuncData} {ps:List Str} {sp:Sp}
theorem FnOk.to0 (F:FnOk P w K mg base (CXE P w) k f fd ps sp):FnOk P w K mg base CX0 k f fd ps (fun vs H Q _=>sp vs H Q E0) :=
  ⟨fun vs H Q _ h=>F.len vs H Q E0 h,fun A outer s H args us vs Q _ hr e0 hb r h=>codeAny_mono (F.run A outer s H args us vs Q E0 hr e0 hb r h) fun r s' q=>by
    cases r with
    | ok fl=>cases fl <;> exact q
    | error e =>
      obtain ⟨x,C,d,H',B,_,_,_,_,z⟩:=q
      exact z⟩
theorem Fun.okX {x qual:Str} {st:Stmt} {N:List Str} (F:Fun K x qual st f fd) (S:FnScope N ps (defScope st)) (len:∀ vs H Q E,sp vs H Q E→vs.length=ps.length)
    (hbody:∀ (cdv:Value) (A:Around) (outer:List Env) (s:Shared) (H:Hp) (vs:List V) (Q:VK) (E:XK),Room k (A.deeper (envOfC qual (defScope st) s.heap.objs.size f cdv))→sp vs H Q E→
      ∃ t,PSs (cxOf (CXE P w) P w K mg base N qual (defScope st) f cdv A outer s H E) (defBody st) t∧t { nx:=fun _ H'=>Q .non H',rt:=Q } (start N vs) H):FnOk P w K mg base (CXE P w) (k+1) f fd ps sp:=by
  obtain ⟨oc,od,kV,doc,pm,an,cdv,ct,osl,rfl,lk,hcd⟩:=F.ex
  exact fn_of lk hcd S len fun A outer s H vs Q E hr hsp=>hbody cdv A outer s H vs Q E hr hsp
end
structure CalX (P:Program) (w:World) (K:PySem.W.Frag) (mg:Str→Option Value) (base:Heap) (k:Nat) (x:Str) (ps:List Str) (sp:Sp):Prop where
  ex:∃ f fd,FnOk P w K mg base (CXE P w) k f fd ps sp∧Binds K fd ps []∧PySem.W.keepIn K (.ref f)=true∧mg x=some (.ref f)
theorem CalX.to0 {P:Program} {w:World} {K:PySem.W.Frag} {mg:Str→Option Value} {base:Heap} {k:Nat} {x:Str} {ps:List Str} {sp:Sp} (C:CalX P w K mg base k x ps sp):Cal P w K mg base k x ps (fun vs H Q _=>sp vs H Q E0):=by
  obtain ⟨f,fd,F,b,kp,m⟩:=C.ex
  exact ⟨f,fd,F.to0,b,kp,m⟩
abbrev TX:=St→Hp→VK→XK→Prop
def FX (X:Cx) (pins:List (Addr×Obj)) (σ:St) (E:XK) (v:Value) (s':Shared):Prop:=∃ H1 s1,Inv X pins σ H1 s1∧CXE X.prog X.w X.stack H1 s1 E v s'
def PX (X:Cx) (e:Expr) (t:TX):Prop :=
  ∀ (pins:List (Addr×Obj)) (s:Shared) (σ:St) (H:Hp) (Q:VK) (E:XK),Inv X pins σ H s→t σ H Q E→wpAny (model X.prog X.w) X.A (eval e X.env) (EP X pins σ Q) (FX X pins σ E) s
section
variable {X:Cx} {k j:Nat} {f:Addr} {fd:FuncData} {ps:List Str} {sp:Sp} {E:XK} {x:Str} {p pos:Pos} {e:Expr} {es:List Expr} {t:TA}
theorem pe_fnX (C:CalX X.prog X.w X.K X.mg X.base k x ps sp) (hx:Passes (CXE X.prog X.w) X E) (hr:Room j X.A) (hj:k≤j) (hg:Gl X x) (ha:PA X (e::es) t) (hdb:(x == ("__debug__":Str))=false:=by decide) (he:starEach (e::es) X.env=(false,eval e X.env)::starEach es X.env:=by rfl) (hpl:(backTo pos (starEach es X.env)).any (·.1)=false:=by rfl) :
    PE X (.Call (.Name x p) (e::es) [] pos) (tCall sp [] E t):=by
  obtain ⟨f,fd,F,b,kp,m⟩:=C.ex
  exact pe_call F (hr.mono hj) hg m kp b .nil hx ha hdb he hpl
theorem px_fn (C:CalX X.prog X.w X.K X.mg X.base k x ps sp) (hr:Room j X.A) (hj:k≤j) (hg:Gl X x) (ha:PA X.nox (e::es) t) (hdb:(x == ("__debug__":Str))=false:=by decide) (he:starEach (e::es) X.env=(false,eval e X.env)::starEach es X.env:=by rfl) (hpl:(backTo pos (starEach es X.env)).any (·.1)=false:=by rfl) :
    PX X (.Call (.Name x p) (e::es) [] pos) (fun σ H Q E=>t σ H fun vs H1=>sp vs H1 Q E):=by
  obtain ⟨f,fd,F,b,kp,m⟩:=C.ex
  intro pins s σ H Q E I h
  refine wpAny_Call_Name_kw (ld_glob I hg m ?_ hdb)
  have h1:=ha pos pins s σ H _ (I.wish _) h
  refine PySem.W.callWith_K (h₀:=X.base) I.ok.mod.kin kp (wpAny_mono h1 (fun us s1 ⟨vs,H1,I1,r,q⟩=>⟨I1.kIn,?_⟩) fun _ _ z=>z.elim) he hpl
  have I2:=I1.unwish
  have hl:(us++[]).length=ps.length:=by rw [List.append_nil,← r.length]; exact F.len _ _ _ _ q
  have hb2:=b s1 us I2.kIn hl
  rw [List.append_nil] at hb2
  refine wpAny_call (codeAny_mono (F.run X.A X.stack s1 H1 ⟨us,[]⟩ us vs Q E (hr.mono hj) I2.env0 hb2 r q) fun r s' hq=>?_)
  cases r with
  | error e=>exact ⟨H1,s1,I2,hq⟩
  | ok fl =>
    cases fl with
    | ret u=>exact I2.after hq
    | next=>exact False.elim hq
    | brk=>exact False.elim hq
    | cont=>exact False.elim hq
end
def VE:List Value:=[.type "ValueError",.type "Exception",.type "BaseException",.type "object"]
def ExcC (K:PySem.W.Frag) (C:Addr):Prop:=PySem.W.excIn K C VE "ValueError.__new__"=true
theorem exc_obj {K:PySem.W.Frag} {h:Heap} {C:Addr} (q:ExcC K C) (X:K.In h):∃ bm N nm q bs hdct sn sub ab col dd k0 k1 k2 k3 k5 mN,h.get? C=some (excClassObj nm q C N bs bm hdct sn sub ab col dd k0 k1 k2 k3 k5 "ValueError.__new__")∧h.Ns N mN∧mN "__init__"=none∧OwnTail h VE bm:=by
  unfold ExcC PySem.W.excIn at q
  split at q
  · rename_i dd cd sl ho
    split at q
    · rename_i C' bm k0 k1 k2 k3 n k5 hm hs
      simp only [Bool.and_eq_true,beq_iff_eq,Bool.not_eq_true'] at q
      obtain ⟨⟨⟨⟨⟨rfl,rfl⟩,hdel⟩,ht⟩,hok⟩,hni⟩:=q
      obtain ⟨nm,bs,mro,ns,qn,hd,sn,sub,ab,col,del⟩:=cd
      dsimp only at hm hdel hok hni
      subst hm hdel
      have hsl:sl=#[k0,k1,k2,k3,some (.builtin "ValueError.__new__"),k5]:=by
        obtain ⟨l⟩:=sl
        simp only at hs
        rw [hs]
      subst hsl
      exact ⟨bm,ns,nm,qn,bs,hd,sn,sub,ab,col,dd,k0,k1,k2,k3,k5,_,X _ _ ho,.of_isNs (PySem.W.isNs_of_in X hok),PySem.W.nsMap_none_of_in X hok hni,PySem.W.tail_of_in X ht⟩
    · cases q
  · cases q
def tRaise0 (E:XK) (C:Addr):TS:=fun _ _ H=>E (.ref C) none H
theorem ps_raise0 {X:Cx} {E:XK} {x:Str} {C:Addr} {np cpos pos:Pos} (hs:Starts X E) (hc:X.calm=true) (hg:Gl X x) (hm:X.mg x=some (.ref C)) (q:ExcC X.K C) (hd:(x == ("__debug__":Str))=false:=by decide) :
    PS X (.Raise (some (.Call (.Name x np) [] [] cpos)) none pos) (tRaise0 E C):=by
  intro pins s σ H D I h
  obtain ⟨tl,N,nm,q,bs,hdct,sn,sub,ab,col,dd,k0,k1,k2,k3,k5,mN,hC,hN,hni,T⟩:=exc_obj q I.kIn
  refine wpAny_Raise_call_subT (C:=C) (nm:=nm) (q:=q) (N:=N) (bs:=bs) (bm:=tl) (hdct:=hdct) (sn:=sn) (sub:=sub) (ab:=ab) (col:=col) (dd:=dd) (k0:=k0) (k1:=k1) (k2:=k2) (k3:=k3) (k5:=k5)
    PySem.F.excBase_ValueError (mN:=mN) (T.hasType PySem.F.excBase_ValueError.hasBase) (I.ok.hd hc) rfl hni (ld_glob I hg hm ⟨rfl,?_⟩ hd)
  refine evalArgs_empty ⟨rfl,Nat.zero_le _,hC,hN,T,fun h' e made=>?_⟩
  obtain ⟨t,ht,_,_⟩:=made.there
  exact hs pins σ H s h' e C #[] _ I made.keeps made.new ht rfl h
end L2
namespace L2
open PySem PySem.Spec PyProof.Rows
abbrev TSX:=Ends→XK→St→Hp→Prop
def PSX (X:Cx) (st:Stmt) (t:TSX):Prop :=
  ∀ (pins:List (Addr×Obj)) (s:Shared) (σ:St) (H:Hp) (D:Ends) (E:XK),Inv X pins σ H s→t D E σ H→wpAny (model X.prog X.w) X.A (exec st X.env) (SP X pins D) (FX X pins σ E) s
section
variable {X:Cx} {e:Expr} {tx:TX} {pos:Pos}
def sxDrop (tx:TX):TSX:=fun D E σ H=>tx σ H (fun _ H1=>D.nx σ H1) E
theorem psx_expr (he:PX X e tx) (hs:swapsWith e none pos.line X.env=pure false:=by rfl):PSX X (.Expr e pos) (sxDrop tx):=by
  intro pins s σ H D E I h
  exact wpAny_Expr_any (thn (he pins s σ H _ E I h) fun v s1 ⟨x,H1,I1,r1,q1⟩=>⟨σ,H1,I1,q1⟩) I.quiet hs
def sxRet (tx:TX):TSX:=fun D E σ H=>tx σ H D.rt E
def sxSet (i:Nat) (tx:TX):TSX:=fun D E σ H=>tx σ H (fun v H1=>D.nx (σ.set i (some v)) H1) E
end
def ExO (a C:Addr) (d:Option Addr):HO:=.ext fun h=>∃ vs sl,h.get? a=some ⟨.ref C,d,.fields vs,sl⟩
theorem exO_ok {P:Program} {w:World} {H:Hp} {h:Heap} {a C:Addr} {d:Option Addr} {vs:Array Value} {sl:Array (Option Value)} (e:h.get? a=some ⟨.ref C,d,.fields vs,sl⟩):ObjOk P w H h a (ExO a C d) :=
  ⟨⟨vs,sl,e⟩,⟨_,e⟩,fun _ _ ⟨vs,sl,q⟩ k=>⟨vs,sl,k _ q⟩⟩
section
variable {P:Program} {w:World} {outer:List Env} {H H':Hp} {g B h:Heap} {x C:Addr} {d:Option Addr}
theorem Fly.fresh (F:Fly P w outer H H' g B x C d h):g.get? x=none:=by
  obtain ⟨vs,⟨bx,sl,ex⟩,_⟩:=F.exc
  cases q:g.get? x with
  | none=>rfl
  | some o =>
    obtain ⟨o',z⟩:=F.cov x o q (rec_noFrame F.funs ex rfl)
    rw [z] at bx
    cases bx
theorem Fly.track (F:Fly P w outer H H' g B x C d h):Un (frs outer) [] H (upd H' x (ExO x C d)) g h∧HOk P w (upd H' x (ExO x C d)) h:=by
  have nx:=F.noX
  have gx:=F.fresh
  obtain ⟨vs,⟨_,sl,ex⟩,_⟩:=F.exc
  have ne:∀ b o,H' b=some o→b≠x:=fun b o e=>ne_of_none e nx
  refine ⟨⟨F.un.keep,F.un.slot,fun b o e n hx=>?_,F.un.there,fun b xs e=>?_,fun b o u e=>?_,fun b ps e=>?_⟩,fun b o e=>?_⟩
  · have hb:b≠x:=fun z=>by rw [z,gx] at e; cases e
    rw [upd_ne hb]
    exact F.un.free b o e n hx
  · have q:=F.un.tups b xs e
    rw [upd_ne (ne b _ q)]
    exact q
  · have q:=F.un.frzs b o u e
    rw [upd_ne (ne b _ q)]
    exact q
  · obtain ⟨m,q⟩:=F.un.tbls b ps e
    exact ⟨m,by rw [upd_ne (ne b _ q)]; exact q⟩
  · by_cases hb:b=x
    · subst hb
      rw [upd_same] at e
      cases e
      exact exO_ok ex
    · rw [upd_ne hb] at e
      exact (F.hok b o e).stay (fun _ _ _ q=>q) (fun c q=>by rw [upd_ne (ne c _ q)]; exact q) fun c xs q=>by rw [upd_ne (ne c _ q)]; exact q
end
abbrev Cx.held (X:Cx) (x:Addr):Cx:={ X with A:=X.A.mark (some (.ref x)),calm:=false,xe:=fun _ _=>False }
section
variable {X:Cx} {pins:List (Addr×Obj)} {σ:St} {H:Hp} {s:Shared} {x:Addr}
theorem Inv.held (I:Inv X pins σ H s) (x:Addr):Inv (X.held x) pins σ H s :=
  ⟨⟨I.ok.mod,I.ok.kind,I.ok.glob,I.ok.blt,I.ok.above,I.ok.inj,I.ok.has,I.ok.cab,(fun z=>nomatch z),I.ok.frames,I.ok.stk,I.ok.exf,I.ok.bs,I.ok.bsz,I.ok.noex,I.ok.exfs,I.ok.funs,I.ok.frf⟩,
    I.os,I.bare,I.base,I.loc,I.cell,I.free,I.freeC,I.pin,I.hok,I.len⟩
theorem Inv.unheld (ok:X.Ok) (I:Inv (X.held x) pins σ H s):Inv X pins σ H s:=⟨ok,I.os,I.bare,I.base,I.loc,I.cell,I.free,I.freeC,I.pin,I.hok,I.len⟩
theorem SP.unheld (ok:X.Ok) {D:Ends} {f:Flow} {s':Shared} (h:SP (X.held x) pins D f s'):SP X pins D f s':=by
  cases f with
  | next=>obtain ⟨σ',H',I,q⟩:=h; exact ⟨σ',H',I.unheld ok,q⟩
  | brk=>obtain ⟨σ',H',I,q⟩:=h; exact ⟨σ',H',I.unheld ok,q⟩
  | cont=>obtain ⟨σ',H',I,q⟩:=h; exact ⟨σ',H',I.unheld ok,q⟩
  | ret u=>obtain ⟨v,σ',H',I,r,q⟩:=h; exact ⟨v,σ',H',I.unheld ok,r,q⟩
theorem fx_lands {E:XK} {e:Value} {s':Shared} {R:Value→Shared→Prop} {Ee:Value→Shared→Prop} (hst:X.stack=X.env::X.outer) (hf:X.env.frame=some X.env.locals) (h:FX X pins σ E e s')
    (k:∀ (x C:Addr) (d:Option Addr) (H1 H':Hp) (s1 s'':Shared) (B:Heap),e=.ref x→Inv X pins σ H1 s1→s''.os=s1.os→AllBare s''.gens→Fly X.prog X.w X.stack H1 H' s1.heap B x C d s''.heap→E (.ref C) d H'→R e s'') :
    wpAny (model X.prog X.w) X.A (noteFrame e X.env) (fun _ s2=>wpAny (model X.prog X.w) X.A (setFlight e none) (fun _ s3=>R e s3) Ee s2) Ee s':=by
  obtain ⟨H1,s1,I1,x,C,d,H',B,rfl,os,bare,F,q⟩:=h
  have hfr:X.A.frames=some (X.env::X.outer):=by rw [I1.ok.frames,hst]
  obtain ⟨vs,xa,ta⟩:=F.exc
  have fu:=F.funs
  rw [hst] at fu
  refine note_frame hfr hf F.stay fu xa (.inr ta) fun g1 ws _ xa1 ta1 m1=>?_
  refine flight_none (s:={ s' with heap:=g1 }) m1.stay m1.funs xa1 ta1 fun g2 xa2 ta2 m2=>?_
  have m:=m1.trans m2
  rw [← hst] at m
  exact k x C d H1 H' s1 _ B rfl I1 os bare (F.moved m xa2 ta2) q
theorem fly_again {C:Addr} {d:Option Addr} {H1 H':Hp} {s1 s':Shared} {B:Heap} {R:Shared→Prop} {A:Around} {Ee:Value→Shared→Prop} (F:Fly X.prog X.w X.stack H1 H' s1.heap B x C d s'.heap)
    (k:∀ h',Fly X.prog X.w X.stack H1 H' s1.heap B x C d h'→R { s' with heap:=h' }):wpAny (model X.prog X.w) A (setFlight (.ref x) none) (fun _ s3=>R s3) Ee s':=by
  obtain ⟨vs,xa,ta⟩:=F.exc
  exact flight_none F.stay F.funs xa ta fun h' xa' ta' m=>k h' (F.moved m xa' ta')
end
theorem fly_ty {M:Model} {P:Program} {w:World} {outer:List Env} {H H':Hp} {g B h:Heap} {x C:Addr} {d:Option Addr} (F:Fly P w outer H H' g B x C d h):PySem.W.Looks M h (typeOf (.ref x)) (.ref C):=by
  obtain ⟨vs,⟨_,sl,ex⟩,_⟩:=F.exc
  exact (PySem.W.Looks.ld ex).andThen .now
section
variable {X:Cx} {st b0:Stmt} {suite:List Stmt} {c n:Str} {C0:Addr} {np hpos pos:Pos} {tb:TSX} {ts:TS}
def tTry (K:PySem.W.Frag) (C0:Addr) (tb:TSX) (ts:TS):TS:=fun D σ H=>tb D (fun c d H'=>PySem.W.exmOne K c (.ref C0)=some true∧∀ a C,c=.ref C→H' a=none→ts D σ (upd H' a (ExO a C d))) σ H
end
end L2
namespace L2
open PySem PySem.Spec PyProof.Rows
section
variable {X:Cx} {pins:List (Addr×Obj)} {σ:St} {H:Hp} {s:Shared}
theorem name_gone {M:Model} {A:Around} {E:Value→Shared→Prop} {i:Nat} {n:Str} {pos:Pos} {Q:Unit→Shared→Prop} (I:Inv X pins σ H s) (hN:X.N.Nodup) (hi:X.N[i]?=some n) (hk:X.env.scope.names.lookup n=some .local)
    (h:∀ s',Inv X pins (σ.set i none) H s'→Q () s'):wpAny M A (do bindName X.env n .none; unbindBehindTheSuite X.env n pos) Q E s:=by
  obtain ⟨m,hn,hl⟩:=id I.loc
  have hcls:(X.env.scope.kind == .class || (X.env.scope.kind == .module && X.env.locals != X.env.globals))=false:=by rw [I.ok.kind]; rfl
  have hiσ:i<σ.length:=by rw [I.len]; exact (List.getElem?_eq_some_iff.mp hi).1
  have cne:=I.cne
  have tracked:∀ {a:Addr} {h':Heap},(∃ o,s.heap.get? a=some o∧H a=none)→Heap.SameBut a s.heap h'→HOk X.prog X.w H h':=fun {a h'} ha hs b ob e=>by
    obtain ⟨_,_,hfree⟩:=ha
    refine (I.hok b ob e).stay (fun c w' hc q=>(hs.2 c ?_).trans q) (fun _ q=>q) fun _ _ q=>q
    rintro rfl
    rcases hc with rfl | hc
    · rw [hfree] at e; cases e
    · rw [hfree] at hc; cases hc
  refine wpAny_nameGoes_keeps hk hn hcls fun h' v hn' hs=>?_
  obtain ⟨oL,_,_,hoL,_⟩:=id hn
  refine h _ ⟨I.ok,I.os,I.bare,⟨fun b o e n hb hx=>?_,fun b o e n hb hx=>?_,I.base.free,fun b o e hx=>?_,I.base.tups,I.base.frzs,I.base.tbls⟩,⟨_,hn',fun j y v' e1 e2 e3=>?_⟩,fun y c e=>?_,I.free,I.freeC,fun p hp=>?_,tracked ⟨oL,hoL,I.free⟩ hs,by simpa using I.len⟩
  · exact (hs.2 b (Nat.ne_of_lt (Nat.lt_of_lt_of_le (Heap.lt_size e) I.ok.above))).trans (I.base.keep b o e n hb hx)
  · obtain ⟨sl,e1⟩:=I.base.slot b o e n hb hx
    exact ⟨sl,(hs.2 b (Nat.ne_of_lt (Nat.lt_of_lt_of_le (Heap.lt_size e) I.ok.above))).trans e1⟩
  · obtain ⟨o',e1⟩:=I.base.there b o e hx
    exact ⟨o',(hs.2 b (Nat.ne_of_lt (Nat.lt_of_lt_of_le (Heap.lt_size e) I.ok.above))).trans e1⟩
  · by_cases hj:j=i
    · subst hj
      rw [List.getElem?_set_self hiσ] at e2
      cases e2
    · rw [List.getElem?_set_ne (Ne.symm hj)] at e2
      obtain ⟨u',r',q⟩:=hl j y v' e1 e2 e3
      refine ⟨u',r',?_⟩
      rcases q with ⟨k,e⟩ | ⟨k,c,e,z⟩
      · refine .inl ⟨k,?_⟩
        have:y≠n:=fun e=>hj (nodup_ix hN e1 (e▸hi))
        simp [this,e]
      · exact .inr ⟨k,c,e,z.sameBut hs (cne y c e)⟩
  · obtain ⟨w',z⟩:=I.cell y c e
    exact ⟨w',z.sameBut hs (cne y c e)⟩
  · obtain ⟨e,n,ne,nf,d⟩:=I.pin p hp
    exact ⟨(hs.2 p.1 ne).trans e,n,ne,nf,d⟩
end
section
variable {X:Cx} {st b0:Stmt} {suite:List Stmt} {c n:Str} {C0:Addr} {np hpos pos:Pos} {tb:TSX} {ts:TS} {i:Nat}
def Ends.forget (D:Ends) (i:Nat):Ends:={ nx:=fun σ H=>D.nx (σ.set i none) H,rt:=D.rt,bk:=fun σ H=>D.bk (σ.set i none) H,ct:=fun σ H=>D.ct (σ.set i none) H }
def tTryAs (K:PySem.W.Frag) (C0:Addr) (i:Nat) (tb:TSX) (ts:TS):TS:=fun D σ H=>tb D (fun c d H'=>PySem.W.exmOne K c (.ref C0)=some true∧∀ a C,c=.ref C→H' a=none→ts (D.forget i) (σ.set i (some (.ref a))) (upd H' a (ExO a C d))) σ H
theorem ps_tryAs (hst:X.stack=X.env::X.outer) (hf:X.env.frame=some X.env.locals) (hN:X.N.Nodup) (hi:X.N[i]?=some n) (hk:X.env.scope.names.lookup n=some .local) (hg:Gl X c) (hm:X.mg c=some (.ref C0)) (hb:PSX X st tb) (hs:∀ x,PSs (X.held x) (b0::suite) ts) (hd:(c == ("__debug__":Str))=false:=by decide) :
    PS X (.Try [st] [.ExceptHandler (some (.Name c np)) (some n) (b0::suite) hpos] [] [] pos) (tTryAs X.K C0 i tb ts):=by
  intro pins s σ H D I h
  refine wpAny_Try_except (wpAny_execs_cons (wpAny_mono (hb pins s σ H D _ I h) (fun fl s1 q=>?_) fun e s1 q=>?_))
  · cases fl with
    | next=>exact wpAny_execs_nil (wpAny_execs_nil q)
    | ret v=>exact q
    | brk=>exact q
    | cont=>exact q
  refine fx_lands (R:=fun e s3=>wpAny (model X.prog X.w) X.A (handleBy e X.env [.ExceptHandler (some (.Name c np)) (some n) (b0::suite) hpos]) (SP X pins D) X.xe s3) hst hf q fun x C d H1 H' s1 s'' B ee I1 os bare F ⟨hx,q2⟩=>?_
  subst ee
  obtain ⟨un,hok⟩:=F.track
  have I2:Inv X pins σ (upd H' x (ExO x C d)) s'':=I1.call' os un hok bare (fun b hb=>nomatch hb)
  refine wpAny_handleBy_cons (codeAny_handlers_test (ld_glob (X:=X.held x) (I2.held x) hg hm ?_ hd)) (by intro q; cases q)
  refine PySem.W.Looks.here (PySem.W.exm_one I2.kIn (fly_ty F) hx) ?_
  refine codeAny_handlers_suite_as (fly_again (X:=X) F fun h' F'=>?_)
  obtain ⟨un',hok'⟩:=F'.track
  have I3:Inv X pins σ (upd H' x (ExO x C d)) { s'' with heap:=h' }:=I1.call' os un' hok' bare (fun b hb=>nomatch hb)
  refine store_ok (X:=X.held x) (v:=.ref x) (I3.held x) hN hi (Or.inl hk) rfl (fun s4 I4=>?_) (.inr hk)
  refine wpAny_mono (hs x pins _ _ _ (D.forget i) I4 (q2 x C rfl F.noX)) (fun fl s5 q5=>?_) fun _ _ z=>z.elim
  have q6:=SP.unheld I.ok q5
  cases fl with
  | next =>
    obtain ⟨σ',H2,I6,q7⟩:=q6
    exact name_gone I6 hN hi hk fun s' I'=>⟨_,_,I',q7⟩
  | brk =>
    obtain ⟨σ',H2,I6,q7⟩:=q6
    exact name_gone I6 hN hi hk fun s' I'=>⟨_,_,I',q7⟩
  | cont =>
    obtain ⟨σ',H2,I6,q7⟩:=q6
    exact name_gone I6 hN hi hk fun s' I'=>⟨_,_,I',q7⟩
  | ret u =>
    obtain ⟨v,σ',H2,I6,r6,q7⟩:=q6
    exact name_gone I6 hN hi hk fun s' I'=>⟨v,_,_,I',r6,q7⟩
end
end L2
namespace L2
open PySem PySem.Spec PyProof.Rows PySem.W
structure XCls (K:PySem.W.Frag) (C:Addr):Prop where
  ga:findIn K (.ref C) "__getattribute__"=some (some (.builtin "BaseException.__getattribute__"))
  gh:findIn K (.ref C) "__getattr__"=some none
  bx:subIn K (.ref C) (.type "BaseException")=some true
  hd:hasDictIn K C=true
  ca:findIn K (.ref C) "__class__"=some (some (.builtin "object.__class__"))
  cg:specialIn K (.builtin "object.__class__") "__get__"=some (some (.builtin "getset_descriptor.__get__"))
  ct:takesIn K (.builtin "object.__class__")=some true
  ob:mroIn K C (.type "object")=some true
section
variable {prog:Program} {w:World} {A:Around} {E:Value→Shared→Prop} {s:Shared} {K:PySem.W.Frag} {x C:Addr} {ox:Obj} {od:Option Obj} {name:Str} {tk:Tok}
theorem xc_check {M:Model} {nameV:Value} {Q:Unit→Shared→Prop} (c:XCls K C) (X:K.In s.heap) (I:InstAt s.heap x ox C od) (hq:Q () s):wpAny M A (checkBuiltinCall "BaseException.__getattribute__" ⟨[.ref x,nameV],[]⟩) Q E s:=by
  obtain ⟨h,g,d,t,os⟩:=s
  have hk:builtinKind "BaseException.__getattribute__"=some .slot:=by decide +kernel
  have hsplit:splitId "BaseException.__getattribute__"=some ("BaseException","__getattribute__"):=by decide +kernel
  have ha:=F.args_bexc_ga (.ref x) nameV
  have L0:=I.type (M:=M)
  have L1:=looks_subIn (M:=M) X c.bx
  simp only [checkBuiltinCall,hk,hsplit]
  refine wpAny_bind ?_
  unfold isInstance
  refine wpAny_bind (L0.at (L1.at ?_))
  repeat (first | wp_step)
  exact hq
theorem xc_by {fill expr:Bool} {Q:Value→Shared→Prop} (c:XCls K C) (X:K.In s.heap) (I:InstAt s.heap x ox C od)
    (h:codeAny (model prog w) A (.call (.builtin "BaseException.__getattribute__") ⟨[.ref x,.str name tk],[]⟩) (fun r s'=>match r with | .ok (.ret v)=>wpAny (model prog w) A (handedOut v) Q E s' | _=>False) s) :
    wpAny (model prog w) A (getAttrBy (.ref x) (.str name tk) fill expr) Q E s:=by
  obtain ⟨hh,g,d,t,os⟩:=s
  have L0:=I.type (M:=model prog w)
  have L1:=looks_findIn (M:=model prog w) X c.ga
  have L2:=looks_findIn (M:=model prog w) X c.gh
  have f3:=PySem.F.attrBase_ValueError.ga.bind (.ref x)
  have hx0:(expr && onTheHeap (Value.builtin "BaseException.__getattribute__"))=false:=by cases expr <;> rfl
  have hx2:(Value.builtin "BaseException.__getattribute__" == Value.builtin "object.__getattribute__")=false:=by decide +kernel
  have hx1:(onTheHeap (Value.ref C) && Value.builtin "BaseException.__getattribute__" == Value.builtin "object.__getattribute__")=false:=by rw [hx2]; rfl
  unfold getAttrBy
  refine wpAny_holding (wpAny_bind (L0.at (wpAny_bind (L1.at ?_))))
  simp only [hx1]
  rw [if_neg (by decide)]
  unfold getAttrByItsOwn hookBefore
  rw [if_pos (show onTheHeap (Value.ref C)=true from rfl)]
  refine wpAny_bind (L2.at ?_)
  refine wpAny_bind (wpAny_attempt (wpAny_holding ?_))
  unfold callGetattribute
  rw [hx0,if_neg (by decide)]
  unfold boundAndCalled
  rw [f3]
  refine wpAny_bind (wpAny_pure ?_)
  refine wpAny_call (codeAny_mono h fun r s' z=>?_)
  cases r with
  | error e=>exact z.elim
  | ok fl =>
    cases fl with
    | ret v=>exact z
    | next=>exact z.elim
    | brk=>exact z.elim
    | cont=>exact z.elim
theorem xc_call {R:Result→Shared→Prop} (c:XCls K C) (X:K.In s.heap) (I:InstAt s.heap x ox C od)
    (h:wpAny (model prog w) A.in1 (Builtin.«object.__getattribute__» ⟨[.ref x,.str name tk],[]⟩) (fun fin s'=>match fin with | .done (.ret v)=>R (.ok (.ret v)) s' | _=>False) (fun _ _=>False) s) :
    codeAny (model prog w) A (.call (.builtin "BaseException.__getattribute__") ⟨[.ref x,.str name tk],[]⟩) R s:=by
  refine codeAny_call_builtin PySem.F.attrBase_ValueError.ga.plain F.entry_bexc_ga (xc_check c X I (wpAny_mono h (fun fin s' z=>?_) fun _ _ z=>z.elim))
  rcases fin with (_ | _ | _ | _) | _ <;> first | exact z | exact z.elim
theorem xc_bind {g a:Value} {P:Value→Shared→Prop} (X:K.In s.heap) (I:InstAt s.heap x ox C od) (hf:findObj K C od name=some (.bind g a)) (h:wpAny (model prog w) A (call g [a,.ref x,.ref C]) P E s) :
    wpAny (model prog w) A (Builtin.«object.__getattribute__» ⟨[.ref x,.str name tk],[]⟩) (fun fin s'=>match fin with | .done (.ret v)=>P v s' | _=>False) E s:=by
  obtain ⟨hh,gg,d,t,os⟩:=s
  have L0:=I.type (M:=model prog w)
  have L1:=looks_find (M:=model prog w) X I hf
  refine wpAny_bind (wpAny_pure (wpAny_bind (wpAny_pure (wpAny_bind (L0.at (wpAny_bind (L1.at ?_)))))))
  show wpAny _ _ (holding [a] (call g [a,.ref x,.ref C]) >>= ret) _ _ _
  exact wpAny_bind (wpAny_holding (wpAny_mono h (fun v s' z=>wpAny_pure z) fun _ _ z=>z))
theorem xc_class {Q:Option Value→Shared→Prop} (c:XCls K C) (X:K.In s.heap) (I:InstAt s.heap x ox C od) (h:Q (some (.ref C)) { s with toks:=s.toks+1 }):wpAny (model prog w) A (getAttr? (.ref x) "__class__") Q E s:=by
  have hf:findObj K C od "__class__"=some (.bind (.builtin "getset_descriptor.__get__") (.builtin "object.__class__")):=by
    obtain ⟨cd,hc,_⟩:=any_some c.hd
    unfold findObj
    rw [hc,c.ca]
    simp only [Option.bind_some,c.cg,c.ct]
  unfold getAttr? getAttrBy?
  refine wpAny_bind (wpAny_mkText (wpAny_bind (wpAny_attempt ?_)))
  refine xc_by (s:={ s with toks:=s.toks+1 }) c X I (xc_call (s:={ s with toks:=s.toks+1 }) c X I (xc_bind (s:={ s with toks:=s.toks+1 }) X I hf (P:=fun v s'=>wpAny (model prog w) A (handedOut v) _ _ s') ?_))
  exact wpAny_call (class_get (s:={ s with toks:=s.toks+1 }) (ox:=ox) (od:=od) X I c.ob (handed_on rfl (wpAny_pure h)))
theorem kitx_exc (c:XCls K C):KitX K (.ref x) (.ref C) (fun h=>∃ ox od,InstAt h x ox C od) where
  ty:=fun _ _ _ ⟨_,_,I⟩=>I.type
  it:=fun _ _ X _=>by
    obtain ⟨cdD,hcD,_⟩:=any_some c.hd
    unfold clsIn at hcD
    split at hcD
    · rename_i c' d' cd' sl' ho
      intro A' Q' E' s' k q
      unfold isType loadHead
      exact wpAny_bind (wpAny_loadPart (k _ _ (X _ _ ho)) (wpAny_pure q))
    · cases hcD
  ne:=fun h tp dd its n sl X htp=>by
    obtain ⟨cdD,hcD,_⟩:=any_some c.hd
    refine Bool.eq_false_iff.mpr fun q=>?_
    have e:C=tp:=Value.ref.inj (beq_iff_eq.mp q)
    subst e
    unfold clsIn at hcD
    split at hcD
    · rename_i c' d' cd' sl' ho
      have z:=(X _ _ ho).symm.trans htp
      cases z
    · cases hcD
  ca:=fun X ⟨_,_,I⟩ k=>xc_class c X I k
end
end L2
namespace L2
open PySem PySem.Spec PyProof.Rows
def XDict (H:Hp) (d:Option Addr):Prop:=d=none∨∃ dx fs,d=some dx∧H dx=some (.xd fs)
section
variable {X:Cx} {pins:List (Addr×Obj)} {σ:St} {H:Hp} {s:Shared}
theorem exc_inst {a C:Addr} {d:Option Addr} (I:Inv X pins σ H s) (h:H a=some (ExO a C d)) (hd:XDict H d):∃ ox od,PySem.W.InstAt s.heap a ox C od:=by
  obtain ⟨⟨vs,sl,e⟩,_,_⟩:=(show ObjOk X.prog X.w H s.heap a (ExO a C d) from I.hok a _ h)
  rcases hd with rfl | ⟨dx,fs,rfl,hx⟩
  · exact ⟨_,none,e,rfl,rfl,trivial⟩
  · obtain ⟨o,q⟩:=(I.hok dx _ hx).there
    exact ⟨_,some o,e,rfl,rfl,q⟩
def rIsX (K:PySem.W.Frag):List V→Hp→VK→Prop:=fun xs H Q=>∃ (a C:Addr) (d:Option Addr) (c:V) (u:Value) (b:Bool),xs=[.ref a,c]∧H a=some (ExO a C d)∧XDict H d∧XCls K C∧(∀ u',RelV c u'→u'=u)∧PySem.W.kitOne K (.ref C) u=some b∧Q (.bl b) H
theorem call_isX:CallR X (.builtin "isinstance") (rIsX X.K):=by
  intro pins s σ H xs us Q I r h
  obtain ⟨a,C,d,c,u,b,rfl,ha,hd,xc,hu,e,q⟩:=h
  obtain ⟨u1,u2,rfl,r1,r2⟩:=vals2 r
  have e2:=hu u2 r2
  subst e2
  cases (show u1=Value.ref a from r1)
  exact PySem.W.kia_one (kitx_exc (x:=a) xc) I.kIn (exc_inst I ha hd) e (fun z=>nomatch z) fun tk=>⟨.bl b,H,I.tok _,rfl,q⟩
end
theorem tTrue_ite {σ:St} {H:Hp} {A B:Hp→Prop} (h:A H):tTrue σ H (fun b H4=>if b=true then A H4 else B H4):=iteT (A:=A H) (B:=B H) h
theorem call_len_seqC {X:Cx} {K:PySem.W.Frag} (hK:X.K=K):CallR X (.builtin "len") (fun xs H Q=>∃ p ys,xs=[.ref p]∧(SqL K H p ys∨SqT K H p ys)∧Q (.int (ys.length:Nat)) H):=hK▸call_len_seq
theorem ix_listC {X:Cx} {K:PySem.W.Frag} (hK:X.K=K):IxR X (rIxL K):=hK▸ix_list
theorem ix_tupC {X:Cx} {K:PySem.W.Frag} (hK:X.K=K):IxR X (rIxT K):=hK▸ix_tup
end L2
namespace L2
open PySem PySem.Spec PyProof.Rows
def notStar:Expr→Bool
  | .Starred ..=>false
  | _=>true
section
variable {X:Cx} {e:Expr} {es:List Expr} {te:TE} {t:TA} {x:Str} {p pos:Pos} {id T:String} {r:List V→Hp→VK→Prop} {k j:Nat} {ps:List Str} {sp:Sp}
end
end L2
namespace L2
open PySem PySem.Spec PyProof.Rows
theorem FunAt.calX {P:Program} {w:World} {K:PySem.W.Frag} {h base:Heap} {mg:Str→Option Value} {x:Str} {st:Stmt} {ps:List Str} {k:Nat} {sp:Sp} (F:FunAt K x st) (X:K.In h) (G:h.Ns mainGlobals mg)
    (hb:∀ (kV doc pm:Value) (an:Option Addr) (cdv ct:Value) (us:List Value),us.length=ps.length→bindArgs (PySem.W.fnOf x x (defArgs st) (defBody st) (defScope st) .none kV doc pm an cdv ct) ⟨us,[]⟩=pure (ps.zip us))
    (ok:∀ (f:Addr) (fd:FuncData),Fun K x x st f fd→FnOk P w K mg base (CXE P w) k f fd ps sp):CalX P w K mg base k x ps sp:=by
  obtain ⟨f,fd,F1,a⟩:=F.ex
  exact ⟨f,fd,ok f fd F1,F1.binds hb,F1.kp,PySem.W.mg_of X G a⟩
end L2
namespace L2
open PySem PySem.Spec PyProof.Rows
inductive EqH (K:PySem.W.Frag) (H:Hp):Nat→V→V→Bool→Prop
  | flat {n:Nat} {x y:V} (fx:flatV x=true) (fy:flatV y=true):EqH K H n x y (eqV x y)
  | same {n:Nat} {a:Addr}:EqH K H n (.ref a) (.ref a) true
  | lst {n:Nat} {a b:Addr} {xs ys:List V} (e:Nat→Bool) (hne:a≠b) (ha:SqL K H a xs) (hb:SqL K H b ys) (hl:xs.length=ys.length) (he:∀ (i:Nat) x y,xs[i]?=some x→ys[i]?=some y→EqH K H n x y (e i)):EqH K H (n+1) (.ref a) (.ref b) ((List.range xs.length).all e)
  | len {n:Nat} {a b:Addr} {xs ys:List V} (hne:a≠b) (ha:SqL K H a xs) (hb:SqL K H b ys) (hl:¬ xs.length=ys.length):EqH K H (n+1) (.ref a) (.ref b) false
  | tup {n:Nat} {a b:Addr} {xs ys:List V} (e:Nat→Bool) (hne:a≠b) (ha:SqT K H a xs) (hb:SqT K H b ys) (he:∀ (i:Nat) x y,xs[i]?=some x→ys[i]?=some y→EqH K H n x y (e i)):EqH K H (n+1) (.ref a) (.ref b) ((List.range (min xs.length ys.length)).all e && xs.length == ys.length)
theorem IsTup.tup {h:Heap} {a:Addr} {its:Array Value} (t:IsTup h a its):h.IsTuple a its:=by
  obtain ⟨o,h1,h2,h3⟩:=t
  exact ⟨o,h1,h2,h3⟩
section
variable {X:Cx} {pins:List (Addr×Obj)} {σ:St} {H:Hp} {s:Shared}
theorem each_at {A:Around} {xs ys:List V} {us ws:List Value} {e:Nat→Bool} (r:Vals xs us) (r':Vals ys ws) (he:∀ (i:Nat) x y u v,xs[i]?=some x→ys[i]?=some y→RelV x u→RelV y v→SeqAt.EqAt A s u v (e i)) :
    ∀ j (h1:j<us.toArray.size) (h2:j<ws.toArray.size),SeqAt.EqAt A s us.toArray[j] ws.toArray[j] (e j):=fun j h1 h2=>by
  have l1:=r.length
  have l2:=r'.length
  simp only [List.size_toArray] at h1 h2
  have e1:xs[j]?=some xs[j]:=List.getElem?_eq_getElem (by omega)
  have e2:ys[j]?=some ys[j]:=List.getElem?_eq_getElem (by omega)
  obtain ⟨u,hu,ru⟩:=r.get e1
  obtain ⟨v,hv,rv⟩:=r'.get e2
  have eu:us.toArray[j]=u:=by
    have:us[j]?=some us[j]:=List.getElem?_eq_getElem h1
    rw [this] at hu
    exact Option.some.inj hu
  have ev:ws.toArray[j]=v:=by
    have:ws[j]?=some ws[j]:=List.getElem?_eq_getElem h2
    rw [this] at hv
    exact Option.some.inj hv
  rw [eu,ev]
  exact he j _ _ _ _ e1 e2 ru rv
theorem EqH.at (I:Inv X pins σ H s) {n:Nat} {x y:V} {b:Bool} (h:EqH X.K H n x y b):∀ {A:Around} {u v:Value},A.units+n<cLine→RelV x u→RelV y v→SeqAt.EqAt A s u v b:=by
  induction h with
  | flat fx fy=>intro A u v hu rx ry; exact eqAt_V rx ry fx fy
  | same=>intro A u v hu rx ry; cases rx; cases ry; exact SeqAt.EqAt.same _
  | @lst n a b xs ys e hne ha hb hl he ih =>
    intro A u v hu rx ry
    cases rx
    cases ry
    obtain ⟨us,r1,p1,_⟩:=I.list ha
    obtain ⟨ws,r2,p2,_⟩:=I.list hb
    have l1:=r1.length
    have l2:=r2.length
    have:=SeqAt.EqAt.of_refs hne (SeqAt.RcAt.lists p1.isList p2.isList (by simp only [List.size_toArray]; omega) (by omega) (each_at (A:=A.in1) r1 r2 fun i x y u v e1 e2 ru rv=>ih i x y e1 e2 (by show A.units+1+n<cLine; omega) ru rv))
    rw [List.size_toArray,← l1] at this
    exact this
  | @len n a b xs ys hne ha hb hl =>
    intro A u v hu rx ry
    cases rx
    cases ry
    obtain ⟨us,r1,p1,_⟩:=I.list ha
    obtain ⟨ws,r2,p2,_⟩:=I.list hb
    have l1:=r1.length
    have l2:=r2.length
    exact SeqAt.EqAt.of_refs hne (SeqAt.RcAt.lists_lengths p1.isList p2.isList (by simp only [List.size_toArray,bne_iff_ne]; omega) (by omega))
  | @tup n a b xs ys e hne ha hb he ih =>
    intro A u v hu rx ry
    cases rx
    cases ry
    obtain ⟨us,r1,p1,_⟩:=I.tuple ha
    obtain ⟨ws,r2,p2,_⟩:=I.tuple hb
    have l1:=r1.length
    have l2:=r2.length
    have:=SeqAt.EqAt.of_refs hne (SeqAt.RcAt.tuples (e:=e) (IsTup.tup p1) (IsTup.tup p2) (by omega) (each_at (A:=A.in1) r1 r2 fun i x y u v e1 e2 ru rv=>ih i x y e1 e2 (by show A.units+1+n<cLine; omega) ru rv))
    rw [List.size_toArray,List.size_toArray,← l1,← l2] at this
    exact this
def rEqH (K:PySem.W.Frag) (neg:Bool):R2:=fun x y H Q=>∃ (n:Nat) (b:Bool) (p q:Addr),x=.ref p∧y=.ref q∧p≠q∧n≤32∧EqH K H n x y b∧Q (.bl (if neg then !b else b)) H
theorem op_eqH (hu:X.A.units+64<cLine):OpR X (compareOp .Eq) (rEqH X.K false):=by
  intro pins s σ H x y v u Q I rx ry h
  obtain ⟨n,b,p,q,rfl,rfl,hpq,hn,he,hq⟩:=h
  cases rx
  cases ry
  cases he with
  | flat fx fy=>cases fx
  | same=>exact absurd rfl hpq
  | lst e hne ha hb hl he =>
    obtain ⟨us,r1,p1,_⟩:=I.list ha
    obtain ⟨ws,r2,p2,_⟩:=I.list hb
    have l1:=r1.length
    have l2:=r2.length
    refine SeqAt.eq_listAt p1.isList p2.isList (by simp only [List.size_toArray]; omega) (by omega) (each_at r1 r2 fun i x y u v e1 e2 ru rv=>(he i x y e1 e2).at I (by show X.A.units+1+_<cLine; omega) ru rv) ⟨.bl _,H,I,?_,hq⟩
    show Value.bool _=Value.bool _
    rw [List.size_toArray,← l1]
    rfl
  | len hne ha hb hl =>
    obtain ⟨us,r1,p1,_⟩:=I.list ha
    obtain ⟨ws,r2,p2,_⟩:=I.list hb
    have l1:=r1.length
    have l2:=r2.length
    exact SeqAt.eq_list_lengthsAt p1.isList p2.isList (by simp only [List.size_toArray,bne_iff_ne]; omega) (by omega) ⟨.bl _,H,I,rfl,hq⟩
  | tup e hne ha hb he =>
    obtain ⟨us,r1,p1,_⟩:=I.tuple ha
    obtain ⟨ws,r2,p2,_⟩:=I.tuple hb
    have l1:=r1.length
    have l2:=r2.length
    refine SeqAt.eq_tupleAt (e:=e) (IsTup.tup p1) (IsTup.tup p2) (by omega) (each_at r1 r2 fun i x y u v e1 e2 ru rv=>(he i x y e1 e2).at I (by show X.A.units+1+_<cLine; omega) ru rv) ⟨.bl _,H,I,?_,hq⟩
    show Value.bool _=Value.bool _
    rw [List.size_toArray,List.size_toArray,← l1,← l2]
    rfl
theorem op_neH (hu:X.A.units+64<cLine):OpR X (compareOp .NotEq) (rEqH X.K true):=by
  intro pins s σ H x y v u Q I rx ry h
  obtain ⟨n,b,p,q,rfl,rfl,hpq,hn,he,hq⟩:=h
  cases rx
  cases ry
  cases he with
  | flat fx fy=>cases fx
  | same=>exact absurd rfl hpq
  | lst e hne ha hb hl he =>
    obtain ⟨us,r1,p1,_⟩:=I.list ha
    obtain ⟨ws,r2,p2,_⟩:=I.list hb
    have l1:=r1.length
    have l2:=r2.length
    refine SeqAt.RcNeAt.lists p1.isList p2.isList (by simp only [List.size_toArray]; omega) (by omega) (each_at r1 r2 fun i x y u v e1 e2 ru rv=>(he i x y e1 e2).at I (by show X.A.units+1+_<cLine; omega) ru rv) _ _ _ _ ⟨.bl _,H,I,?_,hq⟩
    show Value.bool _=Value.bool _
    rw [List.size_toArray,← l1]
    rfl
  | len hne ha hb hl =>
    obtain ⟨us,r1,p1,_⟩:=I.list ha
    obtain ⟨ws,r2,p2,_⟩:=I.list hb
    have l1:=r1.length
    have l2:=r2.length
    exact SeqAt.RcNeAt.lists_lengths p1.isList p2.isList (by simp only [List.size_toArray,bne_iff_ne]; omega) (by omega) _ _ _ _ ⟨.bl _,H,I,rfl,hq⟩
  | tup e hne ha hb he =>
    obtain ⟨us,r1,p1,_⟩:=I.tuple ha
    obtain ⟨ws,r2,p2,_⟩:=I.tuple hb
    have l1:=r1.length
    have l2:=r2.length
    refine SeqAt.RcNeAt.tuples (e:=e) (IsTup.tup p1) (IsTup.tup p2) (by omega) (each_at r1 r2 fun i x y u v e1 e2 ru rv=>(he i x y e1 e2).at I (by show X.A.units+1+_<cLine; omega) ru rv) _ _ _ _ ⟨.bl _,H,I,?_,hq⟩
    show Value.bool _=Value.bool _
    rw [List.size_toArray,List.size_toArray,← l1,← l2]
    rfl
end
end L2
namespace L2
open PySem PySem.Spec PyProof.Rows
def cutN {α:Type} (l:List α) (lo hi:Option Int):List α:=(l.drop (HT.sIx l.length 0 lo)).take (HT.sIx l.length l.length hi - HT.sIx l.length 0 lo)
theorem clip_str (v:Option Int) (n d:Nat):(match v with | none=>((d:Nat):Int) | some i=>max 0 (min (if i<0 then i+(n:Int) else i) (n:Int)))=((HT.sIx n d v:Nat):Int):=by
  cases v with
  | none=>rfl
  | some i =>
    show max 0 (min (if i<0 then i+(n:Int) else i) (n:Int))=(((if i<0 then (i+(n:Int)).toNat else min i.toNat n):Nat):Int)
    by_cases h:i<0
    · simp only [if_pos h]; omega
    · simp only [if_neg h]; omega
theorem strIdx (lo hi:Option Int) (n:Nat):Builtin.Str.strSliceIndices lo hi 1 n=sliceRange ((HT.sIx n 0 lo:Nat):Int) ((HT.sIx n n hi:Nat):Int) 1:=by
  unfold Builtin.Str.strSliceIndices
  simp only [show (1:Int) > 0 by decide,if_true]
  rw [← clip_str lo n 0,← clip_str hi n n]
  rfl
theorem slice_txt (x:Str) (lo hi:Option Int):(Txt.slice x lo hi).cps.toList=cutN x.cps.toList lo hi:=by
  have hn:x.cps.toList.length=x.length:=by simp [Str.length]
  unfold Txt.slice cutN
  rw [strIdx,sliceRange_one,hn]
  generalize ha:HT.sIx x.length 0 lo=a
  generalize hb:HT.sIx x.length x.length hi=b
  have hb':b≤x.length:=by rw [← hb]; exact HT.sIx_le _ _ (Nat.le_refl _) _
  split
  · rename_i h
    simp only [List.length_map,List.length_range,Bool.and_eq_true,beq_iff_eq] at h
    by_cases hz:x.length=0
    · have e:x.cps.toList=[]:=List.length_eq_zero_iff.mp (by omega)
      rw [e]
      simp
    · have e1:a=0:=by omega
      have e2:b=x.length:=by omega
      subst e1 e2
      rw [List.drop_zero,Nat.sub_zero,List.take_of_length_le (by omega)]
  · rw [pick_run]
theorem tx_len (x:Str):x.cps.toList.length=x.length:=by simp [Str.length]
theorem slice_len (x:Str) (k:Nat):(Txt.slice x none (some (k:Int))).length≤k:=by
  rw [← tx_len,slice_txt]
  unfold cutN
  rw [HT.sIx_nat]
  simp only [HT.sIx_none,List.drop_zero,List.length_take]
  omega
section
variable {X:Cx}
def rSlS:V→Option Int→Option Int→Hp→VK→Prop:=fun x lo hi H Q=>∃ z,x=.str z∧z.length≤sizeLine∧Q (.str (Txt.slice z lo hi)) H
theorem part_of {v:Value} {o:Option Int} (p:IsPart v o):∃ l:Option (Int×Tok),v=partValue l∧l.map (·.1)=o:=by
  cases p with
  | none=>exact ⟨none,rfl,rfl⟩
  | int i t=>exact ⟨some (i,t),rfl,rfl⟩
theorem sl_str:SlR X rSlS:=by
  intro pins s σ H x v vl vu lo hi sl Q I rx hs pl pu h
  obtain ⟨z,rfl,hz,q⟩:=h
  obtain ⟨t,rfl⟩:=rx
  obtain ⟨l,e1,e2⟩:=part_of pl
  obtain ⟨u,e3,e4⟩:=part_of pu
  refine ⟨"str",_,PySem.F.slot_str_getitem.lookup,typeIs_str _ _ _,?_⟩
  obtain ⟨o,h1,h2,h3⟩:=hs
  subst e1 e3 e2 e4
  refine wpAny_getItem_str_slice (l:=l) (u:=u) (st:=none) ⟨o,h1,h2,h3⟩ rfl ?_
  refine post_val_or_str ⟨Nat.le_trans (Txt.slice_le z _ _) hz,fun t' k=>?_⟩
  exact ⟨.str _,H,I.tok _,⟨_,rfl⟩,q⟩
end
end L2
namespace L2
open PySem PySem.Spec PyProof.Rows
section
variable {prog:Program} {w:World} {A:Around} {E:Value→Shared→Prop} {s:Shared}
theorem nxT_item {it t:Addr} {i:Nat} {its:Array Value} {x:Value} {Q:Value→Shared→Prop} (a:s.heap.IsTupleIter it t i) (b:s.heap.IsTuple t its) (c:its[i]?=some x) (d:∀ h',h'.IsTupleIter it t (i+1)→Heap.SameBut it s.heap h'→Q x { s with heap:=h' }):wpAny (model prog w) A (Builtin.SmallTypes.nextOf (.ref it)) Q E s:=by
  obtain ⟨u,e1,e2,e3⟩:=id a
  obtain ⟨v,f1,_,m,f3⟩:=b
  unfold Builtin.SmallTypes.nextOf
  refine wpAny_bind (wpAny_callSpecial?_slot (name:=Str.ofString "__next__") a.typeIs F.slot_tuple_iterator_next (wpAny_call_entry F.slot_tuple_iterator_next a.typeIs F.entry_tuple_iterator_next ?_ (F.args_tuple_iterator_next_1 _)))
  show wpAny _ _ (field (.ref it) 0 >>= _) _ _ s; refine wpAny_bind (wpAny_field e1 e3 (x:=.ref t) rfl ?_)
  show wpAny _ _ (if (Value.ref t == Value.none)=true then _ else _) _ _ s; rw [if_neg (show ¬ ((Value.ref t == Value.none)=true) from Bool.false_ne_true)]
  show wpAny _ _ (field (.ref it) 1 >>= _) _ _ s; refine wpAny_bind (wpAny_field e1 e3 (x:=.int i 0) rfl ?_)
  show wpAny _ _ (seqItems? (.ref t) >>= _) _ _ s; refine wpAny_bind (wpAny_seqItems f1 f3 ?_)
  simp only [Int.toNat_natCast,c]
  refine wpAny_bind (wpAny_setField e1 e3 (by simp) (wpAny_pure ⟨x,rfl,wpAny_pure (d _ ⟨_,Heap.get?_update_self _ e1 (Obj.isFreed_of_fields (Obj.data_mapFields e3 _)),(Obj.cls_mapFields ..).trans e2,?_⟩ (Heap.SameBut.update ..))⟩))
  rw [Obj.data_mapFields e3]; simp [rawInt]
theorem nxT_end {it t:Addr} {i:Nat} {its:Array Value} {Q:Value→Shared→Prop} (hh:A.handled=none) (a:s.heap.IsTupleIter it t i) (b:s.heap.IsTuple t its) (c:its[i]?=none)
    (d:∀ h' e,Heap.ExtBut it s.heap h'→(∃ o,h'.get? e=some o∧o.cls=.type "StopIteration")→E (.ref e) { s with heap:=h' }):wpAny (model prog w) A (Builtin.SmallTypes.nextOf (.ref it)) Q E s:=by
  obtain ⟨u,e1,e2,e3⟩:=id a
  obtain ⟨v,f1,_,m,f3⟩:=b
  unfold Builtin.SmallTypes.nextOf
  refine wpAny_bind (wpAny_callSpecial?_slot (name:=Str.ofString "__next__") a.typeIs F.slot_tuple_iterator_next (wpAny_call_entry F.slot_tuple_iterator_next a.typeIs F.entry_tuple_iterator_next ?_ (F.args_tuple_iterator_next_1 _)))
  show wpAny _ _ (field (.ref it) 0 >>= _) _ _ s; refine wpAny_bind (wpAny_field e1 e3 (x:=.ref t) rfl ?_)
  show wpAny _ _ (if (Value.ref t == Value.none)=true then _ else _) _ _ s; rw [if_neg (show ¬ ((Value.ref t == Value.none)=true) from Bool.false_ne_true)]
  show wpAny _ _ (field (.ref it) 1 >>= _) _ _ s; refine wpAny_bind (wpAny_field e1 e3 (x:=.int i 0) rfl ?_)
  show wpAny _ _ (seqItems? (.ref t) >>= _) _ _ s; refine wpAny_bind (wpAny_seqItems f1 f3 ?_)
  simp only [Int.toNat_natCast,c]
  refine wpAny_bind (wpAny_rule (wpAny_bind (wpAny_setField e1 e3 (by simp) ?_)))
  show wpAny _ _ (newExc (.type "StopIteration") [] >>= _) _ _ _; refine wpAny_bind ?_
  simp only [newExc,newTuple]; refine wpAny_bind (wpAny_newObj_type ?_ (by size_fits))
  refine wpAny_bind (m:=firstArgMember _ _) (wpAny_of_eq (a:=Value.none) (by first | rfl | (simp only [firstArgMember]; rfl)) (wpAny_newObj_type ?_ (by size_fits)))
  simp only [raiseNew]; refine wpAny_bind (wpAny_handled ?_)
  rw [show A.in1.handled=none from hh]
  exact wpAny_bind (wpAny_pure (wpAny_throw (d _ _ (((Heap.SameBut.update ..).extBut.push _).push _) ⟨_,Heap.get?_push_size _ rfl,rfl⟩)))
theorem drawsT (hh:A.handled=none) (it t:Addr) (hne:t≠it) (its:Array Value):Draws prog w A it [it,t] its.size (fun i v=>its[i]?=some v) (fun i h=>h.IsTupleIter it t i∧h.IsTuple t its) where
  live:=fun _ _ st=>by
    obtain ⟨⟨o,e,_⟩,_⟩:=st
    exact ⟨o,e⟩
  frame:=fun _ _ _ st k=>by
    obtain ⟨⟨o,e,r⟩,⟨o2,e2,r2⟩⟩:=st
    exact ⟨⟨o,k it (by simp) o e,r⟩,⟨o2,k t (by simp) o2 e2,r2⟩⟩
  item:=fun i s Q E hi st d=>nxT_item st.1 st.2 (x:=its[i]) (by simp [hi]) fun h' a b=>d _ h' s.toks (by simp [hi]) ⟨a,st.2.extBut b.extBut hne⟩ b
  done:=fun s Q E st d=>nxT_end hh st.1 st.2 (by simp) d
theorem meets_enumT (l:Addr) (its:Array Value) (n:Nat) (dc:Option Addr) (sl:Array (Option Value)) :
    Meets (Builtin.«enumerate.__new__» ⟨[.type "enumerate",.ref l],[]⟩) (fun _ R s=>s.heap.get? l=some { cls:=.type "tuple",dict:=dc,data:=.seq its n,slots:=sl }∧
      R (.ok (.ret (.ref (s.heap.push { cls:=.type "tuple_iterator",data:=.fields #[.ref l,.int 0 0] }).objs.size)))
        { s with heap:=(s.heap.push { cls:=.type "tuple_iterator",data:=.fields #[.ref l,.int 0 0] }).push { cls:=.type "enumerate",data:=.fields #[.none,.bool false,.ref s.heap.objs.size,rawInt 0,.none,.none] } }) :=
  .of_wp fun prog w A R s h=>by
    obtain ⟨hp,g,d,tk,os⟩:=s; obtain ⟨a1,h⟩:=h
    have sb:=sub_enumerate
    have a2:Heap.IsTuple (Shared.heap ⟨hp,g,d,tk,os⟩) l its:=⟨_,a1,rfl,n,rfl⟩
    wp_walk using AutoSeq1.wpAny_loadPart' a1
    refine wpAny_stack_any fun st=>wpAny_pure ?_
    split
    · rename_i c _ _ _ _ _
      cases (c == Value.type "enumerate") <;> (wp_walk using AutoSeq1.wpAny_loadPart' a1,wpAny_pyIter_tuple a2; exact ⟨_,rfl,h⟩)
    · wp_walk using AutoSeq1.wpAny_loadPart' a1,wpAny_pyIter_tuple a2; exact ⟨_,rfl,h⟩
theorem call_enumT {l:Addr} {its:Array Value} {Q:Value→Shared→Prop} (a:s.heap.IsTuple l its)
    (k:∀ h',IsEnum h' (s.heap.objs.size+1) s.heap.objs.size 0 .none→h'.IsTupleIter s.heap.objs.size l 0→h'.objs.size=s.heap.objs.size+2→(∀ b o,s.heap.get? b=some o→h'.get? b=some o)→Q (.ref (s.heap.objs.size+1)) { s with heap:=h' }) :
    wpAny (model prog w) A (call (.type "enumerate") [.ref l]) Q E s:=by
  obtain ⟨⟨c,dc,dt,sl⟩,a1,a2,n,a3⟩:=a
  replace a2:c=.type "tuple":=a2; replace a3:dt=.seq its n:=a3
  subst a2 a3
  refine callType_new F.called_enumerate (by decide) (F.typeCall_enumerate_1 _) (F.newCall_enumerate_1 _) (fun obj=>F.args_object_init_2 obj _) F.entry_enumerate_new (meets_enumT l its n dc sl) ⟨a1,?_⟩
  have z:(s.heap.push { cls:=.type "tuple_iterator",data:=.fields #[.ref l,.int 0 0] }).objs.size=s.heap.objs.size+1:=Heap.size_push ..
  show _∧_; rw [z]
  have e:=Heap.get?_push_size (s.heap.push { cls:=.type "tuple_iterator",data:=.fields #[.ref l,.int 0 0] }) (o:={ cls:=.type "enumerate",data:=.fields #[.none,.bool false,.ref s.heap.objs.size,rawInt 0,.none,.none] }) rfl
  rw [z] at e
  exact ⟨⟨_,e,rfl⟩,k _ e ⟨_,Heap.get?_push_of_some _ (Heap.get?_push_size _ rfl),rfl,rfl⟩ (by rw [Heap.size_push,z]) fun b o x=>Heap.get?_push_of_some _ (Heap.get?_push_of_some _ x)⟩
end
def IteT (K:PySem.W.Frag) (a:Addr):It :=
  ⟨fun i H=>∃ xs x,SqT K H a xs∧xs[i]?=some x,fun i H v H'=>∃ T x,H T=none∧H'=upd H T (.tup [.int (i:Int),x])∧v=.ref T∧∀ xs,SqT K H a xs→xs[i]?=some x,fun i H=>∃ xs,SqT K H a xs∧xs.length=i⟩
theorem turn_enumT {P:Program} {w:World} {K:PySem.W.Frag} {elts:List Expr} {x1:Nat} {tp:Pos} (a e it:Addr) (hei:e≠it) (hea:e≠a) (hai:a≠it) :
    Turn P w K (.Tuple elts x1 tp) (IteT K a) [e,it] e (fun i h=>(∃ old,IsEnum h e it i old)∧h.IsTupleIter it a i) where
  mem:=by simp
  obj:=fun i h st b hb=>by
    obtain ⟨⟨old,he⟩,⟨o,e1,c,d⟩⟩:=st
    rcases List.mem_cons.mp hb with z | z
    · subst z
      exact ⟨_,he,fun v q=>nomatch q⟩
    · have z':b=it:=by simpa using z
      subst z'
      exact ⟨o,e1,fun v q=>by rw [d] at q; cases q⟩
  keep:=fun i h h' st k=>⟨st.1.elim fun old he=>⟨old,k e (by simp) _ he⟩,st.2.elim fun o r=>⟨o,k it (by simp) o r.1,r.2⟩⟩
  item:=by
    intro X hP hw hK hc i pins s σ H E I hf st hg
    subst hP hw hK
    obtain ⟨xs,x,hq,hx⟩:=hg
    obtain ⟨its,rv,p,hz⟩:=I.tuple hq
    obtain ⟨u,hu,ru⟩:=rv.get hx
    obtain ⟨⟨old,he⟩,hit⟩:=st
    have hlen:=rv.length
    have hlt:i<its.toArray.size:=by rw [List.size_toArray,← hlen]; exact (List.getElem?_eq_some_iff.mp hx).1
    refine wpAny_pyNext_enum_itemD (drawsT (A:=X.A.in1) (show X.A.in1.handled=none from I.ok.hd hc) it a hai its.toArray) he ⟨hit,IsTup.tup p⟩ hlt hei (by simp [hei,hea]) fun v h' tk hv ho hst hT hsz hk=>?_
    obtain rfl:v=u:=by
      have:its[i]?=some v:=by simpa using hv
      rw [hu] at this
      exact (Option.some.inj this).symm
    have helt:e<s.heap.objs.size:=Heap.lt_size he
    have hilt:it<s.heap.objs.size:=by obtain ⟨_,q,_⟩:=hit; exact Heap.lt_size q
    refine ⟨_,rfl,?_⟩
    refine wpAny_letOwnedTupleGo_enum ho fun h2 he2 hs2=>?_
    have k2:∀ b o,b∉[e,it]→s.heap.get? b=some o→h2.get? b=some o:=fun b o hb q=>by
      have n1:b≠e:=fun z=>hb (by simp [z])
      have n2:b≠it:=fun z=>hb (by simp [z])
      exact (hs2.2 b n1).trans (hk b o n1 n2 q)
    have t2:h2.get? s.heap.objs.size=some { cls:=.type "tuple",data:=.seq #[.int i tk,v] }:=(hs2.2 _ (Nat.ne_of_gt helt)).trans hT
    have hn:H s.heap.objs.size=none:=I.hok.fresh (Nat.le_refl _)
    have new:ObjOk X.prog X.w (upd H s.heap.objs.size (.tup [.int (i:Int),x])) h2 s.heap.objs.size (.tup [.int (i:Int),x]) :=
      ⟨by simp only [List.length_cons,List.length_nil]; rw [sizeLine_eq]; decide,[.int i tk,v],.cons ⟨_,rfl⟩ (.cons ru .nil),⟨_,t2,rfl,_,rfl⟩⟩
    have I2:Inv X pins σ (upd H s.heap.objs.size (.tup [.int (i:Int),x])) { s with heap:=h2,toks:=tk+1 }:=I.turnedNew k2 hf (Nat.le_refl _) new
    refine ⟨.ref s.heap.objs.size,_,I2,rfl,⟨s.heap.objs.size,x,hn,rfl,rfl,fun ys hy=>by rw [I.tuple_inj hy hq]; exact hx⟩,⟨⟨v,?_⟩,hst.1.elim fun o r=>⟨o,(hs2.2 it hei.symm).trans r.1,r.2⟩⟩,fun b hb=>?_⟩
    · simpa using he2
    · have hb1:b≠s.heap.objs.size:=by
        rcases List.mem_cons.mp hb with z | z
        · rw [z]; exact Nat.ne_of_lt helt
        · have z':b=it:=by simpa using z
          rw [z']; exact Nat.ne_of_lt hilt
      rw [upd_ne hb1]
      exact (hf b hb).1
  done:=by
    intro X hP hw hK hc i pins s σ H E I hf st hg
    subst hP hw hK
    obtain ⟨xs,hq,hx⟩:=hg
    obtain ⟨its,rv,p,hz⟩:=I.tuple hq
    obtain ⟨⟨old,he⟩,hit⟩:=st
    have e:i=its.toArray.size:=by rw [List.size_toArray,← rv.length]; exact hx.symm
    subst e
    refine wpAny_pyNext_enum_endD (drawsT (A:=X.A.in1) (show X.A.in1.handled=none from I.ok.hd hc) it a hai its.toArray) he ⟨hit,IsTup.tup p⟩ fun h' eb=>⟨rfl,?_⟩
    exact I.turnedL (t':=s.toks) (fun b o hb q=>eb b o (fun z=>hb (by simp [z])) q) hf
  self:=fun _ _ _ _ _ st h=>by
    obtain ⟨⟨old,he⟩,_⟩:=st
    exact wpAny_pyIter_enum he h
section
variable {X:Cx}
def iEnumT (K:PySem.W.Frag) (ta:TA):TI:=fun σ H R=>ta σ H fun vs H1=>∃ a,vs=[.ref a]∧(∃ xs,SqT K H1 a xs)∧R (IteT K a) H1
theorem pi_enumT {a:Expr} {ta:TA} {p pos tp:Pos} {elts:List Expr} {x1:Nat} (hg:Gl X "enumerate") (hm:X.mg "enumerate"=none) (ha:PA X [a] ta) (hs:starEach [a] X.env=[(false,eval a X.env)]:=by rfl) :
    PI X (.Tuple elts x1 tp) (.Call (.Name "enumerate" p) [a] [] pos) (iEnumT X.K ta):=by
  intro pins s σ H R I h
  refine Call_ (ld_blt I hg hm boot_enumerate (PyProof.Rows.callWith_type1 (thn (ha pos pins s σ H _ I h) fun us s1 ⟨vs,H1,I1,r1,q1⟩=>?_) hs rfl))
  obtain ⟨l,e,⟨xs,hx⟩,q⟩:=q1
  subst e
  obtain ⟨u,rfl,ru⟩:=vals1 r1
  cases ru
  obtain ⟨its,rv,pl,hz⟩:=I1.tuple hx
  have hl:l<s1.heap.objs.size:=by obtain ⟨o,z,_⟩:=IsTup.tup pl; exact Heap.lt_size z
  refine call_enumT (IsTup.tup pl) fun h' he hit hsz hk=>?_
  refine wpAny_pyIter_enum he ?_
  have hfp:∀ b∈[s1.heap.objs.size+1,s1.heap.objs.size],FpOk X pins H1 b:=fun b hb=>by
    have hge:s1.heap.objs.size≤b:=by
      rcases List.mem_cons.mp hb with z | z
      · omega
      · have z':b=s1.heap.objs.size:=by simpa using z
        omega
    exact I1.fpOk hge (I1.hok.fresh hge)
  exact ⟨s1.heap.objs.size+1,[s1.heap.objs.size+1,s1.heap.objs.size],_,_,H1,rfl,I1.kept (t':=s1.toks) hk,turn_enumT l _ _ (Nat.succ_ne_self _) (Nat.ne_of_gt (Nat.lt_succ_of_lt hl)) (Nat.ne_of_lt hl),⟨⟨_,he⟩,hit⟩,hfp,q⟩
end
theorem for_enumT {K:PySem.W.Frag} {a:Addr} {xs:List V} {g:TG} {tb:TS} {D:Ends} {σ:St} {H:Hp} (Pv:Nat→St→Hp→Prop) (h0:Pv 0 σ H) (hl:∀ i σ H,i≤xs.length→Pv i σ H→SqT K H a xs)
    (hs:∀ i x σ H T,xs[i]?=some x→Pv i σ H→H T=none→g (.ref T) σ (upd H T (.tup [.int (i:Int),x])) fun σ2 H2=>tb { D with nx:=Pv (i+1),ct:=Pv (i+1),bk:=D.nx } σ2 H2) (hd:∀ σ H,Pv xs.length σ H→D.nx σ H) :
    ∃ W:Nat→Nat→St→Hp→Prop,(∃ m,W 0 m σ H)∧∀ i m σ H,W i m σ H→
      ((IteT K a).stop i H∧D.nx σ H)∨((IteT K a).go i H∧∃ N:St→Hp→Prop,(∀ σ' H',N σ' H'→∃ m',m'<m∧W (i+1) m' σ' H')∧∀ x H',(IteT K a).yld i H x H'→g x σ H' fun σ2 H2=>tb { D with nx:=N,ct:=N,bk:=D.nx } σ2 H2):=by
  refine ⟨fun i m σ H=>m=xs.length - i∧i≤xs.length∧Pv i σ H,⟨xs.length,by simp,Nat.zero_le _,h0⟩,?_⟩
  rintro i m σ H ⟨rfl,hi,p⟩
  have q:=hl i σ H hi p
  by_cases hlt:i<xs.length
  · refine .inr ⟨⟨xs,xs[i],q,by simp [hlt]⟩,Pv (i+1),fun σ' H' p'=>⟨xs.length - (i+1),by omega,rfl,hlt,p'⟩,fun v H' y=>?_⟩
    obtain ⟨T,x,hT,e1,e2,y⟩:=y
    subst e1 e2
    exact hs i x σ H T (y xs q) p hT
  · have e:i=xs.length:=by omega
    subst e
    exact .inl ⟨⟨xs,q,rfl⟩,hd σ H p⟩
end L2
namespace L2
open PySem PySem.Spec PyProof.Rows
def sgn (c:Nat):V:=.str ⟨#[c]⟩
def ItS (z:Str):It:=⟨fun i _=>i<z.cps.size,fun i H x H'=>H'=H∧∃ c,z.cps[i]?=some c∧x=sgn c,fun i _=>i=z.cps.size⟩
theorem nxS_item {prog:Program} {w:World} {A:Around} {E:Value→Shared→Prop} {s:Shared} {it:Addr} {z:Str} {t:Tok} {i c:Nat} {Q:Option Value→Shared→Prop} (a:s.heap.IsStrIter it (strIterType z) z t i) (b:z.cps[i]?=some c)
    (k:∀ h',h'.IsStrIter it (strIterType z) z t (i+1)→Heap.SameBut it s.heap h'→Q (some (.str ⟨#[c]⟩ s.toks)) { s with heap:=h',toks:=s.toks+1 }):wpAny (model prog w) A (pyNext (.ref it)) Q E s:=by
  unfold strIterType at a k
  split at a
  · rename_i e
    rw [if_pos e] at k
    exact wpAny_pyNext_ascii_item a b k
  · rename_i e
    rw [if_neg e] at k
    exact wpAny_pyNext_wide_item a b k
theorem nxS_end {prog:Program} {w:World} {A:Around} {E:Value→Shared→Prop} {s:Shared} {it:Addr} {z:Str} {t:Tok} {i:Nat} {Q:Option Value→Shared→Prop} (hh:A.handled=none) (a:s.heap.IsStrIter it (strIterType z) z t i) (b:z.cps[i]?=none)
    (k:∀ h',Heap.ExtBut it s.heap h'→Q none { s with heap:=h' }):wpAny (model prog w) A (pyNext (.ref it)) Q E s:=by
  unfold strIterType at a
  split at a
  · exact wpAny_pyNext_ascii_end hh a b k
  · exact wpAny_pyNext_wide_end hh a b k
theorem ty_no (z:Str):["enumerate","zip","dict_itemiterator","dict_reverseitemiterator","odict_iterator","itertools.zip_longest","itertools.pairwise"].contains (strIterType z)=false:=by
  unfold strIterType
  split <;> decide
theorem turn_str {P:Program} {w:World} {K:PySem.W.Frag} {tg:Expr} (z:Str) (t:Tok) (it:Addr):Turn P w K tg (ItS z) [it] it (fun i h=>h.IsStrIter it (strIterType z) z t i) where
  mem:=by simp
  obj:=fun i h st b hb=>by
    have e:b=it:=by simpa using hb
    subst e
    obtain ⟨o,e,c,d⟩:=st
    exact ⟨o,e,fun v q=>by rw [d] at q; cases q⟩
  keep:=fun i h h' st k=>st.elim fun o r=>⟨o,k it (by simp) o r.1,r.2⟩
  item:=by
    intro X hP hw hK hc i pins s σ H E I hf st hg
    subst hP hw hK
    have hg':i<z.cps.size:=hg
    have hx:z.cps[i]?=some z.cps[i]:=Array.getElem?_eq_getElem hg'
    obtain ⟨f0,f1,f2,f3,f4,f5⟩:=hf it (by simp)
    refine nxS_item st hx fun h' st' sb=>?_
    have I1:Inv X pins σ H { s with heap:=h',toks:=s.toks+1 }:=I.turned (t':=s.toks+1) (fun b o hb e=>(sb.2 b hb).trans e) f0 f1 f3 f4 f5
    obtain ⟨o,e,c,d⟩:=id st'
    exact ⟨_,rfl,go_of (s:={ s with heap:=h',toks:=s.toks+1 }) e c d (ty_no z) ⟨sgn z.cps[i],H,I1,⟨_,rfl⟩,⟨rfl,_,hx,rfl⟩,st',fun b hb=>(hf b hb).1⟩⟩
  done:=by
    intro X hP hw hK hc i pins s σ H E I hf st hg
    subst hP hw hK
    obtain ⟨f0,f1,f2,f3,f4,f5⟩:=hf it (by simp)
    have hx:z.cps[i]?=none:=by simp [show i=z.cps.size from hg]
    exact nxS_end (I.ok.hd hc) st hx fun h' eb=>⟨rfl,I.turned (t':=s.toks) (fun b o hb e=>eb b o hb e) f0 f1 f3 f4 f5⟩
  self:=fun _ _ _ _ _ st h=>by
    unfold strIterType at st
    split at st
    · exact wpAny_pyIter_striter_ascii st h
    · exact wpAny_pyIter_striter_wide st h
section
variable {X:Cx} {tg:Expr}
def iStr (tl:TE):TI:=fun σ H R=>tl σ H fun x H1=>∃ z,x=.str z∧R (ItS z) H1
theorem pi_str {l:Expr} {tl:TE} (hl:PE X l tl):PI X tg l (iStr tl):=by
  intro pins s σ H R I h
  refine thn (hl pins s σ H _ I h) fun v s1 ⟨x,H1,I1,r1,q1⟩=>?_
  obtain ⟨z,rfl,q⟩:=q1
  obtain ⟨t,rfl⟩:=r1
  refine wpAny_pyIter_strU ?_
  refine ⟨s1.heap.objs.size,[s1.heap.objs.size],_,_,H1,rfl,I1.kept (t':=s1.toks) fun b o e=>Heap.get?_push_of_some _ e,turn_str z t _,⟨_,Heap.get?_push_size _ rfl,rfl,rfl⟩,fun b hb=>?_,q⟩
  have e:b=s1.heap.objs.size:=by simpa using hb
  subst e
  exact I1.fpOk (Nat.le_refl _) (I1.hok.fresh (Nat.le_refl _))
end
theorem comp_str {z:Str} {g:TG} {tt:TT} {te:TE} {nv:Nat} {ix:List Nat} {σ:St} {D:Addr} {H:Hp} {Q:VK} (Pv:Nat→List V→Hp→Prop) (h0:Pv 0 [] (upd H D (.lst [])))
    (hs:∀ i c ys H,z.cps[i]?=some c→Pv i ys H→H D=some (.lst ys)→g (sgn c) (capσ nv ix σ) H fun σ2 H3=>σ2.drop nv=(capσ nv ix σ).drop nv∧tt σ2 H3 fun b H4 =>
      if b=true then te σ2 H4 fun v H5=>∃ zs,H5 D=some (.lst zs)∧zs.length<sizeLine∧(∃ ys',Pv (i+1) ys' (upd H5 D (.lst (zs++[v])))∧(upd H5 D (.lst (zs++[v]))) D=some (.lst ys')) else ∃ ys',Pv (i+1) ys' H4∧H4 D=some (.lst ys'))
    (hd:∀ ys H,Pv z.cps.size ys H→H D=some (.lst ys)→Q (.ref D) H) :
    CompAt (ItS z) g tt te nv ix σ Q H D:=by
  refine ⟨fun i m H2=>m=z.cps.size - i∧i≤z.cps.size∧∃ ys,Pv i ys H2∧H2 D=some (.lst ys),⟨z.cps.size,by simp,Nat.zero_le _,[],h0,upd_same⟩,?_⟩
  rintro i m H2 ⟨rfl,hi,ys,p,hD⟩
  by_cases hlt:i<z.cps.size
  · refine .inr ⟨hlt,fun H'=>∃ ys,Pv (i+1) ys H'∧H' D=some (.lst ys),fun H' p'=>⟨z.cps.size - (i+1),by omega,rfl,hlt,p'⟩,fun x H' y=>?_⟩
    obtain ⟨e,c,hc,e2⟩:=y
    subst e e2
    exact hs i c ys _ hc p hD
  · have e:i=z.cps.size:=by omega
    subst e
    exact .inl ⟨rfl,hd ys H2 p hD⟩
theorem comp_tup {K:PySem.W.Frag} {a:Addr} {xs:List V} {g:TG} {tt:TT} {te:TE} {nv:Nat} {ix:List Nat} {σ:St} {D:Addr} {H:Hp} {Q:VK} (Pv:Nat→List V→Hp→Prop) (h0:Pv 0 [] (upd H D (.lst []))) (hl:∀ i ys H,i≤xs.length→Pv i ys H→SqT K H a xs)
    (hs:∀ i x ys H,xs[i]?=some x→Pv i ys H→H D=some (.lst ys)→g x (capσ nv ix σ) H fun σ2 H3=>σ2.drop nv=(capσ nv ix σ).drop nv∧tt σ2 H3 fun b H4 =>
      if b=true then te σ2 H4 fun v H5=>∃ zs,H5 D=some (.lst zs)∧zs.length<sizeLine∧(∃ ys',Pv (i+1) ys' (upd H5 D (.lst (zs++[v])))∧(upd H5 D (.lst (zs++[v]))) D=some (.lst ys')) else ∃ ys',Pv (i+1) ys' H4∧H4 D=some (.lst ys'))
    (hd:∀ ys H,Pv xs.length ys H→H D=some (.lst ys)→Q (.ref D) H) :
    CompAt (Itt K a) g tt te nv ix σ Q H D:=by
  refine ⟨fun i m H2=>m=xs.length - i∧i≤xs.length∧∃ ys,Pv i ys H2∧H2 D=some (.lst ys),⟨xs.length,by simp,Nat.zero_le _,[],h0,upd_same⟩,?_⟩
  rintro i m H2 ⟨rfl,hi,ys,p,hD⟩
  have q:=hl i ys H2 hi p
  by_cases hlt:i<xs.length
  · refine .inr ⟨⟨xs,xs[i],q,by simp [hlt]⟩,fun H'=>∃ ys,Pv (i+1) ys H'∧H' D=some (.lst ys),fun H' p'=>⟨xs.length - (i+1),by omega,rfl,hlt,p'⟩,fun x H' y=>?_⟩
    obtain ⟨e,y⟩:=y
    subst e
    exact hs i x ys _ (y xs q) p hD
  · have e:i=xs.length:=by omega
    subst e
    exact .inl ⟨⟨xs,q,Nat.le_refl _⟩,hd ys H2 p hD⟩
theorem op_notIn_seqC {X:Cx} {K:PySem.W.Frag} (hK:X.K=K):OpR X (compareOp .NotIn) (rIn K true):=hK▸op_notIn_seq
theorem str_size1 (c:Nat):(⟨#[c]⟩:Str).length=1:=rfl
theorem str_app_len (a b:Str):(a++b).length=a.length+b.length:=by
  show (a.cps++b.cps).size=a.cps.size+b.cps.size
  simp
theorem nodup_sub {α:Type} [DecidableEq α]:∀ {l m:List α},l.Nodup→(∀ x∈l,x∈m)→l.length≤m.length
  | [],_,_,_=>Nat.zero_le _
  | x::r,m,hn,hs=>by
    have hx:=hs x List.mem_cons_self
    rw [List.nodup_cons] at hn
    have h2:=nodup_sub (l:=r) (m:=m.erase x) hn.2 fun y hy=>(List.mem_erase_of_ne (fun (e:y=x)=>hn.1 (e▸hy))).mpr (hs y (List.mem_cons_of_mem _ hy))
    rw [List.length_erase_of_mem hx] at h2
    have:=List.length_pos_of_mem hx
    rw [List.length_cons]
    omega
theorem inV_str (z:Str) (l:List Str):inV (.str z) (l.map V.str)=decide (z∈l):=by
  unfold inV
  induction l with
  | nil=>rfl
  | cons x r ih =>
    rw [List.map_cons,List.any_cons,ih]
    show ((x == z) || _)=_
    by_cases h:x=z
    · subst h
      simp
    · have h':¬ z=x:=fun e=>h e.symm
      simp [h,h']
theorem strs_flat (l:List Str):(l.map V.str).all flatV=true:=by
  rw [List.all_eq_true]
  intro x hx
  obtain ⟨o,_,rfl⟩:=List.mem_map.mp hx
  rfl
end L2
namespace L2
open PySem PySem.Spec PyProof.Rows
section
variable {X:Cx} {CX:CXT} {k:Nat} {f:Addr} {fd:FuncData} {ps:List Str} {sp:Sp} {dvs:List V} {ds:List Value} {E:XK} {m:Str} {pos apos:Pos} {e o:Expr} {es:List Expr} {ta:TE} {t:TA}
def tMethD (K:PySem.W.Frag) (f:Addr) (m:Str) (sp:Sp) (dvs:List V) (E:XK) (ta:TE) (t:TA):TE:=fun σ H Q=>ta σ H fun x H1=>∃ C a dx fs,x=.ref a∧H1 a=some (.ins C dx fs)∧Cls K C∧Meth K C m f∧fs.lookup m=none∧t σ H1 fun vs H2=>sp (x::(vs++dvs)) H2 Q E
theorem pe_methD {pl:Sem Bool} (he:PE X o ta) (F:FnOk X.prog X.w X.K X.mg X.base CX k f fd ps sp) (hr:Room k X.A) (hb:Binds X.K fd ps ds) (hd:Vals dvs ds) (hx:Passes CX X E) (ha:PA X (e::es) t)
    (hst:starEach (e::es) X.env=(false,eval e X.env)::starEach es X.env:=by rfl) (hpl:(backTo pos (starEach es X.env)).any (·.1)=false:=by rfl)
    (ht:eval (.Call (.Attribute o m apos) (e::es) [] pos) X.env=(do let ov ← eval o X.env; standAt apos.atName; let (f,first) ← holding [ov] (getMethod ov m pl); callWith pos f first (backTo pos (starEach (e::es) X.env)) (backToKw pos (keywordEach [] X.env))):=by rfl) :
    PE X (.Call (.Attribute o m apos) (e::es) [] pos) (tMethD X.K f m sp dvs E ta t):=by
  intro pins s σ H Q I h
  refine PySem.W.methodCall_KW (pl:=pl) (thn (he pins s σ H _ I h) fun u s1 ⟨x,H1,I1,rx,C,a,dx,fs,ex,ea,c,hm,l,q⟩=>?_) ht
  subst ex; obtain rfl:u=Value.ref a:=rx
  refine getmeth_ok I1 ea c hm l ?_
  refine PySem.W.callWith_K (first:=[.ref a]) (h₀:=X.base) I.ok.mod.kin hm.kp (thn (ha pos pins s1 σ H1 _ I1 q) fun us s2 ⟨vs,H2,I2,r,q2⟩=>⟨I2.kIn,?_⟩) hst hpl
  exact run_fn (us:=.ref a::us) (vs:=.ref a::vs) F hr hb hd hx I2 (.cons rfl r) q2
end
end L2
namespace L2
open PySem PySem.Spec PyProof.Rows
def ItAt (tp:Bool) (h:Heap) (i l:Addr) (k:Nat) (xs:Array Value):Prop:=match tp with
  | false=>h.IsListIter i l k∧h.IsList l xs
  | true=>h.IsTupleIter i l k∧h.IsTuple l xs
theorem ItAt.at {tp:Bool} {h h':Heap} {i l:Addr} {k:Nat} {xs:Array Value} (a:ItAt tp h i l k xs) (k1:∀ o,h.get? i=some o→h'.get? i=some o) (k2:∀ o,h.get? l=some o→h'.get? l=some o):ItAt tp h' i l k xs:=by
  cases tp with
  | false=>exact ⟨a.1.at k1,a.2.at k2⟩
  | true=>obtain ⟨⟨o,e,r⟩,⟨o2,e2,r2⟩⟩:=a; exact ⟨⟨o,k1 o e,r⟩,⟨o2,k2 o2 e2,r2⟩⟩
theorem ItAt.ext {tp:Bool} {h h':Heap} {i l b:Addr} {k:Nat} {xs:Array Value} (a:ItAt tp h i l k xs) (x:Heap.ExtBut b h h') (n1:i≠b) (n2:l≠b):ItAt tp h' i l k xs:=a.at (fun o e=>x i o n1 e) (fun o e=>x l o n2 e)
section
variable {prog:Program} {w:World} {A:Around} {E:Value→Shared→Prop} {s:Shared}
theorem ItAt.nx {tp:Bool} {i l:Addr} {k:Nat} {xs:Array Value} {x:Value} {Q:Value→Shared→Prop} (a:ItAt tp s.heap i l k xs) (hne:l≠i) (c:xs[k]?=some x) (d:∀ h',ItAt tp h' i l (k+1) xs→Heap.SameBut i s.heap h'→Q x { s with heap:=h' }):wpAny (model prog w) A (Builtin.SmallTypes.nextOf (.ref i)) Q E s:=by
  cases tp with
  | false=>exact wpAny_nextOf_list_item a.1 a.2 c fun h' b sb=>d h' ⟨b,a.2.extBut sb.extBut hne⟩ sb
  | true=>exact nxT_item a.1 a.2 c fun h' b sb=>d h' ⟨b,a.2.extBut sb.extBut hne⟩ sb
theorem ItAt.nxE {tp:Bool} {i l:Addr} {k:Nat} {xs:Array Value} {Q:Value→Shared→Prop} (hh:A.handled=none) (a:ItAt tp s.heap i l k xs) (c:xs[k]?=none) (d:∀ h' e,Heap.ExtBut i s.heap h'→(∃ o,h'.get? e=some o∧o.cls=.type "StopIteration")→E (.ref e) { s with heap:=h' }):wpAny (model prog w) A (Builtin.SmallTypes.nextOf (.ref i)) Q E s:=by
  cases tp with
  | false=>exact wpAny_nextOf_list_end hh a.1 a.2 c d
  | true=>exact nxT_end hh a.1 a.2 c d
abbrev itCls (tp:Bool):String:=if tp then "tuple_iterator" else "list_iterator"
def SeqOf (tp:Bool) (h:Heap) (l:Addr) (xs:Array Value):Prop:=match tp with
  | false=>h.IsList l xs
  | true=>h.IsTuple l xs
abbrev zP (h:Heap) (tp:Bool) (l:Addr):Heap:=h.push { cls:=.type (itCls tp),data:=.fields #[.ref l,.int 0 0] }
abbrev zQ (h:Heap) (t1 t2:Bool) (l1 l2:Addr):Heap:=(zP (zP h t1 l1) t2 l2).push { cls:=.type "tuple",data:=.seq #[.ref h.objs.size,.ref (zP h t1 l1).objs.size] }
abbrev zR (h:Heap) (t1 t2:Bool) (l1 l2:Addr):Heap:=(zQ h t1 t2 l1 l2).push { cls:=.type "tuple",data:=.seq #[.none,.none] }
abbrev zS (h:Heap) (t1 t2:Bool) (l1 l2:Addr):Heap:=(zR h t1 t2 l1 l2).push { cls:=.type "zip",data:=.fields #[.none,.bool false,.bool false,.ref (zP (zP h t1 l1) t2 l2).objs.size,.ref (zQ h t1 t2 l1 l2).objs.size] }
theorem meets_zipX (t1 t2:Bool) (l1 l2:Addr) (xs ys:Array Value):Meets (Builtin.«zip.__new__» ⟨[.type "zip",.ref l1,.ref l2],[]⟩) (fun _ R s=>SeqOf t1 s.heap l1 xs∧SeqOf t2 s.heap l2 ys∧R (.ok (.ret (.ref (zR s.heap t1 t2 l1 l2).objs.size))) { s with heap:=zS s.heap t1 t2 l1 l2 }) :=
  .of_wp fun prog w A R s h=>by
    obtain ⟨hp,g,d,tk,os⟩:=s; obtain ⟨g1,g2,h⟩:=h
    have sb:=sub_zip
    cases t1 <;> cases t2
    · have a1:Heap.IsList (Shared.heap ⟨hp,g,d,tk,os⟩) l1 xs:=g1
      have a2:Heap.IsList (Shared.heap ⟨hp.push { cls:=.type "list_iterator",data:=.fields #[.ref l1,.int 0 0] },g,d,tk,os⟩) l2 ys:=Heap.IsList.push g2 _
      wp_walk using wpAny_pyIter_list a1,wpAny_pyIter_list a2; exact ⟨_,rfl,h⟩
    · have a1:Heap.IsList (Shared.heap ⟨hp,g,d,tk,os⟩) l1 xs:=g1
      have a2:Heap.IsTuple (Shared.heap ⟨hp.push { cls:=.type "list_iterator",data:=.fields #[.ref l1,.int 0 0] },g,d,tk,os⟩) l2 ys:=by obtain ⟨o,e,r⟩:=g2; exact ⟨o,Heap.get?_push_of_some _ e,r⟩
      wp_walk using wpAny_pyIter_list a1,wpAny_pyIter_tuple a2; exact ⟨_,rfl,h⟩
    · have a1:Heap.IsTuple (Shared.heap ⟨hp,g,d,tk,os⟩) l1 xs:=g1
      have a2:Heap.IsList (Shared.heap ⟨hp.push { cls:=.type "tuple_iterator",data:=.fields #[.ref l1,.int 0 0] },g,d,tk,os⟩) l2 ys:=Heap.IsList.push g2 _
      wp_walk using wpAny_pyIter_tuple a1,wpAny_pyIter_list a2; exact ⟨_,rfl,h⟩
    · have a1:Heap.IsTuple (Shared.heap ⟨hp,g,d,tk,os⟩) l1 xs:=g1
      have a2:Heap.IsTuple (Shared.heap ⟨hp.push { cls:=.type "tuple_iterator",data:=.fields #[.ref l1,.int 0 0] },g,d,tk,os⟩) l2 ys:=by obtain ⟨o,e,r⟩:=g2; exact ⟨o,Heap.get?_push_of_some _ e,r⟩
      wp_walk using wpAny_pyIter_tuple a1,wpAny_pyIter_tuple a2; exact ⟨_,rfl,h⟩
theorem itAt_new {tp:Bool} {h h':Heap} {i l:Addr} {xs:Array Value} (g:SeqOf tp h l xs) (e:h'.get? i=some { cls:=.type (itCls tp),data:=.fields #[.ref l,.int 0 0] }) (k:∀ c o,h.get? c=some o→h'.get? c=some o):ItAt tp h' i l 0 xs:=by
  cases tp with
  | false=>exact ⟨⟨_,e,rfl,rfl⟩,g.at fun o x=>k _ o x⟩
  | true=>obtain ⟨o,x,r⟩:=g; exact ⟨⟨_,e,rfl,rfl⟩,⟨o,k _ o x,r⟩⟩
theorem call_zipX {t1 t2:Bool} {l1 l2:Addr} {xs ys:Array Value} {Q:Value→Shared→Prop} (g1:SeqOf t1 s.heap l1 xs) (g2:SeqOf t2 s.heap l2 ys)
    (k:∀ h',IsZip h' (s.heap.objs.size+4) (s.heap.objs.size+2) (s.heap.objs.size+3) .none→IsPair h' (s.heap.objs.size+2) (.ref s.heap.objs.size) (.ref (s.heap.objs.size+1))→IsPair h' (s.heap.objs.size+3) .none .none→ItAt t1 h' s.heap.objs.size l1 0 xs→ItAt t2 h' (s.heap.objs.size+1) l2 0 ys→
      (∀ c o,s.heap.get? c=some o→h'.get? c=some o)→Q (.ref (s.heap.objs.size+4)) { s with heap:=h' }):wpAny (model prog w) A (call (.type "zip") [.ref l1,.ref l2]) Q E s:=by
  refine callType_new F.called_zip (by decide) (F.typeCall_zip_2 _ _) (F.newCall_zip_2 _ _) (fun obj=>F.args_object_init_3 obj _ _) F.entry_zip_new (meets_zipX t1 t2 l1 l2 xs ys) ⟨g1,g2,?_⟩
  have z1:(zP s.heap t1 l1).objs.size=s.heap.objs.size+1:=Heap.size_push ..
  have z2:(zP (zP s.heap t1 l1) t2 l2).objs.size=s.heap.objs.size+2:=by rw [Heap.size_push,z1]
  have z3:(zQ s.heap t1 t2 l1 l2).objs.size=s.heap.objs.size+3:=by rw [Heap.size_push,z2]
  have z4:(zR s.heap t1 t2 l1 l2).objs.size=s.heap.objs.size+4:=by rw [Heap.size_push,z3]
  have e5:(zS s.heap t1 t2 l1 l2).get? (zR s.heap t1 t2 l1 l2).objs.size=some _:=Heap.get?_push_size _ rfl
  have e4:(zS s.heap t1 t2 l1 l2).get? (zQ s.heap t1 t2 l1 l2).objs.size=some _:=Heap.get?_push_of_some _ (Heap.get?_push_size _ rfl)
  have e3:(zS s.heap t1 t2 l1 l2).get? (zP (zP s.heap t1 l1) t2 l2).objs.size=some _:=Heap.get?_push_of_some _ (Heap.get?_push_of_some _ (Heap.get?_push_size _ rfl))
  have e2:(zS s.heap t1 t2 l1 l2).get? (zP s.heap t1 l1).objs.size=some _:=Heap.get?_push_of_some _ (Heap.get?_push_of_some _ (Heap.get?_push_of_some _ (Heap.get?_push_size _ rfl)))
  have e1:(zS s.heap t1 t2 l1 l2).get? s.heap.objs.size=some _:=Heap.get?_push_of_some _ (Heap.get?_push_of_some _ (Heap.get?_push_of_some _ (Heap.get?_push_of_some _ (Heap.get?_push_size _ rfl))))
  show _∧_
  rw [z2,z3,z4] at e5; rw [z1,z2] at e3; rw [z3] at e4; rw [z1] at e2; rw [z4]
  have up:∀ c o,s.heap.get? c=some o→(zS s.heap t1 t2 l1 l2).get? c=some o:=fun c o x=>Heap.get?_push_of_some _ (Heap.get?_push_of_some _ (Heap.get?_push_of_some _ (Heap.get?_push_of_some _ (Heap.get?_push_of_some _ x))))
  exact ⟨⟨_,e5,rfl⟩,k _ e5 e3 e4 (itAt_new g1 e1 up) (itAt_new g2 e2 up) up⟩
end
end L2
namespace L2
open PySem PySem.Spec PyProof.Rows
def SqX (tp:Bool) (K:PySem.W.Frag) (H:Hp) (a:Addr) (xs:List V):Prop:=match tp with
  | false=>SqL K H a xs
  | true=>SqT K H a xs
theorem Inv.seqX {X:Cx} {pins:List (Addr×Obj)} {σ:St} {H:Hp} {s:Shared} {tp:Bool} {a:Addr} {xs:List V} (I:Inv X pins σ H s) (h:SqX tp X.K H a xs):∃ its:List Value,Vals xs its∧SeqOf tp s.heap a its.toArray:=by
  cases tp with
  | false=>obtain ⟨its,r,p,_⟩:=I.list h; exact ⟨its,r,p.isList⟩
  | true=>obtain ⟨its,r,p,_⟩:=I.tuple h; exact ⟨its,r,IsTup.tup p⟩
def IteZ (K:PySem.W.Frag) (t1 t2:Bool) (a b:Addr):It :=
  ⟨fun i H=>∃ xs ys x y,SqX t1 K H a xs∧SqX t2 K H b ys∧xs[i]?=some x∧ys[i]?=some y,
   fun i H v H'=>∃ T x y,H T=none∧H'=upd H T (.tup [x,y])∧v=.ref T∧∀ xs ys,SqX t1 K H a xs→SqX t2 K H b ys→xs[i]?=some x∧ys[i]?=some y,
   fun i H=>∃ xs ys,SqX t1 K H a xs∧SqX t2 K H b ys∧(xs[i]?=none∨ys[i]?=none)⟩
def IterAt (tp:Bool) (h:Heap) (i l:Addr) (k:Nat):Prop:=match tp with
  | false=>h.IsListIter i l k
  | true=>h.IsTupleIter i l k
theorem IterAt.it {tp:Bool} {h:Heap} {i l:Addr} {k:Nat} {xs:Array Value} (a:IterAt tp h i l k) (b:SeqOf tp h l xs):ItAt tp h i l k xs:=by
  cases tp with
  | false=>exact ⟨a,b⟩
  | true=>exact ⟨a,b⟩
theorem ItAt.iter {tp:Bool} {h:Heap} {i l:Addr} {k:Nat} {xs:Array Value} (a:ItAt tp h i l k xs):IterAt tp h i l k:=by
  cases tp with
  | false=>exact a.1
  | true=>exact a.1
theorem IterAt.at {tp:Bool} {h h':Heap} {i l:Addr} {k:Nat} (a:IterAt tp h i l k) (k1:∀ o,h.get? i=some o→h'.get? i=some o):IterAt tp h' i l k:=by
  cases tp with
  | false=>obtain ⟨o,e,r⟩:=a; exact ⟨o,k1 o e,r⟩
  | true=>obtain ⟨o,e,r⟩:=a; exact ⟨o,k1 o e,r⟩
theorem IterAt.obj {tp:Bool} {h:Heap} {i l:Addr} {k:Nat} (a:IterAt tp h i l k):∃ o,h.get? i=some o∧∀ v,o.data≠.cell v:=by
  cases tp with
  | false=>obtain ⟨o,e,_,d⟩:=a; exact ⟨o,e,fun v q=>by rw [d] at q; cases q⟩
  | true=>obtain ⟨o,e,_,d⟩:=a; exact ⟨o,e,fun v q=>by rw [d] at q; cases q⟩
theorem sqX_inj {X:Cx} {pins:List (Addr×Obj)} {σ:St} {H:Hp} {s:Shared} {tp:Bool} {a:Addr} {xs ys:List V} (I:Inv X pins σ H s) (h1:SqX tp X.K H a xs) (h2:SqX tp X.K H a ys):xs=ys:=by
  cases tp with
  | false=>exact I.list_inj h1 h2
  | true=>exact I.tuple_inj h1 h2
section
variable {X:Cx}
def iZip (K:PySem.W.Frag) (t1 t2:Bool) (ta:TA):TI:=fun σ H R=>ta σ H fun vs H1=>∃ a b,vs=[.ref a,.ref b]∧(∃ xs,SqX t1 K H1 a xs)∧(∃ ys,SqX t2 K H1 b ys)∧R (IteZ K t1 t2 a b) H1
end
end L2
namespace L2
open PySem PySem.Spec PyProof.Rows
def tJoin (t u:TS):TS:=fun D σ H=>∃ Pv:St→Hp→Prop,t { D with nx:=Pv } σ H∧∀ σ' H',Pv σ' H'→u D σ' H'
theorem pss_join {X:Cx} {st:Stmt} {rest:List Stmt} {t u:TS} (h1:PS X st t) (h2:PSs X rest u):PSs X (st::rest) (tJoin t u):=by
  intro pins s σ H D I ⟨Pv,h,k⟩
  refine wpAny_execs_cons (thn (h1 pins s σ H { D with nx:=Pv } I h) fun f s1 q=>?_)
  cases f with
  | next=>obtain ⟨σ',H',I',q⟩:=q; exact h2 pins s1 σ' H' D I' (k σ' H' q)
  | ret v=>exact q
  | brk=>exact q
  | cont=>exact q
section
variable {X:Cx}
end
end L2
namespace HT
open PySem PySem.Spec PyProof PyProof.Rows
section
variable {prog:Program} {w:World} {A:Around} {E:Value→Shared→Prop} {s:Shared}
theorem getItem_tuple_whole {t sl:Addr} {items:Array Value} {vl vu:Value} {lo hi:Option Int} {Q:Value→Shared→Prop} (ht:IsTup s.heap t items) (hs:s.heap.IsSliceOf sl vl vu .none) (pl:IsPart vl lo) (pu:IsPart vu hi)
    (hw:sIx items.size 0 lo=0∧sIx items.size items.size hi=items.size) (h:Q (.ref t) s):wpAny (model prog w) A (getItem (.ref t) (.ref sl)) Q E s:=by
  obtain ⟨os,hos,hcs,hds⟩:=id hs
  have hTs:s.TypeIs (.ref sl) "slice":=⟨os,hos,hcs⟩
  unfold getItem
  try with_reducible refine wpAny_holding ?_
  first | refine wpAny_bind (wpAny_pure ?_) | skip
  refine wpAny_bind (wpAny_sequenceKey ht.typeIs (by decide) ?_)
  refine wpAny_bind (wpAny_callSpecial?_slot (name:=Str.ofString "__getitem__") ht.typeIs PyProof.Rows.slot_tuple_getitem
    (wpAny_call_entry PyProof.Rows.slot_tuple_getitem ht.typeIs entry_tuple_getitem ?_ (args_tuple_getitem _ _)))
  show wpAny _ _ (Builtin.Tuple.tupleItemsOf (.ref t) >>= _) _ _ s
  refine wpAny_bind (tupleItemsOf_ ht ?_)
  refine wpAny_bind (wpAny_typeOf hTs ?_)
  rw [if_pos (by decide)]
  refine wpAny_bind (sliceApplied_gen hs pl pu ?_)
  have hyes:(((sIx items.size 0 lo:Nat):Int) == 0 && (1:Int) == 1 && (sIx items.size items.size hi - sIx items.size 0 lo) == items.size)=true:=by
    rw [hw.1,hw.2]
    simp
  show wpAny _ _ (if (((sIx items.size 0 lo:Nat):Int) == 0 && (1:Int) == 1 && (sIx items.size items.size hi - sIx items.size 0 lo) == items.size)=true then _ else _) _ _ s
  rw [if_pos hyes]
  unfold Builtin.Tuple.tupleIsExact
  refine wpAny_bind (wpAny_bind (wpAny_typeOf ht.typeIs (wpAny_pure ?_)))
  rw [if_pos (by decide)]
  exact wpAny_bind (wpAny_rule (wpAny_pure ⟨_,rfl,wpAny_pure h⟩))
end
end HT
namespace L2
open PySem PySem.Spec PyProof.Rows
section
variable {X:Cx}
def rSlTS:V→Option Int→Option Int→Hp→VK→Prop:=fun x lo hi H Q=>∃ a xs,x=.ref a∧H a=some (.tup xs)∧∀ p H',Same H H'→H' p=some (.tup (cutV xs lo hi))→Q (.ref p) H'
theorem cutV_whole {xs:List V} {lo hi:Option Int} (h:HT.sIx xs.length 0 lo=0∧HT.sIx xs.length xs.length hi=xs.length):cutV xs lo hi=xs:=by
  unfold cutV
  rw [h.1,h.2,List.drop_zero,Nat.sub_zero,List.take_length]
theorem sl_tupS:SlR X rSlTS:=by
  intro pins s σ H x v vl vu lo hi sl Q I rx hs pl pu h
  obtain ⟨a,xs,rfl,ha,q⟩:=h
  by_cases hw:HT.sIx xs.length 0 lo=0∧HT.sIx xs.length xs.length hi=xs.length
  · cases rx
    obtain ⟨its,r,ht,hz⟩:=I.tuple (SqT.of (K:=X.K) ha)
    have hlen:its.toArray.size=xs.length:=by rw [List.size_toArray]; exact r.length.symm
    refine ⟨"tuple",_,PyProof.Rows.slot_tuple_getitem.lookup,ht.typeIs,?_⟩
    exact HT.getItem_tuple_whole ht hs pl pu (by rw [hlen]; exact hw) ⟨.ref a,H,I,rfl,q a H (Same.refl H) (by rw [cutV_whole hw]; exact ha)⟩
  · exact sl_tup pins s σ H _ v vl vu lo hi sl Q I rx hs pl pu ⟨a,xs,rfl,SqT.of ha,hw,fun p hp=>q p _ (same_new hp _) upd_same⟩
def rCatS:R2:=fun x y H Q=>∃ a b xs ys,x=.ref a∧y=.ref b∧H a=some (.tup xs)∧H b=some (.tup ys)∧xs≠[]∧xs.length+ys.length≤sizeLine∧∀ p H',Same H H'→H' p=some (.tup (xs++ys))→Q (.ref p) H'
theorem op_catS:OpR X (binaryOp .Add) rCatS:=by
  intro pins s σ H x y v u Q I rx ry h
  obtain ⟨a,b,xs,ys,rfl,rfl,ha,hb,hx,hz,q⟩:=h
  exact op_catT pins s σ H _ _ v u Q I rx ry ⟨a,b,xs,ys,rfl,rfl,SqT.of ha,SqT.of hb,hx,hz,fun e=>q a H (Same.refl H) (by rw [e,List.append_nil]; exact ha),fun _ p hp=>q p _ (same_new hp _) upd_same⟩
def tJoinT (t:TT):TT:=fun σ H Q=>∃ R:Bool→Hp→Prop,t σ H R∧∀ b H',R b H'→Q b H'
theorem len1 {α:Type} {l:List α} (h:l.length=1):∃ a,l=[a]:=by
  match l,h with
  | [a],_=>exact ⟨a,rfl⟩
theorem len2 {α:Type} {l:List α} (h:l.length=2):∃ a b,l=[a,b]:=by
  match l,h with
  | [a,b],_=>exact ⟨a,b,rfl⟩
theorem len3 {α:Type} {l:List α} (h:l.length=3):∃ a b c,l=[a,b,c]:=by
  match l,h with
  | [a,b,c],_=>exact ⟨a,b,c,rfl⟩
theorem len4 {α:Type} {l:List α} (h:l.length=4):∃ a b c d,l=[a,b,c,d]:=by
  match l,h with
  | [a,b,c,d],_=>exact ⟨a,b,c,d,rfl⟩
end
end L2
namespace L2
open PySem PySem.Spec PyProof.Rows PySem.W Builtin Builtin.ObjectAttr
def underVE:List Value→Bool
  | .ref _::r=>underVE r
  | l=>l == [.type "ValueError",.type "Exception",.type "BaseException",.type "object"]
def overX (K:Frag) (C:Addr):Bool:=(clsIn K C).any fun cd=>underVE cd.mro
section
variable {prog:Program} {w:World} {A:Around} {s:Shared} {K:Frag} {x C:Addr} {R:Result→Shared→Prop}
end
end L2
namespace L2
open PySem PySem.Spec PyProof.Rows
section
variable {prog:Program} {w:World} {A:Around} {E:Value→Shared→Prop} {s:Shared} {K:PySem.W.Frag} {x C:Addr} {name:Str} {v:Value}
end
end L2
namespace L2
open PySem PySem.Spec PyProof.Rows
def excInF (K:PySem.W.Frag) (C f:Addr):Bool :=
  match K.lookup C with
  | some ⟨.type "type",_,.cls cd,sl⟩ =>
    match cd.mro,sl.toList with
    | .ref C'::bm,[_,_,_,_,some (.builtin n),_]=>((C' == C && n == "ValueError.__new__") && (!cd.hasDel && PySem.W.tailIn K VE bm)) && (PySem.W.nsOkIn K cd.ns && PySem.W.nsIn K cd.ns "__init__" == some (some (.ref f)))
    | _,_=>false
  | _=>false
section
variable {prog:Program} {w:World} {A:Around} {h:Heap} {g:Array GenState} {d:Drawn} {t:Nat} {os:OsState} {R:Result→Shared→Prop}
variable {nm q:Str} {C N:Addr} {bs bm:List Value} {hdct:Bool} {sn:List Str} {sub:List Value} {ab:Bool} {col:Option Bool} {dd:Option Addr} {k0 k1 k2 k3 k5:Option Value}
end
end L2
namespace L2
open PySem PySem.Spec PyProof.Rows
def ExN (a C:Addr) (d:Option Addr):HO:=.ext fun h=>∃ vs sl,h.get? a=some ⟨.ref C,d,.fields vs,sl⟩∧vs[1]?=some .none
structure XSet (K:PySem.W.Frag) (C:Addr) (f:Str):Prop where
  sa:PySem.W.findIn K (.ref C) "__setattr__"=some (some (.builtin "object.__setattr__"))
  po:overX K C=true
  tk:PySem.W.takerIn K C f=some none
  hd:PySem.W.hasDictIn K C=true
structure MkX (K:PySem.W.Frag) (C f:Addr):Prop where
  ex:excInF K C f=true
  fn:PySem.W.isFn K (.ref f)=true
  kp:PySem.W.keepIn K (.ref C)=true
section
variable {X:Cx} {pins:List (Addr×Obj)} {σ:St} {H:Hp} {s:Shared} {A:Around} {E:Value→Shared→Prop}
def sXFld (K:PySem.W.Frag) (ta tv:TE) (f:Str):TS:=fun D σ H=>tv σ H fun y H1=>ta σ H1 fun x H2=>∃ a C,x=.ref a∧H2 a=some (ExN a C none)∧XSet K C f∧∀ dx,H2 dx=none→dx≠a→D.nx σ (upd (upd H2 dx (.xd [(f,y)])) a (ExN a C (some dx)))
def tXMake (C:Addr) (sp:Sp) (E:XK) (t:TA):TE:=fun σ H Q=>t σ H fun vs H1=>vs.length≤sizeLine∧∀ x,H1 x=none→sp (.ref x::vs) (upd H1 x (ExN x C none)) (fun v H2=>v=.non∧Q (.ref x) H2) E
section
variable {CX:CXT} {k:Nat} {f C:Addr} {fd:FuncData} {ps:List Str} {sp:Sp} {E:XK} {x:Str} {p pos:Pos} {e:Expr} {es:List Expr} {t:TA}
end
end
end L2
namespace L2
open PySem PySem.Spec PyProof.Rows
def drop (H:Hp) (x:Addr):Hp:=fun b=>if b=x then none else H b
section
variable {M:Model} {A:Around} {E:Value→Shared→Prop} {env:Env} {nm q:Str} {C N:Addr} {bs bm:List Value} {hdct:Bool} {sn:List Str} {sub:List Value} {ab:Bool} {col:Option Bool} {dd:Option Addr} {k0 k1 k2 k3 k5:Option Value} {newId:String}
end
def StartsD (X:Cx) (E:XK):Prop:=∀ (pins:List (Addr×Obj)) (σ:St) (H:Hp) (s:Shared) (x C:Addr) (d:Option Addr),Inv X pins σ H s→H x=some (ExN x C d)→X.H₀ x=none→E (.ref C) d (drop H x)→X.xe (.ref x) s
def tRaiseV (X:Cx) (E:XK) (C:Addr) (te:TE):TS:=fun _ σ H=>te σ H fun v H1=>∃ a d,v=.ref a∧H1 a=some (ExN a C d)∧X.H₀ a=none∧E (.ref C) d (drop H1 a)
section
variable {P:Program} {w:World} {K:PySem.W.Frag} {mg:Str→Option Value} {base:Heap} {N:List Str} {qual:Str} {scope:Scope} {f:Addr} {cd:Value} {A:Around} {outer:List Env} {s₀:Shared} {H₀:Hp} {E:XK}
end
end L2
namespace L2
open PySem PySem.Spec PyProof.Rows
def tXGet (K:PySem.W.Frag) (ta:TE) (f:Str):TE:=fun σ H Q=>ta σ H fun x H1=>∃ a C dx fs l,x=.ref a∧H1 a=some (ExO a C (some dx))∧H1 dx=some (.xd fs)∧XCls K C∧PySem.W.findIn K (.ref C) f=some none∧fs.lookup f=some (.ref l)∧Q (.ref l) H1
end L2
namespace L2
open PySem PySem.Spec PyProof.Rows
theorem vals_strs:∀ {ss:List Str} {us:List Value},Vals (ss.map V.str) us→∃ l:List (Str×Tok),us=strValues l∧l.map (·.1)=ss
  | [],_,.nil=>⟨[],rfl,rfl⟩
  | x::ss,_,.cons r q=>by
    obtain ⟨l,rfl,e⟩:=vals_strs q
    obtain ⟨t,rfl⟩:=r
    exact ⟨(x,t)::l,rfl,by rw [List.map_cons,e]⟩
def rJoin:V→List V→Hp→VK→Prop:=fun x vs H Q=>∃ sep l ss,x=.str sep∧vs=[.ref l]∧H l=some (.lst (ss.map V.str))∧JoinOk sep ss=true∧Q (.str (Txt.join sep ss)) H
section
variable {X:Cx}
theorem mt_join:MtM X "str.join" rJoin:=by
  intro pins s σ H x vs v us Q I rx rv h
  obtain ⟨sep,l,ss,rfl,rfl,hH,hok,q⟩:=h
  obtain ⟨t,rfl⟩:=rx
  obtain ⟨u,rfl,ru⟩:=rv.one
  cases ru
  obtain ⟨z,its,n,r,hl,e⟩:=I.lstM hH
  obtain ⟨L,rfl,hL⟩:=vals_strs r
  refine SC.join (l:=L) ⟨_,e,rfl,n,rfl⟩ hL hok fun t' k=>?_
  exact ⟨.str _,_,I.tok k,⟨t',rfl⟩,q⟩
end
def tXGetV (K:PySem.W.Frag) (ta:TE) (f:Str):TE:=fun σ H Q=>ta σ H fun x H1=>∃ a C dx fs v,x=.ref a∧H1 a=some (ExO a C (some dx))∧H1 dx=some (.xd fs)∧XCls K C∧PySem.W.findIn K (.ref C) f=some none∧fs.lookup f=some v∧Q v H1
end L2
namespace L2
open PySem PySem.Spec PyProof.Rows
section
variable {X:Cx}
def rCatA:R2:=fun x y H Q=>∃ a b xs ys,x=.ref a∧y=.ref b∧H a=some (.tup xs)∧H b=some (.tup ys)∧xs.length+ys.length≤sizeLine∧∀ p H',Same H H'→H' p=some (.tup (xs++ys))→Q (.ref p) H'
theorem op_catA:OpR X (binaryOp .Add) rCatA:=by
  intro pins s σ H x y v u Q I rx ry h
  obtain ⟨a,b,xs,ys,rfl,rfl,ha,hb,hz,q⟩:=h
  by_cases hx:xs=[]
  · subst hx
    cases rx
    cases ry
    obtain ⟨its,r1,p1,_⟩:=I.tuple (SqT.of (K:=X.K) ha)
    obtain ⟨its2,r2,p2,_⟩:=I.tuple (SqT.of (K:=X.K) hb)
    cases r1
    obtain ⟨⟨cls,dd,data,sl⟩,ho,hc,n,hd⟩:=id p1
    obtain ⟨⟨cls2,dd2,data2,sl2⟩,ho2,hc2,n2,hd2⟩:=id p2
    simp only at hc hd hc2 hd2
    subst hc hd hc2 hd2
    exact concat_meets ⟨_,ho,rfl⟩ ⟨_,ho2,rfl⟩ noFill_tuple_add seq_tuple_add PySem.F.slot_tuple_add PySem.F.entry_tuple_add (PySem.F.args_tuple_add_2 _ _)
      (tuple_addW0 a b _ _ n n2 dd dd2 sl sl2 rfl) ⟨ho,ho2,⟨.ref b,H,I,rfl,q b H (Same.refl H) hb⟩⟩
  · exact op_catS pins s σ H _ _ v u Q I rx ry ⟨a,b,xs,ys,rfl,rfl,ha,hb,hx,hz,q⟩
end
end L2
namespace L2
open PySem PySem.Spec PyProof.Rows
section
variable {X:Cx}
def rRepT:R2:=fun x y H Q=>∃ (a:Addr) (xs:List V) (k:Nat),x=.ref a∧y=.int k∧H a=some (.tup xs)∧xs≠[]∧2≤k∧xs.length * k≤1000∧∀ p,H p=none→Q (.ref p) (upd H p (.tup (List.replicate k xs).flatten))
end
end L2
namespace L2
open PySem PySem.Spec PyProof.Rows
def rIndexS:V→List V→Hp→VK→Prop:=fun x vs H Q=>∃ (l:Addr) (z:Str) (zs:List Str) (j:Nat),x=.ref l∧vs=[.str z]∧H l=some (.lst (zs.map V.str))∧zs.length≤1000∧zs[j]?=some z∧(∀ i,i<j→zs[i]?≠some z)∧Q (.int j) H
def isStrV (z:Str):Value→Bool
  | .str x _=>x.cps.toList == z.cps.toList
  | _=>false
section
variable {X:Cx}
end
end L2
namespace L2
open PySem PySem.Spec PyProof.Rows
section
variable {X:Cx} {K:PySem.W.Frag} {o e:Expr} {es:List Expr} {to:TE} {t:TA} {name:Str} {apos cpos:Pos} {T id:String} {r:V→List V→Hp→VK→Prop}
end
end L2
namespace L2
open PySem PySem.Spec PyProof.Rows
@[reducible] def IsZipG (h:Heap) (z TI TO:Addr) (m:Value) (f:Bool):Prop:=h.get? z=some { cls:=.type "zip",data:=.fields #[m,.bool f,.bool false,.ref TI,.ref TO] }
inductive Mark:Value→Prop where
  | none:Mark .none
  | at (a:Int):Mark (rawInt a)
section
variable {prog:Program} {w:World} {A:Around} {E:Value→Shared→Prop} {s:Shared}
theorem wpAny_loadAlive {M:Model} {a:Addr} {Q:Option Obj→Shared→Prop} (h:Q (s.heap.get? a) s):wpAny M A (loadIfAlive a) Q E s:=fun Γ p _=>by
  show Sem.wp M Γ (Sem.loadIfAlive a Sem.pure) _ _ p s
  rw [Sem.wp_loadIfAlive]
  exact (wpAny_pure (M:=M) (A:=A) (E:=E) (Q:=Q) h) Γ p ‹_›
theorem ownedFree {z TI TO:Addr} {m:Value} {f:Bool} {Q:Bool→Shared→Prop} (gz:IsZipG s.heap z TI TO m f) (hm:Mark m) (d:∀ (b:Bool) (h':Heap) (f':Bool),IsZipG h' z TI TO m f'→Heap.SameBut z s.heap h'→Q b { s with heap:=h' }):wpAny (model prog w) A (Builtin.SmallTypes.ownedTupleIsFree (.ref z)) Q E s:=by
  have same:Heap.SameBut z s.heap s.heap:=⟨rfl,fun _ _=>rfl⟩
  unfold Builtin.SmallTypes.ownedTupleIsFree
  refine wpAny_bind (wpAny_field gz rfl (x:=m) rfl ?_)
  cases hm with
  | none=>exact wpAny_pure (d true s.heap f gz same)
  | «at» a =>
    refine wpAny_bind (wpAny_loadAlive ?_)
    cases s.heap.get? a.toNat with
    | none=>exact wpAny_pure (d true s.heap f gz same)
    | some o =>
      refine wpAny_bind (wpAny_field gz rfl (x:=.bool f) rfl ?_)
      cases f with
      | true=>exact wpAny_pure (d false s.heap true gz same)
      | false =>
        refine wpAny_bind (wpAny_setField_rec gz (by simp) fun u1 gz1 s1=>wpAny_pure (d false u1 true gz1 s1))
theorem zipG_item {t1 t2:Bool} {z TI TO i1 i2 l1 l2:Addr} {k1 k2:Nat} {xs ys:Array Value} {x y a b m:Value} {f:Bool} {Q:Value→Shared→Prop} (D:ZipApart z TI TO i1 i2 l1 l2) (gz:IsZipG s.heap z TI TO m f) (hm:Mark m) (gI:IsPair s.heap TI (.ref i1) (.ref i2)) (gO:IsPair s.heap TO a b)
    (g1:ItAt t1 s.heap i1 l1 k1 xs) (g2:ItAt t2 s.heap i2 l2 k2 ys) (hx:xs[k1]?=some x) (hy:ys[k2]?=some y) (d:∀ h' m' f',IsZipG h' z TI TO m' f'→Mark m'→(∃ a b,IsPair h' TO a b)→ItAt t1 h' i1 l1 (k1+1) xs→ItAt t2 h' i2 l2 (k2+1) ys→IsPair h' s.heap.objs.size x y→h'.objs.size=s.heap.objs.size+1→
      (∀ c o,c≠z→c≠TO→c≠i1→c≠i2→s.heap.get? c=some o→h'.get? c=some o)→Q (.ref s.heap.objs.size) { s with heap:=h' }):wpAny (model prog w) A (Builtin.«zip.__next__» ⟨[.ref z],[]⟩) (fun fin s'=>∃ v,fin=.done (.ret v)∧Q v s') E s:=by
  show wpAny _ _ (field (.ref z) 2 >>= _) _ _ _; refine wpAny_bind (wpAny_field gz rfl (x:=.bool false) rfl ?_)
  show wpAny _ _ (field (.ref z) 3 >>= _) _ _ _; refine wpAny_bind (wpAny_field gz rfl (x:=.ref TI) rfl ?_)
  refine wpAny_bind (wpAny_seqItems gI rfl ?_)
  show wpAny _ _ (Builtin.SmallTypes.ownedTupleIsFree (.ref z) >>= _) _ _ _
  refine wpAny_bind (ownedFree gz hm fun fr u0 f0 gz0 s0=>?_)
  replace g1:ItAt t1 u0 i1 l1 k1 xs:=g1.ext s0.extBut D.i1z D.l1z
  replace g2:ItAt t2 u0 i2 l2 k2 ys:=g2.ext s0.extBut D.i2z D.l2z
  have gO0:IsPair u0 TO a b:=s0.extBut _ _ D.TOz gO
  cases fr with
  | true =>
    simp only [if_true]
    refine wpAny_bind (wpAny_rule ?_); refine wpAny_bind (wpAny_field gz0 rfl (x:=.ref TO) rfl ?_)
    refine wpAny_bind (wpAny_setField_rec gz0 (by simp) fun u1 gz1 s1=>?_); replace gz1:IsZipG u1 z TI TO .ellipsis f0:=gz1
    refine wpAny_bind ?_; simp only [List.zipIdx_cons,List.zipIdx_nil,List.forIn_cons,List.forIn_nil]
    refine wpAny_bind (wpAny_bind (wpAny_onRaise ?_)); show wpAny _ _ (Builtin.SmallTypes.nextOf (.ref i1) >>= _) _ _ _
    refine wpAny_bind ((g1.ext s1.extBut D.i1z D.l1z).nx D.l1i1 hx fun u2 g12 s2=>wpAny_pure ?_)
    have gO2:IsPair u2 TO a b:=s2.extBut _ _ D.TOi1 (s1.extBut _ _ D.TOz gO0)
    refine wpAny_bind (wpAny_seqItems gO2 rfl ?_); refine wpAny_bind (wpAny_updateSeq_pair gO2 fun u3 gO3 s3=>?_); replace gO3:IsPair u3 TO x b:=gO3
    refine wpAny_bind (wpAny_letGo (wpAny_pure ?_))
    refine wpAny_bind (wpAny_bind (wpAny_onRaise ?_)); show wpAny _ _ (Builtin.SmallTypes.nextOf (.ref i2) >>= _) _ _ _
    refine wpAny_bind ((((g2.ext s1.extBut D.i2z D.l2z).ext s2.extBut D.i12.symm D.l2i1).ext s3.extBut D.TOi2.symm D.l2TO).nx D.l2i2 hy fun u4 g24 s4=>wpAny_pure ?_)
    have gO4:IsPair u4 TO x b:=s4.extBut _ _ D.TOi2 gO3
    refine wpAny_bind (wpAny_seqItems gO4 rfl ?_); refine wpAny_bind (wpAny_updateSeq_pair gO4 fun u5 gO5 s5=>?_); replace gO5:IsPair u5 TO x y:=gO5
    refine wpAny_bind (wpAny_letGo (wpAny_pure (wpAny_pure ?_))); refine wpAny_bind (wpAny_seqItems gO5 rfl ?_); refine wpAny_bind (wpAny_newTuple ?_)
    have hsz:u5.objs.size=s.heap.objs.size:=by rw [s5.1,s4.1,s3.1,s2.1,s1.1,s0.1]
    have gz5:IsZipG u5 z TI TO .ellipsis f0:=s5.extBut _ _ D.TOz.symm (s4.extBut _ _ D.i2z.symm (s3.extBut _ _ D.TOz.symm (s2.extBut _ _ D.i1z.symm gz1)))
    have k5:∀ c o,c≠z→c≠TO→c≠i1→c≠i2→s.heap.get? c=some o→u5.get? c=some o:=fun c o c1 c2 c3 c4 e=>s5.extBut _ _ c2 (s4.extBut _ _ c4 (s3.extBut _ _ c2 (s2.extBut _ _ c3 (s1.extBut _ _ c1 (s0.extBut _ _ c1 e)))))
    have g15:ItAt t1 u5 i1 l1 (k1+1) xs:=((g12.ext s3.extBut D.TOi1.symm D.l1TO).ext s4.extBut D.i12 D.l1i2).ext s5.extBut D.TOi1.symm D.l1TO
    have g25:ItAt t2 u5 i2 l2 (k2+1) ys:=g24.ext s5.extBut D.TOi2.symm D.l2TO
    have zlt:z<u5.objs.size:=Heap.lt_size gz5
    show wpAny _ _ (Builtin.SmallTypes.ownedTupleHandOut (.ref z) (.ref u5.objs.size) >>= _) _ _ _; refine wpAny_bind ?_; unfold Builtin.SmallTypes.ownedTupleHandOut
    have gz6:IsZipG (u5.push { cls:=.type "tuple",data:=.seq #[x,y] }) z TI TO .ellipsis f0:=Heap.get?_push_of_some _ gz5
    refine wpAny_bind (wpAny_setField_rec gz6 (by simp) fun u7 gz7 s7=>?_); replace gz7:IsZipG u7 z TI TO (rawInt u5.objs.size) f0:=gz7
    refine wpAny_setField_rec gz7 (by simp) fun u8 gz8 s8=>?_; replace gz8:IsZipG u8 z TI TO (rawInt u5.objs.size) false:=gz8
    have up:∀ c o,c≠z→u5.get? c=some o→u8.get? c=some o:=fun c o c1 e=>s8.extBut _ _ c1 (s7.extBut _ _ c1 (Heap.get?_push_of_some _ e))
    have gT:IsPair u8 u5.objs.size x y:=s8.extBut _ _ (Nat.ne_of_gt zlt) (s7.extBut _ _ (Nat.ne_of_gt zlt) (Heap.get?_push_size _ rfl))
    have z8:u8.objs.size=u5.objs.size+1:=by rw [s8.1,s7.1,Heap.size_push]
    rw [hsz] at gz8 gT z8
    refine wpAny_pure ⟨_,rfl,?_⟩; show Q (.ref u5.objs.size) _; rw [hsz]
    exact d u8 _ _ gz8 (.at _) ⟨_,_,up _ _ D.TOz gO5⟩ (g15.at (fun o e=>up _ o D.i1z e) fun o e=>up _ o D.l1z e) (g25.at (fun o e=>up _ o D.i2z e) fun o e=>up _ o D.l2z e) gT z8 fun c o c1 c2 c3 c4 e=>up c o c1 (k5 c o c1 c2 c3 c4 e)
  | false =>
    simp only [Bool.false_eq_true,if_false]
    refine wpAny_bind ?_
    simp only [List.forIn_toArray,List.forIn_cons,List.forIn_nil]
    refine wpAny_bind (wpAny_bind (wpAny_holding ?_)); show wpAny _ _ (Builtin.SmallTypes.nextOf (.ref i1) >>= _) _ _ _
    refine wpAny_bind (g1.nx D.l1i1 hx fun u2 g12 s2=>wpAny_pure (wpAny_pure ?_))
    refine wpAny_bind (wpAny_bind (wpAny_holding ?_)); show wpAny _ _ (Builtin.SmallTypes.nextOf (.ref i2) >>= _) _ _ _
    refine wpAny_bind ((g2.ext s2.extBut D.i12.symm D.l2i1).nx D.l2i2 hy fun u4 g24 s4=>wpAny_pure (wpAny_pure (wpAny_pure ?_)))
    refine wpAny_bind (wpAny_newTuple ?_ (show 2≤sizeLine by decide))
    have hsz:u4.objs.size=s.heap.objs.size:=by rw [s4.1,s2.1,s0.1]
    have up:∀ c o,u4.get? c=some o→(u4.push { cls:=.type "tuple",data:=.seq #[x,y] }).get? c=some o:=fun c o e=>Heap.get?_push_of_some _ e
    have g14:ItAt t1 u4 i1 l1 (k1+1) xs:=g12.ext s4.extBut D.i12 D.l1i2
    have gz4:IsZipG u4 z TI TO m f0:=s4.extBut _ _ D.i2z.symm (s2.extBut _ _ D.i1z.symm gz0)
    have gO4:IsPair u4 TO a b:=s4.extBut _ _ D.TOi2 (s2.extBut _ _ D.TOi1 gO0)
    have gT:IsPair (u4.push { cls:=.type "tuple",data:=.seq #[x,y] }) u4.objs.size x y:=Heap.get?_push_size _ rfl
    have z8:(u4.push { cls:=.type "tuple",data:=.seq #[x,y] }).objs.size=u4.objs.size+1:=Heap.size_push ..
    refine wpAny_pure ⟨_,rfl,?_⟩
    show Q (.ref u4.objs.size) _
    rw [hsz] at gT z8 ⊢
    exact d _ m f0 (up _ _ gz4) hm ⟨_,_,up _ _ gO4⟩ (g14.at (fun o e=>up _ o e) fun o e=>up _ o e) (g24.at (fun o e=>up _ o e) fun o e=>up _ o e) gT z8 fun c o c1 c2 c3 c4 e=>up _ _ (s4.extBut _ _ c4 (s2.extBut _ _ c3 (s0.extBut _ _ c1 e)))
theorem zipG_end {t1 t2:Bool} {z TI TO i1 i2 l1 l2:Addr} {k1 k2:Nat} {xs ys:Array Value} {a b m:Value} {f:Bool} {Q:Fin→Shared→Prop} (hh:A.handled=none) (D:ZipApart z TI TO i1 i2 l1 l2) (gz:IsZipG s.heap z TI TO m f) (hm:Mark m) (gI:IsPair s.heap TI (.ref i1) (.ref i2)) (gO:IsPair s.heap TO a b)
    (g1:ItAt t1 s.heap i1 l1 k1 xs) (g2:ItAt t2 s.heap i2 l2 k2 ys) (hend:xs[k1]?=none∨ys[k2]?=none)
    (d:∀ h' e,(∀ c o,c≠z→c≠TO→c≠i1→c≠i2→s.heap.get? c=some o→h'.get? c=some o)→(∃ o,h'.get? e=some o∧o.cls=.type "StopIteration")→E (.ref e) { s with heap:=h' }):wpAny (model prog w) A (Builtin.«zip.__next__» ⟨[.ref z],[]⟩) Q E s:=by
  show wpAny _ _ (field (.ref z) 2 >>= _) _ _ _; refine wpAny_bind (wpAny_field gz rfl (x:=.bool false) rfl ?_)
  show wpAny _ _ (field (.ref z) 3 >>= _) _ _ _; refine wpAny_bind (wpAny_field gz rfl (x:=.ref TI) rfl ?_)
  refine wpAny_bind (wpAny_seqItems gI rfl ?_)
  show wpAny _ _ (Builtin.SmallTypes.ownedTupleIsFree (.ref z) >>= _) _ _ _
  refine wpAny_bind (ownedFree gz hm fun fr u0 f0 gz0 s0=>?_)
  replace g1:ItAt t1 u0 i1 l1 k1 xs:=g1.ext s0.extBut D.i1z D.l1z
  replace g2:ItAt t2 u0 i2 l2 k2 ys:=g2.ext s0.extBut D.i2z D.l2z
  have gO0:IsPair u0 TO a b:=s0.extBut _ _ D.TOz gO
  cases fr with
  | true =>
    simp only [if_true]
    refine wpAny_bind (wpAny_rule ?_); refine wpAny_bind (wpAny_field gz0 rfl (x:=.ref TO) rfl ?_)
    refine wpAny_bind (wpAny_setField_rec gz0 (by simp) fun u1 gz1 s1=>?_); replace gz1:IsZipG u1 z TI TO .ellipsis f0:=gz1
    refine wpAny_bind ?_; simp only [List.zipIdx_cons,List.zipIdx_nil,List.forIn_cons,List.forIn_nil]
    refine wpAny_bind (wpAny_bind (wpAny_onRaise ?_)); show wpAny _ _ (Builtin.SmallTypes.nextOf (.ref i1) >>= _) _ _ _
    cases hx:xs[k1]? with
    | none =>
      refine wpAny_bind ((g1.ext s1.extBut D.i1z D.l1z).nxE hh hx fun u2 e s2 he=>?_)
      obtain ⟨oe,hoe,hce⟩:=he
      have gz2:IsZipG u2 z TI TO .ellipsis f0:=s2 _ _ D.i1z.symm gz1
      have hez:e≠z:=fun x=>by subst x; rw [gz2] at hoe; cases hoe; simp at hce
      refine wpAny_setField_rec gz2 (by simp) fun u3 _ s3=>d u3 e (fun c o c1 _ c3 _ x=>s3.extBut _ _ c1 (s2 _ _ c3 (s1.extBut _ _ c1 (s0.extBut _ _ c1 x)))) ⟨oe,s3.extBut _ _ hez hoe,hce⟩
    | some x =>
      have hy:ys[k2]?=none:=by rcases hend with h | h; rw [hx] at h; cases h; exact h
      refine wpAny_bind ((g1.ext s1.extBut D.i1z D.l1z).nx D.l1i1 hx fun u2 g12 s2=>wpAny_pure ?_)
      have gO2:IsPair u2 TO a b:=s2.extBut _ _ D.TOi1 (s1.extBut _ _ D.TOz gO0)
      refine wpAny_bind (wpAny_seqItems gO2 rfl ?_); refine wpAny_bind (wpAny_updateSeq_pair gO2 fun u3 gO3 s3=>?_)
      refine wpAny_bind (wpAny_letGo (wpAny_pure ?_)); refine wpAny_bind (wpAny_bind (wpAny_onRaise ?_)); show wpAny _ _ (Builtin.SmallTypes.nextOf (.ref i2) >>= _) _ _ _
      refine wpAny_bind ((((g2.ext s1.extBut D.i2z D.l2z).ext s2.extBut D.i12.symm D.l2i1).ext s3.extBut D.TOi2.symm D.l2TO).nxE hh hy fun u4 e s4 he=>?_)
      obtain ⟨oe,hoe,hce⟩:=he
      have gz4:IsZipG u4 z TI TO .ellipsis f0:=s4 _ _ D.i2z.symm (s3.extBut _ _ D.TOz.symm (s2.extBut _ _ D.i1z.symm gz1))
      have hez:e≠z:=fun x=>by subst x; rw [gz4] at hoe; cases hoe; simp at hce
      refine wpAny_setField_rec gz4 (by simp) fun u5 _ s5=>d u5 e (fun c o c1 c2 c3 c4 x=>s5.extBut _ _ c1 (s4 _ _ c4 (s3.extBut _ _ c2 (s2.extBut _ _ c3 (s1.extBut _ _ c1 (s0.extBut _ _ c1 x)))))) ⟨oe,s5.extBut _ _ hez hoe,hce⟩
  | false =>
    simp only [Bool.false_eq_true,if_false]
    refine wpAny_bind ?_
    simp only [List.forIn_toArray,List.forIn_cons,List.forIn_nil]
    refine wpAny_bind (wpAny_bind (wpAny_holding ?_)); show wpAny _ _ (Builtin.SmallTypes.nextOf (.ref i1) >>= _) _ _ _
    cases hx:xs[k1]? with
    | none=>exact wpAny_bind (g1.nxE hh hx fun u2 e s2 he=>d u2 e (fun c o c1 _ c3 _ x=>s2 _ _ c3 (s0.extBut _ _ c1 x)) he)
    | some x =>
      have hy:ys[k2]?=none:=by rcases hend with h | h; rw [hx] at h; cases h; exact h
      refine wpAny_bind (g1.nx D.l1i1 hx fun u2 g12 s2=>wpAny_pure (wpAny_pure ?_))
      refine wpAny_bind (wpAny_bind (wpAny_holding ?_)); show wpAny _ _ (Builtin.SmallTypes.nextOf (.ref i2) >>= _) _ _ _
      exact wpAny_bind ((g2.ext s2.extBut D.i12.symm D.l2i1).nxE hh hy fun u4 e s4 he=>d u4 e (fun c o c1 _ c3 c4 x=>s4 _ _ c4 (s2.extBut _ _ c3 (s0.extBut _ _ c1 x))) he)
theorem enumZ_item {t1 t2:Bool} {en z TI TO i1 i2 l1 l2:Addr} {k:Nat} {xs ys:Array Value} {x y a b m old:Value} {f:Bool} {Q:Option Value→Shared→Prop} (D:ZipApart z TI TO i1 i2 l1 l2) (ne:en≠z∧en≠TO∧en≠i1∧en≠i2) (he:IsEnum s.heap en z (k:Int) old) (gz:IsZipG s.heap z TI TO m f) (hm:Mark m) (gI:IsPair s.heap TI (.ref i1) (.ref i2)) (gO:IsPair s.heap TO a b)
    (g1:ItAt t1 s.heap i1 l1 k xs) (g2:ItAt t2 s.heap i2 l2 k ys) (hx:xs[k]?=some x) (hy:ys[k]?=some y) (d:∀ h1 m' f' h' tk,IsZipG h1 z TI TO m' f'→Mark m'→(∃ a b,IsPair h1 TO a b)→ItAt t1 h1 i1 l1 (k+1) xs→ItAt t2 h1 i2 l2 (k+1) ys→IsPair h1 s.heap.objs.size x y→h1.objs.size=s.heap.objs.size+1→
      (∀ c o,c≠z→c≠TO→c≠i1→c≠i2→s.heap.get? c=some o→h1.get? c=some o)→IsEnumOut h' en z ((k:Int)+1) (.ref s.heap.objs.size) (s.heap.objs.size+1)→h'.get? (s.heap.objs.size+1)=some { cls:=.type "tuple",data:=.seq #[.int k tk,.ref s.heap.objs.size] }→
      (∀ c o,c≠en→h1.get? c=some o→h'.get? c=some o)→Q (some (.ref (s.heap.objs.size+1))) { s with heap:=h',toks:=tk+1 }):wpAny (model prog w) A (pyNext (.ref en)) Q E s:=by
  have hT:s.TypeIs (.ref en) "enumerate":=⟨_,he,rfl⟩
  have hZ:s.TypeIs (.ref z) "zip":=⟨_,gz,rfl⟩
  unfold pyNext
  refine wpAny_bind (wpAny_attempt (wpAny_callSpecial?_slot (name:=Str.ofString "__next__") hT F.slot_enumerate_next (wpAny_call_entry F.slot_enumerate_next hT F.entry_enumerate_next ?_ (F.args_enumerate_next_1 _))))
  show wpAny _ _ (field (.ref en) 2 >>= _) _ _ _; refine wpAny_bind (wpAny_field he rfl (x:=.ref z) rfl ?_)
  show wpAny _ _ (Builtin.SmallTypes.nextOf (.ref z) >>= _) _ _ _
  refine wpAny_bind ?_
  unfold Builtin.SmallTypes.nextOf
  refine wpAny_bind (wpAny_callSpecial?_slot (name:=Str.ofString "__next__") hZ F.slot_zip_next (wpAny_call_entry F.slot_zip_next hZ F.entry_zip_next (zipG_item D gz hm gI gO g1 g2 hx hy fun h1 m' f' b1 b2 b3 b4 b5 b6 b7 b8=>wpAny_pure ?_) (F.args_zip_next_1 _)))
  have he1:IsEnum h1 en z (k:Int) old:=b8 _ _ ne.1 ne.2.1 ne.2.2.1 ne.2.2.2 he
  have elt:en<h1.objs.size:=Heap.lt_size he1
  refine wpAny_bind (wpAny_field he1 rfl (x:=rawInt k) rfl ?_)
  show wpAny _ _ (field (.ref en) 4 >>= _) _ _ _; refine wpAny_bind (wpAny_field he1 rfl (x:=.none) rfl ?_)
  show wpAny _ _ (if (Value.none == Value.none)=true then _ else _) _ _ _
  rw [if_pos (show (Value.none == Value.none)=true from rfl)]
  refine wpAny_bind (wpAny_mkInt ?_)
  refine wpAny_bind (wpAny_setField_rec he1 (by simp) fun u1 e1 s1=>?_)
  refine wpAny_bind (wpAny_setField_rec e1 (by simp) fun u2 e2 s2=>?_)
  have hs2:u2.objs.size=s.heap.objs.size+1:=by rw [s2.1,s1.1,b7]
  refine wpAny_bind (wpAny_newTuple ?_)
  have e3:IsEnum (u2.push { cls:=.type "tuple",data:=.seq #[.int (k:Int) s.toks,.ref s.heap.objs.size] }) en z ((k:Int)+1) old:=Heap.get?_push_of_some _ e2
  show wpAny _ _ (Builtin.SmallTypes.ownedTupleIsFree (.ref en) >>= _) _ _ _
  refine wpAny_bind ?_
  unfold Builtin.SmallTypes.ownedTupleIsFree
  refine wpAny_bind (wpAny_field e3 rfl (x:=.none) rfl (wpAny_pure ?_))
  simp only [if_true]
  refine wpAny_bind (wpAny_rule ?_)
  refine wpAny_bind (wpAny_field e3 rfl (x:=old) rfl ?_)
  refine wpAny_bind (wpAny_setField_rec e3 (by simp) fun u4 e4 s4=>?_)
  refine wpAny_bind ?_
  unfold Builtin.SmallTypes.ownedTupleHandOut
  refine wpAny_bind (wpAny_setField_rec e4 (by simp) fun u5 e5 s5=>?_)
  refine wpAny_setField_rec e5 (by simp) fun u6 e6 s6=>?_
  refine wpAny_bind (wpAny_letGo (wpAny_pure ⟨_,rfl,wpAny_pure ?_⟩))
  have gT:u6.get? u2.objs.size=some { cls:=.type "tuple",data:=.seq #[.int k s.toks,.ref s.heap.objs.size] }:=by
    have n:u2.objs.size≠en:=Nat.ne_of_gt (by rw [s2.1,s1.1]; exact elt)
    exact s6.extBut _ _ n (s5.extBut _ _ n (s4.extBut _ _ n (Heap.get?_push_size _ rfl)))
  have e6':IsEnumOut u6 en z ((k:Int)+1) (.ref s.heap.objs.size) u2.objs.size:=e6
  show Q (some (.ref u2.objs.size)) _
  rw [hs2] at gT e6' ⊢
  exact d h1 m' f' u6 s.toks b1 b2 b3 b4 b5 b6 b7 b8 e6' gT fun c o c1 e=>s6.extBut _ _ c1 (s5.extBut _ _ c1 (s4.extBut _ _ c1 (Heap.get?_push_of_some _ (s2.extBut _ _ c1 (s1.extBut _ _ c1 e)))))
theorem enumZ_end {t1 t2:Bool} {en z TI TO i1 i2 l1 l2:Addr} {k:Nat} {j:Int} {xs ys:Array Value} {a b m old:Value} {f:Bool} {Q:Option Value→Shared→Prop} (hh:A.handled=none) (D:ZipApart z TI TO i1 i2 l1 l2) (he:IsEnum s.heap en z j old) (gz:IsZipG s.heap z TI TO m f) (hm:Mark m) (gI:IsPair s.heap TI (.ref i1) (.ref i2)) (gO:IsPair s.heap TO a b)
    (g1:ItAt t1 s.heap i1 l1 k xs) (g2:ItAt t2 s.heap i2 l2 k ys) (hend:xs[k]?=none∨ys[k]?=none) (d:∀ h',(∀ c o,c≠z→c≠TO→c≠i1→c≠i2→s.heap.get? c=some o→h'.get? c=some o)→Q none { s with heap:=h' }):wpAny (model prog w) A (pyNext (.ref en)) Q E s:=by
  have hT:s.TypeIs (.ref en) "enumerate":=⟨_,he,rfl⟩
  have hZ:s.TypeIs (.ref z) "zip":=⟨_,gz,rfl⟩
  unfold pyNext
  refine wpAny_bind (wpAny_attempt (wpAny_callSpecial?_slot (name:=Str.ofString "__next__") hT F.slot_enumerate_next (wpAny_call_entry F.slot_enumerate_next hT F.entry_enumerate_next ?_ (F.args_enumerate_next_1 _))))
  show wpAny _ _ (field (.ref en) 2 >>= _) _ _ _; refine wpAny_bind (wpAny_field he rfl (x:=.ref z) rfl ?_)
  show wpAny _ _ (Builtin.SmallTypes.nextOf (.ref z) >>= _) _ _ _
  refine wpAny_bind ?_
  unfold Builtin.SmallTypes.nextOf
  refine wpAny_bind (wpAny_callSpecial?_slot (name:=Str.ofString "__next__") hZ F.slot_zip_next (wpAny_call_entry F.slot_zip_next hZ F.entry_zip_next (zipG_end hh D gz hm gI gO g1 g2 hend fun h' e hk hoe=>?_) (F.args_zip_next_1 _)))
  obtain ⟨o,ho,hc⟩:=hoe; refine wpAny_bind (wpAny_isInstance (T:="StopIteration") (b:=true) ⟨o,ho,hc⟩ isSubtype_stop ?_); exact wpAny_pure (d _ hk)
end
end L2
namespace L2
open PySem PySem.Spec PyProof.Rows
section
variable {prog:Program} {w:World} {A:Around} {E:Value→Shared→Prop} {s:Shared}
theorem meets_enumZ (z TI TO:Addr):Meets (Builtin.«enumerate.__new__» ⟨[.type "enumerate",.ref z],[]⟩) (fun _ R s=>IsZip s.heap z TI TO .none∧
      R (.ok (.ret (.ref s.heap.objs.size))) { s with heap:=s.heap.push { cls:=.type "enumerate",data:=.fields #[.none,.bool false,.ref z,rawInt 0,.none,.none] } }) :=
  .of_wp fun prog w A R s h=>by
    obtain ⟨hp,g,d,tk,os⟩:=s; obtain ⟨a1,h⟩:=h
    have sb:=sub_enumerate
    have a2:IsZip (Shared.heap ⟨hp,g,d,tk,os⟩) z TI TO .none:=a1
    wp_walk using AutoSeq1.wpAny_loadPart' a1
    refine wpAny_stack_any fun st=>wpAny_pure ?_
    split
    · rename_i c _ _ _ _ _
      cases (c == Value.type "enumerate") <;> (wp_walk using AutoSeq1.wpAny_loadPart' a1,wpAny_pyIter_zip a2; exact ⟨_,rfl,h⟩)
    · wp_walk using AutoSeq1.wpAny_loadPart' a1,wpAny_pyIter_zip a2; exact ⟨_,rfl,h⟩
theorem call_enumZ {z TI TO:Addr} {Q:Value→Shared→Prop} (a:IsZip s.heap z TI TO .none) (k:∀ h',IsEnum h' s.heap.objs.size z 0 .none→(∀ b o,s.heap.get? b=some o→h'.get? b=some o)→Q (.ref s.heap.objs.size) { s with heap:=h' }) :
    wpAny (model prog w) A (call (.type "enumerate") [.ref z]) Q E s:=by
  refine callType_new F.called_enumerate (by decide) (F.typeCall_enumerate_1 _) (F.newCall_enumerate_1 _) (fun obj=>F.args_object_init_2 obj _) F.entry_enumerate_new (meets_enumZ z TI TO) ⟨a,?_⟩
  have e:=Heap.get?_push_size s.heap (o:={ cls:=.type "enumerate",data:=.fields #[.none,.bool false,.ref z,rawInt 0,.none,.none] }) rfl
  exact ⟨⟨_,e,rfl⟩,k _ e fun b o x=>Heap.get?_push_of_some _ x⟩
end
def IteEZ (K:PySem.W.Frag) (t1 t2:Bool) (a b:Addr):It :=
  ⟨fun i H=>∃ xs ys x y,SqX t1 K H a xs∧SqX t2 K H b ys∧xs[i]?=some x∧ys[i]?=some y,
   fun i H v H'=>∃ T2 T x y,H T2=none∧(upd H T2 (.tup [x,y])) T=none∧H'=upd (upd H T2 (.tup [x,y])) T (.tup [.int (i:Int),.ref T2])∧v=.ref T∧∀ xs ys,SqX t1 K H a xs→SqX t2 K H b ys→xs[i]?=some x∧ys[i]?=some y,
   fun i H=>∃ xs ys,SqX t1 K H a xs∧SqX t2 K H b ys∧(xs[i]?=none∨ys[i]?=none)⟩
theorem turn_enumZ {P:Program} {w:World} {K:PySem.W.Frag} {elts:List Expr} {x1:Nat} {tp:Pos} {t1 t2:Bool} {a b en z TI TO i1 i2:Addr} (D:ZipApart z TI TO i1 i2 a b) (ne:en≠z∧en≠TI∧en≠TO∧en≠i1∧en≠i2) :
    Turn P w K (.Tuple elts x1 tp) (IteEZ K t1 t2 a b) [en,z,TI,TO,i1,i2] en (fun i h=>(∃ old,IsEnum h en z (i:Int) old)∧(∃ m f,IsZipG h z TI TO m f∧Mark m)∧IsPair h TI (.ref i1) (.ref i2)∧(∃ u v,IsPair h TO u v)∧IterAt t1 h i1 a i∧IterAt t2 h i2 b i) where
  mem:=by simp
  obj:=fun i h st c hc=>by
    obtain ⟨⟨old,h0⟩,⟨m,f,h1,_⟩,h2,⟨u,v,h3⟩,h4,h5⟩:=st
    simp only [List.mem_cons,List.not_mem_nil,or_false] at hc
    rcases hc with rfl | rfl | rfl | rfl | rfl | rfl
    · exact ⟨_,h0,fun v q=>nomatch q⟩
    · exact ⟨_,h1,fun v q=>nomatch q⟩
    · exact ⟨_,h2,fun v q=>nomatch q⟩
    · exact ⟨_,h3,fun v q=>nomatch q⟩
    · exact h4.obj
    · exact h5.obj
  keep:=fun i h h' st k=>by
    obtain ⟨⟨old,h0⟩,⟨m,f,h1,hm⟩,h2,⟨u,v,h3⟩,h4,h5⟩:=st
    exact ⟨⟨old,k en (by simp) _ h0⟩,⟨m,f,k z (by simp) _ h1,hm⟩,k TI (by simp) _ h2,⟨u,v,k TO (by simp) _ h3⟩,h4.at fun o e=>k i1 (by simp) o e,h5.at fun o e=>k i2 (by simp) o e⟩
  item:=by
    intro X hP hw hK hc i pins s σ H E I hf st hg
    subst hP hw hK
    obtain ⟨xs,ys,x,y,hxs,hys,hx,hy⟩:=hg
    obtain ⟨us,r1,q1⟩:=I.seqX hxs
    obtain ⟨ws,r2,q2⟩:=I.seqX hys
    obtain ⟨u,hu,ru⟩:=r1.get hx
    obtain ⟨v,hv,rv⟩:=r2.get hy
    obtain ⟨⟨old,h0⟩,⟨m,f,h1,hm⟩,h2,⟨o1,o2,h3⟩,h4,h5⟩:=st
    refine enumZ_item D ⟨ne.1,ne.2.2.1,ne.2.2.2.1,ne.2.2.2.2⟩ h0 h1 hm h2 h3 (h4.it q1) (h5.it q2) (x:=u) (y:=v) (by simpa using hu) (by simpa using hv) fun g1 m' f' g2 tk b1 b2 b3 b4 b5 b6 b7 b8 e6 gT up=>?_
    refine ⟨_,rfl,?_⟩
    refine wpAny_letOwnedTupleGo_enum e6 fun g3 c1 c2=>?_
    have lt:∀ {c o},s.heap.get? c=some o→c<s.heap.objs.size:=fun e=>Heap.lt_size e
    have up3:∀ c o,c≠en→g1.get? c=some o→g3.get? c=some o:=fun c o n e=>(c2.2 c n).trans (up c o n e)
    have elt:=lt h0
    have k1:∀ c o,c∉[z,TO,i1,i2]→s.heap.get? c=some o→g1.get? c=some o:=fun c o hc' q=>b8 c o (fun e=>hc' (by simp [e])) (fun e=>hc' (by simp [e])) (fun e=>hc' (by simp [e])) (fun e=>hc' (by simp [e])) q
    have hn:H s.heap.objs.size=none:=I.hok.fresh (Nat.le_refl _)
    have new1:ObjOk X.prog X.w (upd H s.heap.objs.size (.tup [x,y])) g1 s.heap.objs.size (.tup [x,y]):=⟨by simp only [List.length_cons,List.length_nil]; rw [sizeLine_eq]; decide,[u,v],.cons ru (.cons rv .nil),⟨_,b6,rfl,_,rfl⟩⟩
    have I1:Inv X pins σ (upd H s.heap.objs.size (.tup [x,y])) { s with heap:=g1,toks:=s.toks }:=I.turnedNew k1 (fun c hc'=>hf c (by
      simp only [List.mem_cons,List.not_mem_nil,or_false] at hc' ⊢
      rcases hc' with h | h | h | h
      · exact .inr (.inl h)
      · exact .inr (.inr (.inr (.inl h)))
      · exact .inr (.inr (.inr (.inr (.inl h))))
      · exact .inr (.inr (.inr (.inr (.inr h)))))) (Nat.le_refl _) new1
    have hn2:(upd H s.heap.objs.size (.tup [x,y])) (s.heap.objs.size+1)=none:=by
      rw [upd_ne (Nat.succ_ne_self _)]
      exact I.hok.fresh (Nat.le_succ _)
    have gT3:g3.get? (s.heap.objs.size+1)=some { cls:=.type "tuple",data:=.seq #[.int (i:Int) tk,.ref s.heap.objs.size] }:=(c2.2 _ (Nat.ne_of_gt (Nat.lt_succ_of_lt elt))).trans gT
    have new2:ObjOk X.prog X.w (upd (upd H s.heap.objs.size (.tup [x,y])) (s.heap.objs.size+1) (.tup [.int (i:Int),.ref s.heap.objs.size])) g3 (s.heap.objs.size+1) (.tup [.int (i:Int),.ref s.heap.objs.size]):=⟨by simp only [List.length_cons,List.length_nil]; rw [sizeLine_eq]; decide,[.int (i:Int) tk,.ref s.heap.objs.size],.cons ⟨_,rfl⟩ (.cons rfl .nil),⟨_,gT3,rfl,_,rfl⟩⟩
    have fen:=hf en (by simp)
    have I2:Inv X pins σ (upd (upd H s.heap.objs.size (.tup [x,y])) (s.heap.objs.size+1) (.tup [.int (i:Int),.ref s.heap.objs.size])) { s with heap:=g3,toks:=tk+1 }:=I1.turnedNew (t':=tk+1) (h':=g3) (ch:=[en]) (fun c o hc' q=>up3 c o (fun e=>hc' (by simp [e])) q) (fun c hc'=>by
      have e:c=en:=by simpa using hc'
      subst e
      refine ⟨?_,fen.2⟩
      rw [upd_ne (Nat.ne_of_lt elt)]
      exact fen.1) (by show g1.objs.size≤_; rw [b7]; exact Nat.le_refl _) new2
    refine ⟨.ref (s.heap.objs.size+1),_,I2,rfl,⟨s.heap.objs.size,s.heap.objs.size+1,x,y,hn,hn2,rfl,rfl,fun xs' ys' hx' hy'=>⟨by rw [sqX_inj I hx' hxs]; exact hx,by rw [sqX_inj I hy' hys]; exact hy⟩⟩,⟨⟨.ref s.heap.objs.size,?_⟩,⟨m',f',up3 _ _ (Ne.symm ne.1) b1,b2⟩,up3 _ _ (Ne.symm ne.2.1) (b8 _ _ D.TIz D.TITO D.TIi1 D.TIi2 h2),?_,b4.iter.at fun o e=>up3 _ o (Ne.symm ne.2.2.2.1) e,b5.iter.at fun o e=>up3 _ o (Ne.symm ne.2.2.2.2) e⟩,fun c hc'=>?_⟩
    · simpa using c1
    · obtain ⟨p,q,hpq⟩:=b3
      exact ⟨p,q,up3 _ _ (Ne.symm ne.2.2.1) hpq⟩
    · have hlt:c<s.heap.objs.size:=by
        simp only [List.mem_cons,List.not_mem_nil,or_false] at hc'
        rcases hc' with rfl | rfl | rfl | rfl | rfl | rfl
        · exact elt
        · exact lt h1
        · exact lt h2
        · exact lt h3
        · obtain ⟨o,e,_⟩:=h4.obj; exact lt e
        · obtain ⟨o,e,_⟩:=h5.obj; exact lt e
      rw [upd_ne (Nat.ne_of_lt (Nat.lt_succ_of_lt hlt)),upd_ne (Nat.ne_of_lt hlt)]
      exact (hf c hc').1
  done:=by
    intro X hP hw hK hc i pins s σ H E I hf st hg
    subst hP hw hK
    obtain ⟨xs,ys,hxs,hys,hend⟩:=hg
    obtain ⟨us,r1,q1⟩:=I.seqX hxs
    obtain ⟨ws,r2,q2⟩:=I.seqX hys
    obtain ⟨⟨old,h0⟩,⟨m,f,h1,hm⟩,h2,⟨o1,o2,h3⟩,h4,h5⟩:=st
    have e1:=r1.length
    have e2:=r2.length
    refine enumZ_end (show X.A.handled=none from I.ok.hd hc) D h0 h1 hm h2 h3 (h4.it q1) (h5.it q2) ?_ fun h' k=>⟨rfl,?_⟩
    · rcases hend with h | h
      · refine .inl ?_
        have:=List.getElem?_eq_none_iff.mp h
        simp
        omega
      · refine .inr ?_
        have:=List.getElem?_eq_none_iff.mp h
        simp
        omega
    · exact I.turnedL (t':=s.toks) (fun c o hc' q=>k c o (fun e=>hc' (by simp [e])) (fun e=>hc' (by simp [e])) (fun e=>hc' (by simp [e])) (fun e=>hc' (by simp [e])) q) hf
  self:=fun _ _ _ _ _ st h=>by
    obtain ⟨⟨old,he⟩,_⟩:=st
    exact wpAny_pyIter_enum he h
section
variable {X:Cx}
def iEnumZ (K:PySem.W.Frag) (t1 t2:Bool) (ta:TA):TI:=fun σ H R=>ta σ H fun vs H1=>∃ a b,vs=[.ref a,.ref b]∧(∃ xs,SqX t1 K H1 a xs)∧(∃ ys,SqX t2 K H1 b ys)∧R (IteEZ K t1 t2 a b) H1
theorem pi_enumZ (t1 t2:Bool) {a b:Expr} {ta:TA} {p pos p' pos' tp:Pos} {elts:List Expr} {x1:Nat} (hg:Gl X "enumerate") (hm:X.mg "enumerate"=none) (hg':Gl X "zip") (hm':X.mg "zip"=none) (ha:PA X [a,b] ta) (hs:starEach [a,b] X.env=(false,eval a X.env)::starEach [b] X.env:=by rfl) (hpl:(backTo pos' (starEach [b] X.env)).any (·.1)=false:=by rfl)
    (hs2:starEach [Expr.Call (.Name "zip" p') [a,b] [] pos'] X.env=[(false,eval (Expr.Call (.Name "zip" p') [a,b] [] pos') X.env)]:=by rfl) :
    PI X (.Tuple elts x1 tp) (.Call (.Name "enumerate" p) [.Call (.Name "zip" p') [a,b] [] pos'] [] pos) (iEnumZ X.K t1 t2 ta):=by
  intro pins s σ H R I h
  refine Call_ (ld_blt I hg hm boot_enumerate (PyProof.Rows.callWith_type1 ?_ hs2 rfl))
  rw [hs2]
  show wpAny _ _ (spliced ((false,eval _ X.env)::backTo pos (starEach [] X.env))) _ _ s
  refine Calls.spliced_cons ?_
  refine Call_ (ld_blt I hg' hm' PyProof.Rows.boot_zip (PyProof.Rows.callWith_type1 (thn (ha pos' pins s σ H _ I h) fun us s1 ⟨vs,H1,I1,r1,q1⟩=>?_) hs hpl))
  obtain ⟨l1,l2,e,⟨xs,hx⟩,⟨ys,hy⟩,q⟩:=q1
  subst e
  obtain ⟨u,v,rfl,ru,rv⟩:=vals2 r1
  cases ru
  cases rv
  obtain ⟨us,_,g1⟩:=I1.seqX hx
  obtain ⟨ws,_,g2⟩:=I1.seqX hy
  have lt:∀ {tp:Bool} {l:Addr} {zs:Array Value},SeqOf tp s1.heap l zs→l<s1.heap.objs.size:=fun {tp} {l} {zs} g=>by
    cases tp with
    | false=>obtain ⟨o,z,_⟩:=g; exact Heap.lt_size z
    | true=>obtain ⟨o,z,_⟩:=g; exact Heap.lt_size z
  refine call_zipX g1 g2 fun h' b1 b2 b3 b4 b5 hk=>?_
  refine Calls.spliced_nil ?_
  refine call_enumZ b1 fun h2 he hk2=>?_
  refine wpAny_pyIter_enum he ?_
  have zlt:s1.heap.objs.size+4<h'.objs.size:=Heap.lt_size b1
  have hfp:∀ c∈[h'.objs.size,s1.heap.objs.size+4,s1.heap.objs.size+2,s1.heap.objs.size+3,s1.heap.objs.size,s1.heap.objs.size+1],FpOk X pins H1 c:=fun c hc=>by
    have hge:s1.heap.objs.size≤c:=by
      simp only [List.mem_cons,List.not_mem_nil,or_false] at hc
      omega
    exact I1.fpOk hge (I1.hok.fresh hge)
  exact ⟨h'.objs.size,_,_,_,H1,rfl,I1.kept (t':=s1.toks) fun c o e=>hk2 c o (hk c o e),turn_enumZ (zipApart_new (lt g1) (lt g2)) ⟨Nat.ne_of_gt (by omega),Nat.ne_of_gt (by omega),Nat.ne_of_gt (by omega),Nat.ne_of_gt (by omega),Nat.ne_of_gt (by omega)⟩,⟨⟨_,he⟩,⟨_,_,hk2 _ _ b1,.none⟩,hk2 _ _ b2,⟨_,_,hk2 _ _ b3⟩,b4.iter.at fun o e=>hk2 _ o e,b5.iter.at fun o e=>hk2 _ o e⟩,hfp,q⟩
end
theorem for_enumZ {K:PySem.W.Frag} {t1 t2:Bool} {a b:Addr} {xs ys:List V} {g:TG} {tb:TS} {D:Ends} {σ:St} {H:Hp} (Pv:Nat→St→Hp→Prop) (h0:Pv 0 σ H) (hl:∀ i σ H,i≤min xs.length ys.length→Pv i σ H→SqX t1 K H a xs∧SqX t2 K H b ys)
    (hs:∀ i x y σ H T2 T,xs[i]?=some x→ys[i]?=some y→Pv i σ H→H T2=none→(upd H T2 (.tup [x,y])) T=none→g (.ref T) σ (upd (upd H T2 (.tup [x,y])) T (.tup [.int (i:Int),.ref T2])) fun σ2 H2=>tb { D with nx:=Pv (i+1),ct:=Pv (i+1),bk:=D.nx } σ2 H2) (hd:∀ σ H,Pv (min xs.length ys.length) σ H→D.nx σ H) :
    ∃ W:Nat→Nat→St→Hp→Prop,(∃ m,W 0 m σ H)∧∀ i m σ H,W i m σ H→((IteEZ K t1 t2 a b).stop i H∧D.nx σ H)∨((IteEZ K t1 t2 a b).go i H∧∃ N:St→Hp→Prop,(∀ σ' H',N σ' H'→∃ m',m'<m∧W (i+1) m' σ' H')∧∀ x H',(IteEZ K t1 t2 a b).yld i H x H'→g x σ H' fun σ2 H2=>tb { D with nx:=N,ct:=N,bk:=D.nx } σ2 H2):=by
  refine ⟨fun i m σ H=>m=min xs.length ys.length - i∧i≤min xs.length ys.length∧Pv i σ H,⟨min xs.length ys.length,by simp,Nat.zero_le _,h0⟩,?_⟩
  rintro i m σ H ⟨rfl,hi,p⟩
  obtain ⟨q1,q2⟩:=hl i σ H hi p
  by_cases hlt:i<min xs.length ys.length
  · have e1:=List.getElem?_eq_getElem (show i<xs.length by omega)
    have e2:=List.getElem?_eq_getElem (show i<ys.length by omega)
    refine .inr ⟨⟨xs,ys,_,_,q1,q2,e1,e2⟩,Pv (i+1),fun σ' H' p'=>⟨min xs.length ys.length - (i+1),by omega,rfl,hlt,p'⟩,fun v H' y=>?_⟩
    obtain ⟨T2,T,x,y,hT2,hT,z1,z2,z3⟩:=y
    subst z1 z2
    obtain ⟨z4,z5⟩:=z3 xs ys q1 q2
    exact hs i x y σ H T2 T z4 z5 p hT2 hT
  · have e:i=min xs.length ys.length:=by omega
    refine .inl ⟨⟨xs,ys,q1,q2,?_⟩,hd σ H (by rw [← e]; exact p)⟩
    by_cases hx:i<xs.length
    · exact .inr (List.getElem?_eq_none (by omega))
    · exact .inl (List.getElem?_eq_none (by omega))
end L2
namespace L2
open PySem PySem.Spec PyProof.Rows
def kasRun {α:Type} (c:Nat→Nat→Bool):W.KasT α→α
  | .ret a=>a
  | .ask i j k=>kasRun c (k (c i j))
def KGood {α:Type} (n:Nat) (R:α→Prop):W.KasT α→Prop
  | .ret a=>R a
  | .ask i j k=>i<n∧j<n∧∀ b,KGood n R (k b)
def Low (n:Nat) (p:Array Nat):Prop:=p.size=n∧∀ i,p.getD i 0<n
theorem Low.swap {n:Nat} {p:Array Nat} (h:Low n p) (i j:Nat):Low n (p.swapIfInBounds i j):=by
  refine ⟨by rw [Array.size_swapIfInBounds]; exact h.1,fun k=>?_⟩
  replace h:=h.2
  have g:∀ i (hi:i<p.size),p[i]<n:=fun i hi=>by
    have:=h i
    rw [Array.getD,dif_pos hi] at this
    exact this
  have h0:0<n:=Nat.lt_of_le_of_lt (Nat.zero_le _) (h 0)
  unfold Array.swapIfInBounds
  split
  · split
    · rw [Array.getD]
      split
      · rename_i hk
        show (p.swap i j)[k]<n
        rw [Array.getElem_swap]
        split
        · exact g _ _
        · split
          · exact g _ _
          · exact g _ _
      · exact h0
    · exact h k
  · exact h k
theorem Low.fold {n:Nat} {f:Array Nat→Nat→Array Nat} (hf:∀ a k,Low n a→Low n (f a k)):∀ {l:List Nat} {p:Array Nat},Low n p→Low n (l.foldl f p)
  | [],_,h=>h
  | x::l,p,h=>Low.fold hf (l:=l) (hf p x h)
theorem Low.rev {n:Nat} {p:Array Nat} (h:Low n p) (i j:Nat):Low n (W.kas_rev p i j):=by
  unfold W.kas_rev mirror
  exact Low.fold (fun a k ha=>ha.swap _ _) h
theorem Low.bubble {n:Nat} {p:Array Nat} (h:Low n p) (i j:Nat):Low n (bubble p i j):=by
  unfold PyProof.Rows.bubble
  exact Low.fold (fun a k ha=>ha.swap _ _) h
section
variable {prog:Program} {w:World} {A:Around} {E:Value→Shared→Prop} {s:Shared}
structure SortTo (prog:Program) (w:World) (A:Around) (a:Addr) (vs out:List Value) (h:Heap):Prop where
  few:vs.length<2→out=vs
  many:2≤vs.length→∀ s1:Shared,(∀ b o,b≠a→h.get? b=some o→s1.heap.get? b=some o)→∃ (κ:SortKind) (c:Nat→Nat→Bool),(∀ (Q:SortKind→Shared→Prop) (E:Value→Shared→Prop),Q κ s1→wpAny (model prog w) A (keyKind' vs.toArray) Q E s1)∧
    (∀ i j (C:Bool→Shared→Prop),i<vs.length→j<vs.length→C (c i j) s1→W.kas_ask prog w A κ vs i j C s1)∧out=(kasRun c (W.kas_sort vs.length)).toList.map fun i=>vs.getD i .none
end
end L2
namespace L2
open PySem PySem.Spec PyProof.Rows
abbrev D3:=Int×Str×Int
def d3V (d:D3):List V:=[.int d.1,.str d.2.1,.int d.2.2]
def D3At (H:Hp) (v:V) (d:D3):Prop:=∃ a,v=.ref a∧H a=some (.tup (d3V d))
def d3Lt (d e:D3):Bool:=if eqV (.int d.1) (.int e.1)=true then (if eqV (.str d.2.1) (.str e.2.1)=true then (if eqV (.int d.2.2) (.int e.2.2)=true then false else decide (d.2.2<e.2.2)) else decide (d.2.1.cps.toList<e.2.1.cps.toList)) else decide (d.1<e.1)
def d0:D3:=(0,Str.empty,0)
def d3Ord (ds:List D3):List Nat:=(kasRun (fun i j=>d3Lt (ds.getD i d0) (ds.getD j d0)) (W.kas_sort ds.length)).toList
def sortD (ds:List D3):List D3:=if ds.length<2 then ds else (d3Ord ds).map fun i=>ds.getD i d0
def Raw3 (h:Heap) (v:Value) (d:D3):Prop:=∃ a o n i t x u j r,v=.ref a∧h.get? a=some o∧o.cls=.type "tuple"∧o.data=.seq #[.int i t,.str x u,.int j r] n∧d=(i,x,j)
theorem Raw3.keep {h h':Heap} {v:Value} {d:D3} (r:Raw3 h v d) (k:∀ b o,h.get? b=some o→h'.get? b=some o):Raw3 h' v d:=by
  obtain ⟨a,o,n,i,t,x,u,j,r,e,g,c⟩:=r
  exact ⟨a,o,n,i,t,x,u,j,r,e,k _ _ g,c⟩
section
variable {prog:Program} {w:World} {A:Around} {s:Shared}
theorem raw3_lt {v v':Value} {d d':D3} {C:Bool→Shared→Prop} {E:Value→Shared→Prop} (r:Raw3 s.heap v d) (r':Raw3 s.heap v' d') (q:C (d3Lt d d') s):wpAny (model prog w) A (keyLt' (tuples' true) v v') C E s:=by
  obtain ⟨a,o,n,i,t,x,u,j,r,rfl,g,gc,gd,rfl⟩:=r
  obtain ⟨a',o',n',i',t',x',u',j',r',rfl,g',gc',gd',rfl⟩:=r'
  refine W.kat_lt g gd g' gd' ?_
  show W.KatLex prog w A true false C [(.int i t,.int i' t'),(.str x u,.str x' u'),(.int j r,.int j' r')] 0 s
  unfold d3Lt at q
  refine W.kat_cons (eqAt_V (y:=.int i) (x:=.int i') ⟨t,rfl⟩ ⟨t',rfl⟩ rfl rfl _ _ _ _ ?_)
  refine W.kat_go (fun h1=>?_) (fun h1=>?_)
  rotate_left
  · rw [if_neg (by rw [h1]; exact Bool.false_ne_true)] at q
    exact W.kat_no (W.kat_lt_int q)
  rw [if_pos h1] at q
  refine W.kat_yes (W.kat_cons (eqAt_V (y:=.str x) (x:=.str x') ⟨u,rfl⟩ ⟨u',rfl⟩ rfl rfl _ _ _ _ ?_))
  refine W.kat_go (fun h2=>?_) (fun h2=>?_)
  rotate_left
  · rw [if_neg (by rw [h2]; exact Bool.false_ne_true)] at q
    exact W.kat_no (W.kat_one _ _ (PyProof.Rows.lt_str q))
  rw [if_pos h2] at q
  refine W.kat_yes (W.kat_cons (eqAt_V (y:=.int j) (x:=.int j') ⟨r,rfl⟩ ⟨r',rfl⟩ rfl rfl _ _ _ _ ?_))
  refine W.kat_go (fun h3=>?_) (fun h3=>?_)
  rotate_left
  · rw [if_neg (by rw [h3]; exact Bool.false_ne_true)] at q
    exact W.kat_no (W.kat_one _ _ (PyProof.Rows.lt_int q))
  rw [if_pos h3] at q
  exact W.kat_yes (W.kat_nil q)
theorem raw3_kind {M:Model} {vs:List Value} {ds:List D3} {Q:SortKind→Shared→Prop} {E:Value→Shared→Prop} (p:Paired (Raw3 s.heap) vs ds) (h:0<vs.length) (q:Q (tuples' true) s):wpAny M A (keyKind' vs.toArray) Q E s:=by
  have ex:∀ {vs:List Value} {ds:List D3},Paired (Raw3 s.heap) vs ds→∃ fs:List Value,W.KatTups s.heap vs fs∧fs.length=vs.length∧∀ v∈fs,∃ i t,v=Value.int i t:=by
    intro vs ds p
    induction p with
    | nil=>exact ⟨[],trivial,rfl,fun _ h=>(nomatch h)⟩
    | cons r _ ih =>
      obtain ⟨fs,f1,f2,f3⟩:=ih
      obtain ⟨a,o,n,i,t,x,u,j,r,rfl,g,gc,gd,rfl⟩:=r
      refine ⟨.int i t::fs,⟨⟨a,o,_,n,rfl,g,gc,gd,rfl⟩,f1⟩,congrArg (·+1) f2,fun v hv=>?_⟩
      rcases List.mem_cons.mp hv with rfl | h
      · exact ⟨i,t,rfl⟩
      · exact f3 v h
  obtain ⟨fs,f1,f2,f3⟩:=ex p
  refine W.kat_kind f1 (by omega) (T:=.type "int") (fun v hv=>?_) (by decide) q
  obtain ⟨i,t,rfl⟩:=f3 v hv
  exact fun A Q E s _ q=>wpAny_pure q
end
theorem pd_imp {α β:Type} {F G:α→β→Prop} (f:∀ a b,F a b→G a b):∀ {xs:List α} {ys:List β},Paired F xs ys→Paired G xs ys
  | _,_,.nil=>.nil
  | _,_,.cons r t=>.cons (f _ _ r) (pd_imp f t)
theorem pd_len {α β:Type} {F:α→β→Prop}:∀ {xs:List α} {ys:List β},Paired F xs ys→xs.length=ys.length
  | _,_,.nil=>rfl
  | _,_,.cons _ t=>congrArg (·+1) (pd_len t)
theorem pd_getD {α β:Type} {F:α→β→Prop} {x0:α} {y0:β}:∀ {xs:List α} {ys:List β} {i:Nat},Paired F xs ys→i<xs.length→F (xs.getD i x0) (ys.getD i y0)
  | _,_,_,.nil,h=>absurd h (Nat.not_lt_zero _)
  | _,_,0,.cons r _,_=>r
  | _,_,i+1,.cons _ t,h=>pd_getD (i:=i) t (Nat.lt_of_succ_lt_succ h)
theorem pd_pick {α β:Type} {F:α→β→Prop} {x0:α} {y0:β} {xs:List α} {ys:List β} (p:Paired F xs ys):∀ l:List Nat,(∀ i∈l,i<xs.length)→Paired F (l.map fun i=>xs.getD i x0) (l.map fun i=>ys.getD i y0)
  | [],_=>.nil
  | i::l,h=>.cons (pd_getD p (h i List.mem_cons_self)) (pd_pick p l fun j hj=>h j (List.mem_cons_of_mem _ hj))
theorem vals_getD {x0:V} {y0:Value}:∀ {xs:List V} {ys:List Value} {i:Nat},Vals xs ys→i<xs.length→RelV (xs.getD i x0) (ys.getD i y0)
  | _,_,_,.nil,h=>absurd h (Nat.not_lt_zero _)
  | _,_,0,.cons r _,_=>r
  | _,_,i+1,.cons _ t,h=>vals_getD (i:=i) t (Nat.lt_of_succ_lt_succ h)
theorem vals_pick {x0:V} {y0:Value} {xs:List V} {ys:List Value} (p:Vals xs ys):∀ l:List Nat,(∀ i∈l,i<xs.length)→Vals (l.map fun i=>xs.getD i x0) (l.map fun i=>ys.getD i y0)
  | [],_=>.nil
  | i::l,h=>.cons (vals_getD p (h i List.mem_cons_self)) (vals_pick p l fun j hj=>h j (List.mem_cons_of_mem _ hj))
section
variable {X:Cx}
theorem vals_d3 {d:D3} {us:List Value} (r:Vals (d3V d) us):∃ i t x u j r',us=[.int i t,.str x u,.int j r']∧d=(i,x,j):=by
  obtain ⟨d1,d2,d3⟩:=d
  cases r with
  | cons r1 r =>
    cases r with
    | cons r2 r =>
      cases r with
      | cons r3 r =>
        cases r
        obtain ⟨t,rfl⟩:=r1
        obtain ⟨u,rfl⟩:=r2
        obtain ⟨t',rfl⟩:=r3
        exact ⟨_,_,_,_,_,_,rfl,rfl⟩
theorem call_sum (hc:X.calm=true):CallR X (.builtin "sum") (fun xs H Q=>∃ (p:Addr) (ns:List Int),xs=[.ref p]∧SqL X.K H p (ns.map V.int)∧∀ S:Int,Q (.int S) H):=by
  intro pins s σ H xs us Q I r h
  obtain ⟨p,ns,rfl,hp,q⟩:=h
  obtain ⟨u,rfl,ru⟩:=vals1 r
  cases ru
  obtain ⟨its,rv,pl,hz⟩:=I.list hp
  have hl:=pl.isList
  have hlt:p<s.heap.objs.size:=by obtain ⟨_,e,_⟩:=hl; exact Heap.lt_size e
  have hlen:=rv.length
  rw [List.length_map] at hlen
  refine call_sum_walkG (wpAny_pyIter_list hl ?_)
  refine ⟨s.heap.objs.size,[s.heap.objs.size,p],[s.heap.objs.size],its.toArray.size,_,_,fun i=>(ns[i]?).getD 0,rfl,Walks.list (A:=X.A.in1) (I.ok.hd hc) _ p (Nat.ne_of_lt hlt) its.toArray,
    ⟨⟨_,Heap.get?_push_size _ rfl,rfl,rfl⟩,hl.push _⟩,fun b hb=>?_,fun i v hP=>?_,fun h' tk t' hk=>?_⟩
  · rw [Heap.size_push]
    rcases List.mem_cons.mp hb with rfl | h
    · exact Nat.lt_succ_self _
    · rw [List.mem_singleton.mp h]
      exact Nat.lt_succ_of_lt hlt
  · have hv:its[i]?=some v:=by simpa using hP
    have hi:i<ns.length:=by rw [hlen]; exact (List.getElem?_eq_some_iff.mp hv).1
    obtain ⟨u,hu,ru⟩:=rv.get (i:=i) (x:=.int ns[i]) (by rw [List.getElem?_map,List.getElem?_eq_getElem hi]; rfl)
    rw [hv] at hu
    cases hu
    obtain ⟨t,rfl⟩:=ru
    exact ⟨t,by show Value.int ns[i] t=Value.int ((ns[i]?).getD 0) t; rw [List.getElem?_eq_getElem hi]; rfl⟩
  · refine ⟨.int _,H,I.kept (t':=tk) fun b o x=>hk b o (fun hm=>?_) (Heap.get?_push_of_some _ x),⟨t',rfl⟩,q _⟩
    rw [List.mem_singleton.mp hm] at x
    exact Nat.lt_irrefl _ (Heap.lt_size x)
end
end L2
namespace L2
open PySem PySem.Spec PySem.W PyProof.Rows
abbrev Ix:=Array Nat×Array (Nat×Nat×Nat)×Nat
abbrev Dt:=SortKind×Array Keyed
def stI (d:Dt) (x:Ix):SortSt:=SortSt.mk' d.1 (x.1.map (kas_item d.2)) x.2.1 x.2.2 none
structure Asks (prog:Program) (w:World) (A:Around) (d:Dt) (n:Nat) (c:Nat→Nat→Bool) (s:Shared):Prop where
  size:d.2.size=n
  ask:∀ i j (C:Bool→Shared→Prop),i<n→j<n→C (c i j) s→kas_cmp prog w A d.1 d.2 i j C s
def Uf (n:Nat) (c:Nat→Nat→Bool) {α β:Type} (m:Dt→StateT SortSt Sem β) (cv:Dt→α→β) (x:Ix) (R:α→Ix→Prop):Prop :=
  ∃ a x',R a x'∧∀ (prog:Program) (w:World) (A:Around) (E:Value→Shared→Prop) (d:Dt) (Q:β→SortSt→Shared→Prop) (s:Shared),Asks prog w A d n c s→Q (cv d a) (stI d x') s→kasC (model prog w) A E (m d) Q (stI d x) s
section
variable {n:Nat} {c:Nat→Nat→Bool} {α β γ δ:Type} {x:Ix}
theorem Uf.ret' {cv:Dt→α→β} {v:Dt→β} {R:α→Ix→Prop} (a:α) (e:∀ d,v d=cv d a) (h:R a x):Uf n c (fun d=>pure (v d)) cv x R:=⟨a,x,h,fun _ _ _ _ d _ _ _ q=>kasC_pure (by rw [e d]; exact q)⟩
theorem Uf.bind {m:Dt→StateT SortSt Sem β} {f:Dt→β→StateT SortSt Sem δ} (cv1:Dt→α→β) {cv:Dt→γ→δ} {R:γ→Ix→Prop} (R1:α→Ix→Prop) (h1:Uf n c m cv1 x R1) (h2:∀ a x',R1 a x'→Uf n c (fun d=>f d (cv1 d a)) cv x' R):Uf n c (fun d=>m d >>= f d) cv x R:=by
  obtain ⟨a,x',r,h⟩:=h1
  obtain ⟨b,x2,r2,h'⟩:=h2 a x' r
  exact ⟨b,x2,r2,fun prog w A E d Q s hs q=>kasC_bind (h prog w A E d _ s hs (h' prog w A E d Q s hs q))⟩
theorem Uf.mono {m:Dt→StateT SortSt Sem β} {cv:Dt→α→β} {R R':α→Ix→Prop} (h:Uf n c m cv x R) (hR:∀ a x',R a x'→R' a x'):Uf n c m cv x R':=by
  obtain ⟨a,x',r,h⟩:=h
  exact ⟨a,x',hR a x' r,h⟩
theorem Uf.eq {m m':Dt→StateT SortSt Sem β} {cv:Dt→α→β} {R:α→Ix→Prop} (e:∀ d,m' d=m d) (h:Uf n c m cv x R):Uf n c m' cv x R:=by rw [funext e]; exact h
theorem Uf.get_:Uf n c (fun _=>(get:StateT SortSt Sem SortSt)) stI x (fun a x'=>a=x∧x'=x):=⟨x,x,⟨rfl,rfl⟩,fun _ _ _ _ _ _ _ _ q=>kasC_get q⟩
theorem Uf.modify_ {f:Dt→SortSt→SortSt} {R:Unit→Ix→Prop} (x':Ix) (e:∀ d,f d (stI d x)=stI d x') (h:R () x'):Uf n c (fun d=>(modify (f d):StateT SortSt Sem Unit)) (fun _ u=>u) x R:=⟨(),x',h,fun _ _ _ _ d _ _ _ q=>kasC_modify (by rw [e d]; exact q)⟩
theorem Uf.set_ {v:Dt→SortSt} {R:Unit→Ix→Prop} (x':Ix) (e:∀ d,v d=stI d x') (h:R () x'):Uf n c (fun d=>(set (v d):StateT SortSt Sem PUnit)) (fun _ u=>u) x R:=⟨(),x',h,fun prog w A E d Q s _ q=>by
  unfold kasC
  rw [StateT.run_set]
  exact wpAny_pure (by rw [e d]; exact q)⟩
theorem Uf.rule_ {r:String} {R:Unit→Ix→Prop} (h:R () x):Uf n c (fun _=>(liftM (rule r):StateT SortSt Sem Unit)) (fun _ u=>u) x R:=⟨(),x,h,fun _ _ _ _ _ _ _ _ q=>kasC_lift (wpAny_rule q)⟩
theorem Uf.lt_ {i j:Nat} (hi:i<n) (hj:j<n):Uf n c (fun d=>lt' (kas_item d.2 i) (kas_item d.2 j)) (fun _ (b:Bool)=>some b) x (fun b x'=>b=c i j∧x'=x):=⟨c i j,x,⟨rfl,rfl⟩,fun prog w A E d Q s hs q=>by
  dsimp only
  rw [lt'_eq]
  refine kasC_bind (kasC_get ?_)
  refine kasC_bind (kasC_lift (wpAny_attempt (wpAny_mono (hs.ask i j (fun b s'=>b=c i j∧s'=s) hi hj ⟨rfl,rfl⟩) (fun b s' hb=>?_) fun _ _ hF=>hF.elim)))
  obtain ⟨rfl,rfl⟩:=hb
  exact kasC_pure q⟩
theorem map_at {d:Dt} {p:Array Nat} {i:Nat} (hi:i<p.size):(p.map (kas_item d.2))[i]?=some (kas_item d.2 (p.getD i 0)):=by
  have e:p.getD i 0=p[i]:=by simp [Array.getD,hi]
  rw [e]
  simp [hi]
theorem Uf.elem_ {p:Array Nat} {i:Nat} (hi:i<p.size):Uf n c (fun d=>elem' (p.map (kas_item d.2)) i) (fun d k=>kas_item d.2 k) x (fun k x'=>k=p.getD i 0∧x'=x):=⟨p.getD i 0,x,⟨rfl,rfl⟩,fun prog w A E d Q s hs q=>by
  dsimp only
  rw [elem'_eq,map_at hi]
  exact kasC_pure q⟩
def cvS (cv:Dt→α→β) (d:Dt):ForInStep α→ForInStep β
  | .yield a=>.yield (cv d a)
  | .done a=>.done (cv d a)
def stepR (inv:α→Ix→Prop) (fin:α→Ix→Prop):ForInStep α→Ix→Prop
  | .yield a,x=>inv a x
  | .done a,x=>fin a x
theorem Uf.list_ {body:Dt→Nat→β→StateT SortSt Sem (ForInStep β)} (cv:Dt→α→β) (inv:Nat→α→Ix→Prop) (fin:α→Ix→Prop):∀ (m k:Nat) (a:α) (x:Ix),inv k a x→
    (∀ i a x,k≤i→i<k+m→inv i a x→Uf n c (fun d=>body d i (cv d a)) (cvS cv) x (stepR (inv (i+1)) fin))→(∀ a x,inv (k+m) a x→fin a x)→Uf n c (fun d=>forIn (List.range' k m) (cv d a) (body d)) cv x fin
  | 0,k,a,x,h0,_,hd=>⟨a,x,hd a x h0,fun _ _ _ _ _ _ _ _ q=>kasC_nil q⟩
  | m+1,k,a,x,h0,hs,hd=>by
    obtain ⟨r,x',hr,h⟩:=hs k a x (Nat.le_refl _) (by omega) h0
    cases r with
    | done a'=>exact ⟨a',x',hr,fun prog w A E d Q s hq q=>kasC_cons (h prog w A E d _ s hq q)⟩
    | yield a' =>
      obtain ⟨b,x2,hb,h'⟩:=Uf.list_ cv inv fin m (k+1) a' x' hr (fun i a x h1 h2=>hs i a x (by omega) (by omega)) fun a x h=>hd a x (by rw [show k+(m+1)=k+1+m by omega]; exact h)
      exact ⟨b,x2,hb,fun prog w A E d Q s hq q=>kasC_cons (h prog w A E d _ s hq (h' prog w A E d Q s hq q))⟩
theorem Uf.range_ {body:Dt→Nat→β→StateT SortSt Sem (ForInStep β)} (cv:Dt→α→β) (inv:Nat→α→Ix→Prop) (fin:α→Ix→Prop) {lo hi:Nat} (a:α) {v:Dt→β} (e:∀ d,v d=cv d a) (h0:inv lo a x)
    (hs:∀ i a x,lo≤i→i<hi→inv i a x→Uf n c (fun d=>body d i (cv d a)) (cvS cv) x (stepR (inv (i+1)) fin)) (hd:∀ a x,inv (lo+(hi - lo)) a x→fin a x):Uf n c (fun d=>forIn [lo:hi] (v d) (body d)) cv x fin:=by
  rw [funext e]
  obtain ⟨b,x',hb,h⟩:=Uf.list_ (n:=n) (c:=c) cv inv fin (hi - lo) lo a x h0 (fun i a x h1 h2=>hs i a x h1 (by omega)) hd
  exact ⟨b,x',hb,fun prog w A E d Q s hq q=>kasC_range (h prog w A E d Q s hq q)⟩
end
end L2
namespace L2
open PySem PySem.Spec PySem.W PyProof.Rows
section
variable {n:Nat} {c:Nat→Nat→Bool} {α β γ δ:Type} {x:Ix}
theorem Uf.ite {b:Prop} [Decidable b] {m1 m2:Dt→StateT SortSt Sem β} {cv:Dt→α→β} {R:α→Ix→Prop} (h1:b→Uf n c m1 cv x R) (h2:¬ b→Uf n c m2 cv x R):Uf n c (fun d=>if b then m1 d else m2 d) cv x R:=by
  by_cases h:b
  · exact Uf.eq (fun d=>if_pos h) (h1 h)
  · exact Uf.eq (fun d=>if_neg h) (h2 h)
def LowP (n:Nat) (p:Array Nat):Prop:=∀ v∈p,v<n
theorem LowP.at {p:Array Nat} (h:LowP n p) (i:Nat) (hi:i<p.size):p.getD i 0<n:=by
  have e:p.getD i 0=p[i]:=by simp [Array.getD,hi]
  rw [e]
  exact h _ (Array.getElem_mem hi)
theorem LowP.push {p:Array Nat} (h:LowP n p) {k:Nat} (hk:k<n):LowP n (p.push k):=fun v hv=>by
  rcases Array.mem_push.mp hv with h' | h'
  · exact h v h'
  · rw [h']; exact hk
theorem LowP.append {p q:Array Nat} (h:LowP n p) (h':LowP n q):LowP n (p++q):=fun v hv=>by
  rcases Array.mem_append.mp hv with z | z
  · exact h v z
  · exact h' v z
theorem LowP.ext {p:Array Nat} (h:LowP n p) (i j:Nat):LowP n (p.extract i j):=fun v hv=>by
  obtain ⟨k,hk,e⟩:=Array.mem_extract_iff_getElem.mp hv
  rw [← e]
  exact h _ (Array.getElem_mem _)
theorem LowP.rev {p:Array Nat} (h:LowP n p):LowP n p.reverse:=fun v hv=>h v (Array.mem_reverse.mp hv)
theorem LowP.one {k:Nat} (h:k<n):LowP n #[k]:=fun v hv=>by
  have e:v=k:=by simpa using hv
  rw [e]; exact h
theorem Uf.iteD {b:Dt→Prop} [∀ d,Decidable (b d)] {m1 m2:Dt→StateT SortSt Sem β} {cv:Dt→α→β} {R:α→Ix→Prop} (b0:Prop) (e:∀ d,b d↔b0) (h1:b0→Uf n c m1 cv x R) (h2:¬ b0→Uf n c m2 cv x R):Uf n c (fun d=>if b d then m1 d else m2 d) cv x R:=by
  by_cases h:b0
  · exact Uf.eq (fun d=>if_pos ((e d).mpr h)) (h1 h)
  · exact Uf.eq (fun d=>if_neg fun z=>h ((e d).mp z)) (h2 h)
theorem Uf.rangeD {body:Dt→Nat→β→StateT SortSt Sem (ForInStep β)} (cv:Dt→α→β) (inv:Nat→α→Ix→Prop) (fin:α→Ix→Prop) {hi:Dt→Nat} (hi0:Nat) (eh:∀ d,hi d=hi0) (a:α) {v:Dt→β} (e:∀ d,v d=cv d a) (h0:inv 0 a x)
    (hs:∀ i a x,i<hi0→inv i a x→Uf n c (fun d=>body d i (cv d a)) (cvS cv) x (stepR (inv (i+1)) fin)) (hd:∀ a x,inv hi0 a x→fin a x):Uf n c (fun d=>forIn [0:hi d] (v d) (body d)) cv x fin:=by
  rw [funext eh]
  exact Uf.range_ cv inv fin a e h0 (fun i a x _ h2=>hs i a x h2) (fun a x h=>hd a x (by rw [Nat.sub_zero,Nat.zero_add] at h; exact h))
theorem Uf.beyond {left:Bool} {key:Nat} {p:Array Nat} {k:Nat} (hk:key<n) (hp:LowP n p) (hi:k<p.size) :
    Uf n c (fun d=>elem' (p.map (kas_item d.2)) k >>= fun y=>if left=true then lt' y (kas_item d.2 key) else lt' (kas_item d.2 key) y >>= fun o=>pure (o.map fun b=>!b)) (fun _ (b:Bool)=>some b) x (fun _ x'=>x'=x):=by
  refine Uf.bind (fun d i=>kas_item d.2 i) (fun i x'=>i<n∧x'=x) ((Uf.elem_ hi).mono fun i x' h=>⟨by rw [h.1]; exact hp.at k hi,h.2⟩) (fun i x' h=>?_)
  obtain ⟨h,rfl⟩:=h
  refine Uf.ite (fun _=>?_) (fun _=>?_)
  · exact (Uf.lt_ h hk).mono fun _ _ z=>z.2
  · refine Uf.bind (fun _ (b:Bool)=>some b) (fun _ y=>y=x') ((Uf.lt_ hk h).mono fun _ _ z=>z.2) (fun b y h=>?_)
    subst h
    exact Uf.ret' (!b) (fun _=>rfl) rfl
abbrev gal:Bool→Keyed→Array Keyed→Nat→Nat→Nat→StateT SortSt Sem (Option Nat):=sortPriv% PySem.Builtin.gallop
theorem Uf.gal_ {left:Bool} {key:Nat} {p:Array Nat} {base m hint:Nat} (hk:key<n) (hp:LowP n p) (hb:base+m≤p.size) (hh:hint<m):Uf n c (fun d=>gal left (kas_item d.2 key) (p.map (kas_item d.2)) base m hint) (fun _ (k:Nat)=>some k) x (fun k x'=>k≤m∧x'=x):=by
  refine Uf.bind (fun _ (b:Bool)=>some b) (fun _ x'=>x'=x) (Uf.beyond (key:=key) (k:=base+hint) hk hp (by omega)) (fun b x' e=>?_)
  subst e
  refine Uf.ite (fun _=>?_) (fun _=>?_)
  · refine Uf.bind (fun _ (a:Option (Option Nat)×Nat×Nat)=>a) (fun a y=>(a.1=none∧a.2.1<m - hint)∧y=x') (Uf.range_ (fun _ (a:Option (Option Nat)×Nat×Nat)=>a) (fun _ a y=>(a.1=none∧a.2.1<m - hint)∧y=x') _ (none,0,1) (fun _=>rfl) ⟨⟨rfl,by show 0<m - hint; omega⟩,rfl⟩ (fun i a y _ _ h=>?_) (fun a y h=>h)) (fun a y h=>?_)
    · obtain ⟨⟨ha,hl⟩,rfl⟩:=h
      obtain ⟨r,last,ofs⟩:=a
      cases ha
      refine Uf.ite (fun _=>?_) (fun no=>?_)
      · exact Uf.ret' (.done (none,last,ofs)) (fun _=>rfl) ⟨⟨rfl,hl⟩,rfl⟩
      · refine Uf.bind (fun _ (b:Bool)=>some b) (fun _ x'=>x'=y) (Uf.beyond (key:=key) (k:=base+(hint+ofs)) hk hp (by dsimp only at no; omega)) (fun b z e=>?_)
        subst e
        refine Uf.ite (fun _=>?_) (fun _=>?_)
        · exact Uf.ret' (.done (none,last,ofs)) (fun _=>rfl) ⟨⟨rfl,hl⟩,rfl⟩
        · exact Uf.ret' (.yield (none,ofs,2 * ofs+1)) (fun _=>rfl) ⟨⟨rfl,by dsimp only at no ⊢; omega⟩,rfl⟩
    · obtain ⟨⟨ha,hl⟩,e2⟩:=h
      subst e2
      obtain ⟨r,last,ofs⟩:=a
      cases ha
      refine Uf.bind (fun _ (a:Option (Option Nat)×Nat×Nat)=>a) (fun a u=>(a.1=none∧a.2.2≤m)∧u=y) (Uf.range_ (fun _ (a:Option (Option Nat)×Nat×Nat)=>a) (fun _ a u=>(a.1=none∧a.2.2≤m)∧u=y) _ (none,hint+last+1,hint+min ofs (m - hint)) (fun _=>rfl) ⟨⟨rfl,by dsimp only at hl ⊢; omega⟩,rfl⟩ (fun i a y _ _ h=>?_) (fun a y h=>h)) (fun a y h=>?_)
      · obtain ⟨⟨ha,hl⟩,rfl⟩:=h
        obtain ⟨r,lo,hi⟩:=a
        cases ha
        refine Uf.ite (fun _=>?_) (fun no=>?_)
        · exact Uf.ret' (.done (none,lo,hi)) (fun _=>rfl) ⟨⟨rfl,hl⟩,rfl⟩
        · dsimp only at no hl
          refine Uf.bind (fun _ (b:Bool)=>some b) (fun _ x'=>x'=y) (Uf.beyond (key:=key) (k:=base+(lo+(hi - lo) / 2)) hk hp (by omega)) (fun b z e=>?_)
          subst e
          refine Uf.ite (fun _=>?_) (fun _=>?_)
          · exact Uf.ret' (.yield (none,lo+(hi - lo) / 2+1,hi)) (fun _=>rfl) ⟨⟨rfl,hl⟩,rfl⟩
          · exact Uf.ret' (.yield (none,lo,lo+(hi - lo) / 2)) (fun _=>rfl) ⟨⟨rfl,by dsimp only; omega⟩,rfl⟩
      · obtain ⟨⟨ha,hl⟩,rfl⟩:=h
        obtain ⟨r,lo,hi⟩:=a
        cases ha
        exact Uf.ret' hi (fun _=>rfl) ⟨hl,rfl⟩
  · refine Uf.bind (fun _ (a:Option (Option Nat)×Nat×Nat)=>a) (fun a y=>(a.1=none∧a.2.1<hint+1)∧y=x') (Uf.range_ (fun _ (a:Option (Option Nat)×Nat×Nat)=>a) (fun _ a y=>(a.1=none∧a.2.1<hint+1)∧y=x') _ (none,0,1) (fun _=>rfl) ⟨⟨rfl,by show 0<hint+1; omega⟩,rfl⟩ (fun i a y _ _ h=>?_) (fun a y h=>h)) (fun a y h=>?_)
    · obtain ⟨⟨ha,hl⟩,rfl⟩:=h
      obtain ⟨r,last,ofs⟩:=a
      cases ha
      refine Uf.ite (fun _=>?_) (fun no=>?_)
      · exact Uf.ret' (.done (none,last,ofs)) (fun _=>rfl) ⟨⟨rfl,hl⟩,rfl⟩
      · refine Uf.bind (fun _ (b:Bool)=>some b) (fun _ x'=>x'=y) (Uf.beyond (key:=key) (k:=base+(hint - ofs)) hk hp (by dsimp only at no; omega)) (fun b z e=>?_)
        subst e
        refine Uf.ite (fun _=>?_) (fun _=>?_)
        · exact Uf.ret' (.done (none,last,ofs)) (fun _=>rfl) ⟨⟨rfl,hl⟩,rfl⟩
        · exact Uf.ret' (.yield (none,ofs,2 * ofs+1)) (fun _=>rfl) ⟨⟨rfl,by dsimp only at no ⊢; omega⟩,rfl⟩
    · obtain ⟨⟨ha,hl⟩,e2⟩:=h
      subst e2
      obtain ⟨r,last,ofs⟩:=a
      cases ha
      refine Uf.bind (fun _ (a:Option (Option Nat)×Nat×Nat)=>a) (fun a u=>(a.1=none∧a.2.2≤m)∧u=y) (Uf.range_ (fun _ (a:Option (Option Nat)×Nat×Nat)=>a) (fun _ a u=>(a.1=none∧a.2.2≤m)∧u=y) _ (none,hint+1 - min ofs (hint+1),hint - last) (fun _=>rfl) ⟨⟨rfl,by dsimp only at hl ⊢; omega⟩,rfl⟩ (fun i a y _ _ h=>?_) (fun a y h=>h)) (fun a y h=>?_)
      · obtain ⟨⟨ha,hl⟩,rfl⟩:=h
        obtain ⟨r,lo,hi⟩:=a
        cases ha
        refine Uf.ite (fun _=>?_) (fun no=>?_)
        · exact Uf.ret' (.done (none,lo,hi)) (fun _=>rfl) ⟨⟨rfl,hl⟩,rfl⟩
        · dsimp only at no hl
          refine Uf.bind (fun _ (b:Bool)=>some b) (fun _ x'=>x'=y) (Uf.beyond (key:=key) (k:=base+(lo+(hi - lo) / 2)) hk hp (by omega)) (fun b z e=>?_)
          subst e
          refine Uf.ite (fun _=>?_) (fun _=>?_)
          · exact Uf.ret' (.yield (none,lo+(hi - lo) / 2+1,hi)) (fun _=>rfl) ⟨⟨rfl,hl⟩,rfl⟩
          · exact Uf.ret' (.yield (none,lo,lo+(hi - lo) / 2)) (fun _=>rfl) ⟨⟨rfl,by dsimp only; omega⟩,rfl⟩
      · obtain ⟨⟨ha,hl⟩,rfl⟩:=h
        obtain ⟨r,lo,hi⟩:=a
        cases ha
        exact Uf.ret' hi (fun _=>rfl) ⟨hl,rfl⟩
theorem Uf.galD {left:Bool} {key:Nat} {p:Array Nat} {base hint:Nat} {m h:Dt→Nat} (m0 h0:Nat) (em:∀ d,m d=m0) (eh:∀ d,h d=h0) (hk:key<n) (hp:LowP n p) (hb:base+m0≤p.size) (hh:h0<m0):Uf n c (fun d=>gal left (kas_item d.2 key) (p.map (kas_item d.2)) base (m d) (h d)) (fun _ (k:Nat)=>some k) x (fun k x'=>k≤m0∧x'=x):=by
  rw [funext em,funext eh]
  exact Uf.gal_ hk hp hb hh
end
end L2
namespace L2
open PySem PySem.Spec PySem.W PyProof.Rows
section
variable {n:Nat} {c:Nat→Nat→Bool} {x:Ix}
abbrev mLo:Array Keyed→Array Keyed→StateT SortSt Sem (Array Keyed):=sortPriv% PySem.Builtin.mergeLo
def Sx (x y:Ix):Prop:=y.1=x.1∧y.2.1=x.2.1
theorem Sx.refl (x:Ix):Sx x x:=⟨rfl,rfl⟩
theorem Sx.trans {x y z:Ix} (h:Sx x y) (h':Sx y z):Sx x z:=⟨h'.1.trans h.1,h'.2.trans h.2⟩
def mapK (d:Dt) (p:Array Nat):Array Keyed:=p.map (kas_item d.2)
theorem mapK_app (d:Dt) (p q:Array Nat):mapK d (p++q)=mapK d p++mapK d q:=Array.map_append
theorem mapK_ext (d:Dt) (p:Array Nat) (i j:Nat):(mapK d p).extract i j=mapK d (p.extract i j):=by unfold mapK; rw [Array.map_extract]
theorem mapK_push (d:Dt) (p:Array Nat) (k:Nat):mapK d (p.push k)=(mapK d p).push (kas_item d.2 k):=Array.map_push
theorem mapK_rev (d:Dt) (p:Array Nat):mapK d p.reverse=(mapK d p).reverse:=Array.map_reverse
theorem mapK_size (d:Dt) (p:Array Nat):(mapK d p).size=p.size:=Array.size_map
theorem mapK_one (d:Dt) (k:Nat):mapK d #[k]=#[kas_item d.2 k]:=by simp [mapK]
abbrev L5:=Option (Array Nat)×Array Nat×Nat×Nat×Nat
abbrev L6:=Option (Array Nat)×Array Nat×Nat×Nat×Nat×Nat
abbrev L7:=Option (Array Nat)×Array Nat×Nat×Nat×Nat×Nat×Nat
def cvL {σ:Type} (d:Dt) (a:Option (Array Nat)×Array Nat×σ):Option (Array Keyed)×Array Keyed×σ:=(a.1.map (mapK d),mapK d a.2.1,a.2.2)
def outL (n:Nat) (r:Option (Array Nat)):Prop:=∀ z,r=some z→LowP n z
theorem Uf.elemK {p:Array Nat} {i:Nat} (hp:LowP n p) (hi:i<p.size):Uf n c (fun d=>elem' (mapK d p) i) (fun d k=>kas_item d.2 k) x (fun k x'=>k<n∧x'=x):=(Uf.elem_ hi).mono fun k x' h=>⟨by rw [h.1]; exact hp.at i hi,h.2⟩
theorem Uf.galK {left:Bool} {key:Nat} {p:Array Nat} {base:Nat} {m h:Dt→Nat} (m0 h0:Nat) (em:∀ d,m d=m0) (eh:∀ d,h d=h0) (hk:key<n) (hp:LowP n p) (hb:base+m0≤p.size) (hh:h0<m0):Uf n c (fun d=>gal left (kas_item d.2 key) (mapK d p) base (m d) (h d)) (fun _ (k:Nat)=>some k) x (fun k x'=>k≤m0∧x'=x):=Uf.galD (hint:=0) m0 h0 em eh hk hp hb hh
abbrev setMG:Nat→StateT SortSt Sem Unit:=sortPriv% PySem.Builtin.setMinGallop
theorem Uf.smgD {g:Dt→Nat} (g0:Nat) (e:∀ d,g d=g0):Uf n c (fun d=>setMG (g d)) (fun _ u=>u) x (fun _ x'=>Sx x x'):=by
  rw [funext e]
  exact Uf.modify_ (x.1,x.2.1,g0) (fun _=>rfl) ⟨rfl,rfl⟩
theorem Uf.mLo_ {p q:Array Nat} (hp:LowP n p) (hq:LowP n q) (p1:1≤p.size) (q1:1≤q.size):Uf n c (fun d=>mLo (mapK d p) (mapK d q)) mapK x (fun r x'=>LowP n r∧Sx x x'):=by
  refine Uf.bind (fun _ u=>u) (fun _ y=>y=x) (Uf.rule_ rfl) (fun _ y e=>?_)
  subst e
  refine Uf.bind (fun d k=>kas_item d.2 k) _ (Uf.elemK hq q1) (fun k0 y h=>?_)
  obtain ⟨k0n,rfl⟩:=h
  refine Uf.iteD (1=q.size) (fun d=>by rw [mapK_size]; exact beq_iff_eq) (fun _=>?_) (fun q2=>?_)
  · exact Uf.ret' (#[k0]++p.extract 0 p.size++q.extract 1 q.size) (fun d=>by rw [mapK_app,mapK_app,mapK_one,← mapK_ext,← mapK_ext,mapK_size,mapK_size]) ⟨((LowP.one k0n).append (hp.ext _ _)).append (hq.ext _ _),Sx.refl _⟩
  refine Uf.iteD (0+1=p.size) (fun d=>by rw [mapK_size]; exact beq_iff_eq) (fun _=>?_) (fun p2=>?_)
  · exact Uf.ret' (#[k0]++q.extract 1 q.size++p.extract 0 p.size) (fun d=>by rw [mapK_app,mapK_app,mapK_one,← mapK_ext,← mapK_ext,mapK_size,mapK_size]) ⟨((LowP.one k0n).append (hq.ext _ _)).append (hp.ext _ _),Sx.refl _⟩
  refine Uf.bind stI _ Uf.get_ (fun a x' h=>?_)
  obtain ⟨rfl,rfl⟩:=h
  refine Uf.bind (cvL (σ:=Nat×Nat×Nat)) (fun (a:L5) y=>(a.1≠none∧outL n a.1)∧Sx x' y)
    (Uf.rangeD (cvL (σ:=Nat×Nat×Nat)) (fun i (a:L5) y=>(a.1=none∧LowP n a.2.1∧a.2.2.1+1<p.size∧a.2.2.2.1<q.size∧i+1≤a.2.2.1+a.2.2.2.1)∧Sx x' y) _ (p.size+q.size) (fun d=>by rw [mapK_size,mapK_size]) (none,#[k0],0,1,x'.2.2) (fun d=>?_) ⟨⟨rfl,LowP.one k0n,by show 0+1<p.size; omega,by show 1<q.size; omega,by show 0+1≤0+1; omega⟩,Sx.refl _⟩ (fun i a y hi h=>?_) (fun a y h=>?_)) (fun a y h=>?_)
  · show (none,#[kas_item d.2 k0],0,1,x'.2.2)=(none,mapK d #[k0],0,1,x'.2.2)
    rw [mapK_one]
  · obtain ⟨⟨ha,lo,b1,b2,b3⟩,sx⟩:=h
    obtain ⟨r,o,ia,ib,g⟩:=a
    cases ha
    dsimp only at lo b1 b2 b3
    refine Uf.bind (cvL (σ:=Nat×Nat×Nat×Nat)) (fun (a:L6) y=>(outL n a.1∧(a.1=none→LowP n a.2.1∧a.2.2.1+1<p.size∧a.2.2.2.1<q.size∧i+2≤a.2.2.1+a.2.2.2.1))∧Sx x' y) (Uf.rangeD (cvL (σ:=Nat×Nat×Nat×Nat)) (fun j (a:L6) y=>(a.1=none∧LowP n a.2.1∧a.2.2.1+1<p.size∧a.2.2.2.1<q.size∧i+1+min j 1≤a.2.2.1+a.2.2.2.1)∧Sx x' y) _ (p.size+q.size) (fun d=>by rw [mapK_size,mapK_size]) (none,o,ia,ib,0,0) (fun _=>rfl) ⟨⟨rfl,lo,b1,b2,by show i+1+min 0 1≤ia+ib; omega⟩,sx⟩ (fun j a y hj h=>?_) (fun a y h=>?_)) (fun a y h=>?_)
    · obtain ⟨⟨ha,lo,b1,b2,b3⟩,sx⟩:=h
      obtain ⟨r,o,ia,ib,ac,bc⟩:=a
      cases ha
      dsimp only at lo b1 b2 b3
      refine Uf.bind (fun d k=>kas_item d.2 k) _ (Uf.elemK hq b2) (fun k1 y1 h=>?_)
      obtain ⟨k1n,rfl⟩:=h
      refine Uf.bind (fun d k=>kas_item d.2 k) _ (Uf.elemK hp (i:=ia) (by omega)) (fun k2 y2 h=>?_)
      obtain ⟨k2n,rfl⟩:=h
      refine Uf.bind (fun _ (b:Bool)=>some b) _ (Uf.lt_ k1n k2n) (fun b y3 h=>?_)
      obtain ⟨_,rfl⟩:=h
      refine Uf.ite (fun _=>?_) (fun _=>?_)
      · refine Uf.bind (fun d k=>kas_item d.2 k) _ (Uf.elemK hq b2) (fun k3 y4 h=>?_)
        obtain ⟨k3n,rfl⟩:=h
        refine Uf.iteD (ib+1=q.size) (fun d=>by rw [mapK_size]; exact beq_iff_eq) (fun _=>?_) (fun ne=>?_)
        · exact Uf.ret' (.done (some (o.push k3++p.extract ia p.size++q.extract (ib+1) q.size),o.push k3,ia,ib+1,0,bc+1)) (fun d=>by simp only [cvS,cvL,Option.map_some,Option.map_none,mapK_app,mapK_push,mapK_ext,mapK_size]) ⟨⟨fun z e=>(by cases e; exact ((lo.push k3n).append (hp.ext _ _)).append (hq.ext _ _)),fun e=>(by cases e)⟩,sx⟩
        refine Uf.iteD (bc+1 ≥ g) (fun _=>Iff.rfl) (fun _=>?_) (fun _=>?_)
        · exact Uf.ret' (.done (none,o.push k3,ia,ib+1,0,bc+1)) (fun d=>by simp only [cvS,cvL,Option.map_some,Option.map_none,mapK_app,mapK_push,mapK_ext,mapK_size]) ⟨⟨fun z e=>(by cases e),fun _=>⟨lo.push k3n,b1,by show ib+1<q.size; omega,by show i+2≤ia+(ib+1); omega⟩⟩,sx⟩
        · exact Uf.ret' (.yield (none,o.push k3,ia,ib+1,0,bc+1)) (fun d=>by simp only [cvS,cvL,Option.map_some,Option.map_none,mapK_app,mapK_push,mapK_ext,mapK_size]) ⟨⟨rfl,lo.push k3n,b1,by show ib+1<q.size; omega,by show i+1+min (j+1) 1≤ia+(ib+1); omega⟩,sx⟩
      · refine Uf.bind (fun d k=>kas_item d.2 k) _ (Uf.elemK hp (i:=ia) (by omega)) (fun k3 y4 h=>?_)
        obtain ⟨k3n,rfl⟩:=h
        refine Uf.iteD (ia+1+1=p.size) (fun d=>by rw [mapK_size]; exact beq_iff_eq) (fun _=>?_) (fun ne=>?_)
        · exact Uf.ret' (.done (some (o.push k3++q.extract ib q.size++p.extract (ia+1) p.size),o.push k3,ia+1,ib,ac+1,0)) (fun d=>by simp only [cvS,cvL,Option.map_some,Option.map_none,mapK_app,mapK_push,mapK_ext,mapK_size]) ⟨⟨fun z e=>(by cases e; exact ((lo.push k3n).append (hq.ext _ _)).append (hp.ext _ _)),fun e=>(by cases e)⟩,sx⟩
        refine Uf.iteD (ac+1 ≥ g) (fun _=>Iff.rfl) (fun _=>?_) (fun _=>?_)
        · exact Uf.ret' (.done (none,o.push k3,ia+1,ib,ac+1,0)) (fun d=>by simp only [cvS,cvL,Option.map_some,Option.map_none,mapK_app,mapK_push,mapK_ext,mapK_size]) ⟨⟨fun z e=>(by cases e),fun _=>⟨lo.push k3n,by show ia+1+1<p.size; omega,b2,by show i+2≤ia+1+ib; omega⟩⟩,sx⟩
        · exact Uf.ret' (.yield (none,o.push k3,ia+1,ib,ac+1,0)) (fun d=>by simp only [cvS,cvL,Option.map_some,Option.map_none,mapK_app,mapK_push,mapK_ext,mapK_size]) ⟨⟨rfl,lo.push k3n,by show ia+1+1<p.size; omega,b2,by show i+1+min (j+1) 1≤ia+1+ib; omega⟩,sx⟩
    · obtain ⟨⟨h1,h2,h3,h4,h5⟩,h6⟩:=h
      exact ⟨⟨fun z e=>(by rw [h1] at e; cases e),fun _=>⟨h2,h3,h4,by omega⟩⟩,h6⟩
    obtain ⟨⟨h1,h2⟩,sx⟩:=h
    obtain ⟨r,o,ia,ib,ac,bc⟩:=a
    cases r with
    | some r=>exact Uf.ret' (.done (some r,o,ia,ib,g)) (fun d=>by simp only [cvS,cvL,Option.map_some,Option.map_none,mapK_app,mapK_push,mapK_ext,mapK_size]) ⟨⟨fun e=>(by cases e),h1⟩,sx⟩
    | none =>
    obtain ⟨lo,b1,b2,b3⟩:=h2 rfl
    clear h1 h2
    dsimp only at lo b1 b2 b3
    refine Uf.bind (fun _ u=>u) (fun _ z=>z=y) (Uf.rule_ rfl) (fun _ z e=>?_)
    subst e
    refine Uf.bind (cvL (σ:=Nat×Nat×Nat×Nat×Nat)) (fun (a:L7) y=>(outL n a.1∧(a.1=none→LowP n a.2.1∧a.2.2.1+1<p.size∧a.2.2.2.1<q.size∧i+2≤a.2.2.1+a.2.2.2.1))∧Sx x' y) (Uf.rangeD (cvL (σ:=Nat×Nat×Nat×Nat×Nat)) (fun _ (a:L7) y=>(a.1=none∧LowP n a.2.1∧a.2.2.1+1<p.size∧a.2.2.2.1<q.size∧i+2≤a.2.2.1+a.2.2.2.1)∧Sx x' y) _ (p.size+q.size) (fun d=>by rw [mapK_size,mapK_size]) (none,o,ia,ib,g+1,ac,bc) (fun _=>rfl) ⟨⟨rfl,lo,b1,b2,b3⟩,sx⟩ (fun j a y hj h=>?_) (fun a y h=>?_)) (fun a y h=>?_)
    · obtain ⟨⟨ha,lo,b1,b2,b3⟩,sx⟩:=h
      obtain ⟨r,o,ia,ib,g,ac,bc⟩:=a
      cases ha
      dsimp only at lo b1 b2 b3
      refine Uf.iteD (g > 1) (fun _=>Iff.rfl) (fun _=>?_) (fun _=>?_)
      · skip
        refine Uf.bind (fun _ u=>u) _ (Uf.smgD (g - 1) (fun _=>rfl)) (fun _ z e=>?_)
        have sx2:=sx.trans e
        clear e
        refine Uf.bind (fun d k=>kas_item d.2 k) _ (Uf.elemK hq b2) (fun k1 y1 h=>?_)
        obtain ⟨k1n,rfl⟩:=h
        refine Uf.bind (fun _ (k:Nat)=>some k) _ (Uf.galK (base:=ia) (p.size - ia) 0 (fun d=>by rw [mapK_size]; rfl) (fun _=>rfl) k1n hp (by omega) (by omega)) (fun k y2 h=>?_)
        obtain ⟨kle,rfl⟩:=h
        refine Uf.ite (fun k00=>?_) (fun k00=>?_)
        · refine Uf.iteD (ia+k+1=p.size) (fun d=>by rw [mapK_size]; exact beq_iff_eq) (fun _=>?_) (fun n1=>?_)
          · exact Uf.ret' (.done (some ((o++p.extract ia (ia+k))++q.extract ib q.size++p.extract (ia+k) p.size),o++p.extract ia (ia+k),ia+k,ib,g - 1,k,bc)) (fun d=>by simp only [cvS,cvL,Option.map_some,Option.map_none,mapK_app,mapK_push,mapK_ext,mapK_size]) ⟨⟨fun z e=>(by cases e; exact ((lo.append (hp.ext ia (ia+k))).append (hq.ext _ _)).append (hp.ext _ _)),fun e=>(by cases e)⟩,sx2⟩
          refine Uf.iteD (ia+k=p.size) (fun d=>by rw [mapK_size]; exact beq_iff_eq) (fun _=>?_) (fun n2=>?_)
          · exact Uf.ret' (.done (some ((o++p.extract ia (ia+k))++p.extract (ia+k) p.size++q.extract ib q.size),o++p.extract ia (ia+k),ia+k,ib,g - 1,k,bc)) (fun d=>by simp only [cvS,cvL,Option.map_some,Option.map_none,mapK_app,mapK_push,mapK_ext,mapK_size]) ⟨⟨fun z e=>(by cases e; exact ((lo.append (hp.ext ia (ia+k))).append (hp.ext _ _)).append (hq.ext _ _)),fun e=>(by cases e)⟩,sx2⟩
          refine Uf.bind (fun d k=>kas_item d.2 k) _ (Uf.elemK hq b2) (fun k3 y3 h=>?_)
          obtain ⟨k3n,rfl⟩:=h
          refine Uf.iteD (ib+1=q.size) (fun d=>by rw [mapK_size]; exact beq_iff_eq) (fun _=>?_) (fun n3=>?_)
          · exact Uf.ret' (.done (some ((o++p.extract ia (ia+k)).push k3++p.extract (ia+k) p.size++q.extract (ib+1) q.size),(o++p.extract ia (ia+k)).push k3,ia+k,ib+1,g - 1,k,bc)) (fun d=>by simp only [cvS,cvL,Option.map_some,Option.map_none,mapK_app,mapK_push,mapK_ext,mapK_size]) ⟨⟨fun z e=>(by cases e; exact (((lo.append (hp.ext ia (ia+k))).push k3n).append (hp.ext _ _)).append (hq.ext _ _)),fun e=>(by cases e)⟩,sx2⟩
          refine Uf.bind (fun d k=>kas_item d.2 k) _ (Uf.elemK hp (i:=ia+k) (by omega)) (fun k4 y4 h=>?_)
          obtain ⟨k4n,rfl⟩:=h
          refine Uf.bind (fun _ (k:Nat)=>some k) _ (Uf.galK (base:=ib+1) (q.size - (ib+1)) 0 (fun d=>by rw [mapK_size]; rfl) (fun _=>rfl) k4n hq (by omega) (by omega)) (fun k5 y5 h=>?_)
          obtain ⟨k5le,rfl⟩:=h
          refine Uf.ite (fun k50=>?_) (fun k50=>?_)
          · refine Uf.iteD (ib+1+k5=q.size) (fun d=>by rw [mapK_size]; exact beq_iff_eq) (fun _=>?_) (fun n5=>?_)
            · exact Uf.ret' (.done (some (((o++p.extract ia (ia+k)).push k3++q.extract (ib+1) (ib+1+k5))++p.extract (ia+k) p.size++q.extract (ib+1+k5) q.size),(o++p.extract ia (ia+k)).push k3++q.extract (ib+1) (ib+1+k5),ia+k,ib+1+k5,g - 1,k,k5)) (fun d=>by simp only [cvS,cvL,Option.map_some,Option.map_none,mapK_app,mapK_push,mapK_ext,mapK_size]) ⟨⟨fun z e=>(by cases e; exact ((((lo.append (hp.ext ia (ia+k))).push k3n).append (hq.ext (ib+1) (ib+1+k5))).append (hp.ext _ _)).append (hq.ext _ _)),fun e=>(by cases e)⟩,sx2⟩
            refine Uf.bind (fun d k=>kas_item d.2 k) _ (Uf.elemK hp (i:=ia+k) (by omega)) (fun k6 y6 h=>?_)
            obtain ⟨k6n,rfl⟩:=h
            refine Uf.iteD (ia+k+1+1=p.size) (fun d=>by rw [mapK_size]; exact beq_iff_eq) (fun _=>?_) (fun n6=>?_)
            · exact Uf.ret' (.done (some (((o++p.extract ia (ia+k)).push k3++q.extract (ib+1) (ib+1+k5)).push k6++q.extract (ib+1+k5) q.size++p.extract (ia+k+1) p.size),((o++p.extract ia (ia+k)).push k3++q.extract (ib+1) (ib+1+k5)).push k6,ia+k+1,ib+1+k5,g - 1,k,k5)) (fun d=>by simp only [cvS,cvL,Option.map_some,Option.map_none,mapK_app,mapK_push,mapK_ext,mapK_size]) ⟨⟨fun z e=>(by cases e; exact (((((lo.append (hp.ext ia (ia+k))).push k3n).append (hq.ext (ib+1) (ib+1+k5))).push k6n).append (hq.ext _ _)).append (hp.ext _ _)),fun e=>(by cases e)⟩,sx2⟩
            refine Uf.iteD ((decide (k<7) && decide (k5<7))=true) (fun _=>Iff.rfl) (fun _=>?_) (fun _=>?_)
            · exact Uf.ret' (.done (none,((o++p.extract ia (ia+k)).push k3++q.extract (ib+1) (ib+1+k5)).push k6,ia+k+1,ib+1+k5,g - 1,k,k5)) (fun d=>by simp only [cvS,cvL,Option.map_some,Option.map_none,mapK_app,mapK_push,mapK_ext,mapK_size]) ⟨⟨fun z e=>(by cases e),fun _=>⟨(((lo.append (hp.ext ia (ia+k))).push k3n).append (hq.ext (ib+1) (ib+1+k5))).push k6n,by show ia+k+1+1<p.size; omega,by show ib+1+k5<q.size; omega,by show i+2≤ia+k+1+(ib+1+k5); omega⟩⟩,sx2⟩
            · exact Uf.ret' (.yield (none,((o++p.extract ia (ia+k)).push k3++q.extract (ib+1) (ib+1+k5)).push k6,ia+k+1,ib+1+k5,g - 1,k,k5)) (fun d=>by simp only [cvS,cvL,Option.map_some,Option.map_none,mapK_app,mapK_push,mapK_ext,mapK_size]) ⟨⟨rfl,(((lo.append (hp.ext ia (ia+k))).push k3n).append (hq.ext (ib+1) (ib+1+k5))).push k6n,by show ia+k+1+1<p.size; omega,by show ib+1+k5<q.size; omega,by show i+2≤ia+k+1+(ib+1+k5); omega⟩,sx2⟩
          · skip
            refine Uf.bind (fun d k=>kas_item d.2 k) _ (Uf.elemK hp (i:=ia+k) (by omega)) (fun k6 y6 h=>?_)
            obtain ⟨k6n,rfl⟩:=h
            refine Uf.iteD (ia+k+1+1=p.size) (fun d=>by rw [mapK_size]; exact beq_iff_eq) (fun _=>?_) (fun n6=>?_)
            · exact Uf.ret' (.done (some (((o++p.extract ia (ia+k)).push k3).push k6++q.extract (ib+1) q.size++p.extract (ia+k+1) p.size),((o++p.extract ia (ia+k)).push k3).push k6,ia+k+1,ib+1,g - 1,k,k5)) (fun d=>by simp only [cvS,cvL,Option.map_some,Option.map_none,mapK_app,mapK_push,mapK_ext,mapK_size]) ⟨⟨fun z e=>(by cases e; exact ((((lo.append (hp.ext ia (ia+k))).push k3n).push k6n).append (hq.ext _ _)).append (hp.ext _ _)),fun e=>(by cases e)⟩,sx2⟩
            refine Uf.iteD ((decide (k<7) && decide (k5<7))=true) (fun _=>Iff.rfl) (fun _=>?_) (fun _=>?_)
            · exact Uf.ret' (.done (none,((o++p.extract ia (ia+k)).push k3).push k6,ia+k+1,ib+1,g - 1,k,k5)) (fun d=>by simp only [cvS,cvL,Option.map_some,Option.map_none,mapK_app,mapK_push,mapK_ext,mapK_size]) ⟨⟨fun z e=>(by cases e),fun _=>⟨((lo.append (hp.ext ia (ia+k))).push k3n).push k6n,by show ia+k+1+1<p.size; omega,by show ib+1<q.size; omega,by show i+2≤ia+k+1+(ib+1); omega⟩⟩,sx2⟩
            · exact Uf.ret' (.yield (none,((o++p.extract ia (ia+k)).push k3).push k6,ia+k+1,ib+1,g - 1,k,k5)) (fun d=>by simp only [cvS,cvL,Option.map_some,Option.map_none,mapK_app,mapK_push,mapK_ext,mapK_size]) ⟨⟨rfl,((lo.append (hp.ext ia (ia+k))).push k3n).push k6n,by show ia+k+1+1<p.size; omega,by show ib+1<q.size; omega,by show i+2≤ia+k+1+(ib+1); omega⟩,sx2⟩
        · skip
          refine Uf.bind (fun d k=>kas_item d.2 k) _ (Uf.elemK hq b2) (fun k3 y3 h=>?_)
          obtain ⟨k3n,rfl⟩:=h
          refine Uf.iteD (ib+1=q.size) (fun d=>by rw [mapK_size]; exact beq_iff_eq) (fun _=>?_) (fun n3=>?_)
          · exact Uf.ret' (.done (some ((o).push k3++p.extract (ia) p.size++q.extract (ib+1) q.size),(o).push k3,ia,ib+1,g - 1,k,bc)) (fun d=>by simp only [cvS,cvL,Option.map_some,Option.map_none,mapK_app,mapK_push,mapK_ext,mapK_size]) ⟨⟨fun z e=>(by cases e; exact ((lo.push k3n).append (hp.ext _ _)).append (hq.ext _ _)),fun e=>(by cases e)⟩,sx2⟩
          refine Uf.bind (fun d k=>kas_item d.2 k) _ (Uf.elemK hp (i:=ia) (by omega)) (fun k4 y4 h=>?_)
          obtain ⟨k4n,rfl⟩:=h
          refine Uf.bind (fun _ (k:Nat)=>some k) _ (Uf.galK (base:=ib+1) (q.size - (ib+1)) 0 (fun d=>by rw [mapK_size]; rfl) (fun _=>rfl) k4n hq (by omega) (by omega)) (fun k5 y5 h=>?_)
          obtain ⟨k5le,rfl⟩:=h
          refine Uf.ite (fun k50=>?_) (fun k50=>?_)
          · refine Uf.iteD (ib+1+k5=q.size) (fun d=>by rw [mapK_size]; exact beq_iff_eq) (fun _=>?_) (fun n5=>?_)
            · exact Uf.ret' (.done (some (((o).push k3++q.extract (ib+1) (ib+1+k5))++p.extract (ia) p.size++q.extract (ib+1+k5) q.size),(o).push k3++q.extract (ib+1) (ib+1+k5),ia,ib+1+k5,g - 1,k,k5)) (fun d=>by simp only [cvS,cvL,Option.map_some,Option.map_none,mapK_app,mapK_push,mapK_ext,mapK_size]) ⟨⟨fun z e=>(by cases e; exact (((lo.push k3n).append (hq.ext (ib+1) (ib+1+k5))).append (hp.ext _ _)).append (hq.ext _ _)),fun e=>(by cases e)⟩,sx2⟩
            refine Uf.bind (fun d k=>kas_item d.2 k) _ (Uf.elemK hp (i:=ia) (by omega)) (fun k6 y6 h=>?_)
            obtain ⟨k6n,rfl⟩:=h
            refine Uf.iteD (ia+1+1=p.size) (fun d=>by rw [mapK_size]; exact beq_iff_eq) (fun _=>?_) (fun n6=>?_)
            · exact Uf.ret' (.done (some (((o).push k3++q.extract (ib+1) (ib+1+k5)).push k6++q.extract (ib+1+k5) q.size++p.extract (ia+1) p.size),((o).push k3++q.extract (ib+1) (ib+1+k5)).push k6,ia+1,ib+1+k5,g - 1,k,k5)) (fun d=>by simp only [cvS,cvL,Option.map_some,Option.map_none,mapK_app,mapK_push,mapK_ext,mapK_size]) ⟨⟨fun z e=>(by cases e; exact ((((lo.push k3n).append (hq.ext (ib+1) (ib+1+k5))).push k6n).append (hq.ext _ _)).append (hp.ext _ _)),fun e=>(by cases e)⟩,sx2⟩
            refine Uf.iteD ((decide (k<7) && decide (k5<7))=true) (fun _=>Iff.rfl) (fun _=>?_) (fun _=>?_)
            · exact Uf.ret' (.done (none,((o).push k3++q.extract (ib+1) (ib+1+k5)).push k6,ia+1,ib+1+k5,g - 1,k,k5)) (fun d=>by simp only [cvS,cvL,Option.map_some,Option.map_none,mapK_app,mapK_push,mapK_ext,mapK_size]) ⟨⟨fun z e=>(by cases e),fun _=>⟨((lo.push k3n).append (hq.ext (ib+1) (ib+1+k5))).push k6n,by show ia+1+1<p.size; omega,by show ib+1+k5<q.size; omega,by show i+2≤ia+1+(ib+1+k5); omega⟩⟩,sx2⟩
            · exact Uf.ret' (.yield (none,((o).push k3++q.extract (ib+1) (ib+1+k5)).push k6,ia+1,ib+1+k5,g - 1,k,k5)) (fun d=>by simp only [cvS,cvL,Option.map_some,Option.map_none,mapK_app,mapK_push,mapK_ext,mapK_size]) ⟨⟨rfl,((lo.push k3n).append (hq.ext (ib+1) (ib+1+k5))).push k6n,by show ia+1+1<p.size; omega,by show ib+1+k5<q.size; omega,by show i+2≤ia+1+(ib+1+k5); omega⟩,sx2⟩
          · skip
            refine Uf.bind (fun d k=>kas_item d.2 k) _ (Uf.elemK hp (i:=ia) (by omega)) (fun k6 y6 h=>?_)
            obtain ⟨k6n,rfl⟩:=h
            refine Uf.iteD (ia+1+1=p.size) (fun d=>by rw [mapK_size]; exact beq_iff_eq) (fun _=>?_) (fun n6=>?_)
            · exact Uf.ret' (.done (some (((o).push k3).push k6++q.extract (ib+1) q.size++p.extract (ia+1) p.size),((o).push k3).push k6,ia+1,ib+1,g - 1,k,k5)) (fun d=>by simp only [cvS,cvL,Option.map_some,Option.map_none,mapK_app,mapK_push,mapK_ext,mapK_size]) ⟨⟨fun z e=>(by cases e; exact (((lo.push k3n).push k6n).append (hq.ext _ _)).append (hp.ext _ _)),fun e=>(by cases e)⟩,sx2⟩
            refine Uf.iteD ((decide (k<7) && decide (k5<7))=true) (fun _=>Iff.rfl) (fun _=>?_) (fun _=>?_)
            · exact Uf.ret' (.done (none,((o).push k3).push k6,ia+1,ib+1,g - 1,k,k5)) (fun d=>by simp only [cvS,cvL,Option.map_some,Option.map_none,mapK_app,mapK_push,mapK_ext,mapK_size]) ⟨⟨fun z e=>(by cases e),fun _=>⟨(lo.push k3n).push k6n,by show ia+1+1<p.size; omega,by show ib+1<q.size; omega,by show i+2≤ia+1+(ib+1); omega⟩⟩,sx2⟩
            · exact Uf.ret' (.yield (none,((o).push k3).push k6,ia+1,ib+1,g - 1,k,k5)) (fun d=>by simp only [cvS,cvL,Option.map_some,Option.map_none,mapK_app,mapK_push,mapK_ext,mapK_size]) ⟨⟨rfl,(lo.push k3n).push k6n,by show ia+1+1<p.size; omega,by show ib+1<q.size; omega,by show i+2≤ia+1+(ib+1); omega⟩,sx2⟩
      · skip
        refine Uf.bind (fun _ u=>u) _ (Uf.smgD (g) (fun _=>rfl)) (fun _ z e=>?_)
        have sx2:=sx.trans e
        clear e
        refine Uf.bind (fun d k=>kas_item d.2 k) _ (Uf.elemK hq b2) (fun k1 y1 h=>?_)
        obtain ⟨k1n,rfl⟩:=h
        refine Uf.bind (fun _ (k:Nat)=>some k) _ (Uf.galK (base:=ia) (p.size - ia) 0 (fun d=>by rw [mapK_size]; rfl) (fun _=>rfl) k1n hp (by omega) (by omega)) (fun k y2 h=>?_)
        obtain ⟨kle,rfl⟩:=h
        refine Uf.ite (fun k00=>?_) (fun k00=>?_)
        · refine Uf.iteD (ia+k+1=p.size) (fun d=>by rw [mapK_size]; exact beq_iff_eq) (fun _=>?_) (fun n1=>?_)
          · exact Uf.ret' (.done (some ((o++p.extract ia (ia+k))++q.extract ib q.size++p.extract (ia+k) p.size),o++p.extract ia (ia+k),ia+k,ib,g,k,bc)) (fun d=>by simp only [cvS,cvL,Option.map_some,Option.map_none,mapK_app,mapK_push,mapK_ext,mapK_size]) ⟨⟨fun z e=>(by cases e; exact ((lo.append (hp.ext ia (ia+k))).append (hq.ext _ _)).append (hp.ext _ _)),fun e=>(by cases e)⟩,sx2⟩
          refine Uf.iteD (ia+k=p.size) (fun d=>by rw [mapK_size]; exact beq_iff_eq) (fun _=>?_) (fun n2=>?_)
          · exact Uf.ret' (.done (some ((o++p.extract ia (ia+k))++p.extract (ia+k) p.size++q.extract ib q.size),o++p.extract ia (ia+k),ia+k,ib,g,k,bc)) (fun d=>by simp only [cvS,cvL,Option.map_some,Option.map_none,mapK_app,mapK_push,mapK_ext,mapK_size]) ⟨⟨fun z e=>(by cases e; exact ((lo.append (hp.ext ia (ia+k))).append (hp.ext _ _)).append (hq.ext _ _)),fun e=>(by cases e)⟩,sx2⟩
          refine Uf.bind (fun d k=>kas_item d.2 k) _ (Uf.elemK hq b2) (fun k3 y3 h=>?_)
          obtain ⟨k3n,rfl⟩:=h
          refine Uf.iteD (ib+1=q.size) (fun d=>by rw [mapK_size]; exact beq_iff_eq) (fun _=>?_) (fun n3=>?_)
          · exact Uf.ret' (.done (some ((o++p.extract ia (ia+k)).push k3++p.extract (ia+k) p.size++q.extract (ib+1) q.size),(o++p.extract ia (ia+k)).push k3,ia+k,ib+1,g,k,bc)) (fun d=>by simp only [cvS,cvL,Option.map_some,Option.map_none,mapK_app,mapK_push,mapK_ext,mapK_size]) ⟨⟨fun z e=>(by cases e; exact (((lo.append (hp.ext ia (ia+k))).push k3n).append (hp.ext _ _)).append (hq.ext _ _)),fun e=>(by cases e)⟩,sx2⟩
          refine Uf.bind (fun d k=>kas_item d.2 k) _ (Uf.elemK hp (i:=ia+k) (by omega)) (fun k4 y4 h=>?_)
          obtain ⟨k4n,rfl⟩:=h
          refine Uf.bind (fun _ (k:Nat)=>some k) _ (Uf.galK (base:=ib+1) (q.size - (ib+1)) 0 (fun d=>by rw [mapK_size]; rfl) (fun _=>rfl) k4n hq (by omega) (by omega)) (fun k5 y5 h=>?_)
          obtain ⟨k5le,rfl⟩:=h
          refine Uf.ite (fun k50=>?_) (fun k50=>?_)
          · refine Uf.iteD (ib+1+k5=q.size) (fun d=>by rw [mapK_size]; exact beq_iff_eq) (fun _=>?_) (fun n5=>?_)
            · exact Uf.ret' (.done (some (((o++p.extract ia (ia+k)).push k3++q.extract (ib+1) (ib+1+k5))++p.extract (ia+k) p.size++q.extract (ib+1+k5) q.size),(o++p.extract ia (ia+k)).push k3++q.extract (ib+1) (ib+1+k5),ia+k,ib+1+k5,g,k,k5)) (fun d=>by simp only [cvS,cvL,Option.map_some,Option.map_none,mapK_app,mapK_push,mapK_ext,mapK_size]) ⟨⟨fun z e=>(by cases e; exact ((((lo.append (hp.ext ia (ia+k))).push k3n).append (hq.ext (ib+1) (ib+1+k5))).append (hp.ext _ _)).append (hq.ext _ _)),fun e=>(by cases e)⟩,sx2⟩
            refine Uf.bind (fun d k=>kas_item d.2 k) _ (Uf.elemK hp (i:=ia+k) (by omega)) (fun k6 y6 h=>?_)
            obtain ⟨k6n,rfl⟩:=h
            refine Uf.iteD (ia+k+1+1=p.size) (fun d=>by rw [mapK_size]; exact beq_iff_eq) (fun _=>?_) (fun n6=>?_)
            · exact Uf.ret' (.done (some (((o++p.extract ia (ia+k)).push k3++q.extract (ib+1) (ib+1+k5)).push k6++q.extract (ib+1+k5) q.size++p.extract (ia+k+1) p.size),((o++p.extract ia (ia+k)).push k3++q.extract (ib+1) (ib+1+k5)).push k6,ia+k+1,ib+1+k5,g,k,k5)) (fun d=>by simp only [cvS,cvL,Option.map_some,Option.map_none,mapK_app,mapK_push,mapK_ext,mapK_size]) ⟨⟨fun z e=>(by cases e; exact (((((lo.append (hp.ext ia (ia+k))).push k3n).append (hq.ext (ib+1) (ib+1+k5))).push k6n).append (hq.ext _ _)).append (hp.ext _ _)),fun e=>(by cases e)⟩,sx2⟩
            refine Uf.iteD ((decide (k<7) && decide (k5<7))=true) (fun _=>Iff.rfl) (fun _=>?_) (fun _=>?_)
            · exact Uf.ret' (.done (none,((o++p.extract ia (ia+k)).push k3++q.extract (ib+1) (ib+1+k5)).push k6,ia+k+1,ib+1+k5,g,k,k5)) (fun d=>by simp only [cvS,cvL,Option.map_some,Option.map_none,mapK_app,mapK_push,mapK_ext,mapK_size]) ⟨⟨fun z e=>(by cases e),fun _=>⟨(((lo.append (hp.ext ia (ia+k))).push k3n).append (hq.ext (ib+1) (ib+1+k5))).push k6n,by show ia+k+1+1<p.size; omega,by show ib+1+k5<q.size; omega,by show i+2≤ia+k+1+(ib+1+k5); omega⟩⟩,sx2⟩
            · exact Uf.ret' (.yield (none,((o++p.extract ia (ia+k)).push k3++q.extract (ib+1) (ib+1+k5)).push k6,ia+k+1,ib+1+k5,g,k,k5)) (fun d=>by simp only [cvS,cvL,Option.map_some,Option.map_none,mapK_app,mapK_push,mapK_ext,mapK_size]) ⟨⟨rfl,(((lo.append (hp.ext ia (ia+k))).push k3n).append (hq.ext (ib+1) (ib+1+k5))).push k6n,by show ia+k+1+1<p.size; omega,by show ib+1+k5<q.size; omega,by show i+2≤ia+k+1+(ib+1+k5); omega⟩,sx2⟩
          · skip
            refine Uf.bind (fun d k=>kas_item d.2 k) _ (Uf.elemK hp (i:=ia+k) (by omega)) (fun k6 y6 h=>?_)
            obtain ⟨k6n,rfl⟩:=h
            refine Uf.iteD (ia+k+1+1=p.size) (fun d=>by rw [mapK_size]; exact beq_iff_eq) (fun _=>?_) (fun n6=>?_)
            · exact Uf.ret' (.done (some (((o++p.extract ia (ia+k)).push k3).push k6++q.extract (ib+1) q.size++p.extract (ia+k+1) p.size),((o++p.extract ia (ia+k)).push k3).push k6,ia+k+1,ib+1,g,k,k5)) (fun d=>by simp only [cvS,cvL,Option.map_some,Option.map_none,mapK_app,mapK_push,mapK_ext,mapK_size]) ⟨⟨fun z e=>(by cases e; exact ((((lo.append (hp.ext ia (ia+k))).push k3n).push k6n).append (hq.ext _ _)).append (hp.ext _ _)),fun e=>(by cases e)⟩,sx2⟩
            refine Uf.iteD ((decide (k<7) && decide (k5<7))=true) (fun _=>Iff.rfl) (fun _=>?_) (fun _=>?_)
            · exact Uf.ret' (.done (none,((o++p.extract ia (ia+k)).push k3).push k6,ia+k+1,ib+1,g,k,k5)) (fun d=>by simp only [cvS,cvL,Option.map_some,Option.map_none,mapK_app,mapK_push,mapK_ext,mapK_size]) ⟨⟨fun z e=>(by cases e),fun _=>⟨((lo.append (hp.ext ia (ia+k))).push k3n).push k6n,by show ia+k+1+1<p.size; omega,by show ib+1<q.size; omega,by show i+2≤ia+k+1+(ib+1); omega⟩⟩,sx2⟩
            · exact Uf.ret' (.yield (none,((o++p.extract ia (ia+k)).push k3).push k6,ia+k+1,ib+1,g,k,k5)) (fun d=>by simp only [cvS,cvL,Option.map_some,Option.map_none,mapK_app,mapK_push,mapK_ext,mapK_size]) ⟨⟨rfl,((lo.append (hp.ext ia (ia+k))).push k3n).push k6n,by show ia+k+1+1<p.size; omega,by show ib+1<q.size; omega,by show i+2≤ia+k+1+(ib+1); omega⟩,sx2⟩
        · skip
          refine Uf.bind (fun d k=>kas_item d.2 k) _ (Uf.elemK hq b2) (fun k3 y3 h=>?_)
          obtain ⟨k3n,rfl⟩:=h
          refine Uf.iteD (ib+1=q.size) (fun d=>by rw [mapK_size]; exact beq_iff_eq) (fun _=>?_) (fun n3=>?_)
          · exact Uf.ret' (.done (some ((o).push k3++p.extract (ia) p.size++q.extract (ib+1) q.size),(o).push k3,ia,ib+1,g,k,bc)) (fun d=>by simp only [cvS,cvL,Option.map_some,Option.map_none,mapK_app,mapK_push,mapK_ext,mapK_size]) ⟨⟨fun z e=>(by cases e; exact ((lo.push k3n).append (hp.ext _ _)).append (hq.ext _ _)),fun e=>(by cases e)⟩,sx2⟩
          refine Uf.bind (fun d k=>kas_item d.2 k) _ (Uf.elemK hp (i:=ia) (by omega)) (fun k4 y4 h=>?_)
          obtain ⟨k4n,rfl⟩:=h
          refine Uf.bind (fun _ (k:Nat)=>some k) _ (Uf.galK (base:=ib+1) (q.size - (ib+1)) 0 (fun d=>by rw [mapK_size]; rfl) (fun _=>rfl) k4n hq (by omega) (by omega)) (fun k5 y5 h=>?_)
          obtain ⟨k5le,rfl⟩:=h
          refine Uf.ite (fun k50=>?_) (fun k50=>?_)
          · refine Uf.iteD (ib+1+k5=q.size) (fun d=>by rw [mapK_size]; exact beq_iff_eq) (fun _=>?_) (fun n5=>?_)
            · exact Uf.ret' (.done (some (((o).push k3++q.extract (ib+1) (ib+1+k5))++p.extract (ia) p.size++q.extract (ib+1+k5) q.size),(o).push k3++q.extract (ib+1) (ib+1+k5),ia,ib+1+k5,g,k,k5)) (fun d=>by simp only [cvS,cvL,Option.map_some,Option.map_none,mapK_app,mapK_push,mapK_ext,mapK_size]) ⟨⟨fun z e=>(by cases e; exact (((lo.push k3n).append (hq.ext (ib+1) (ib+1+k5))).append (hp.ext _ _)).append (hq.ext _ _)),fun e=>(by cases e)⟩,sx2⟩
            refine Uf.bind (fun d k=>kas_item d.2 k) _ (Uf.elemK hp (i:=ia) (by omega)) (fun k6 y6 h=>?_)
            obtain ⟨k6n,rfl⟩:=h
            refine Uf.iteD (ia+1+1=p.size) (fun d=>by rw [mapK_size]; exact beq_iff_eq) (fun _=>?_) (fun n6=>?_)
            · exact Uf.ret' (.done (some (((o).push k3++q.extract (ib+1) (ib+1+k5)).push k6++q.extract (ib+1+k5) q.size++p.extract (ia+1) p.size),((o).push k3++q.extract (ib+1) (ib+1+k5)).push k6,ia+1,ib+1+k5,g,k,k5)) (fun d=>by simp only [cvS,cvL,Option.map_some,Option.map_none,mapK_app,mapK_push,mapK_ext,mapK_size]) ⟨⟨fun z e=>(by cases e; exact ((((lo.push k3n).append (hq.ext (ib+1) (ib+1+k5))).push k6n).append (hq.ext _ _)).append (hp.ext _ _)),fun e=>(by cases e)⟩,sx2⟩
            refine Uf.iteD ((decide (k<7) && decide (k5<7))=true) (fun _=>Iff.rfl) (fun _=>?_) (fun _=>?_)
            · exact Uf.ret' (.done (none,((o).push k3++q.extract (ib+1) (ib+1+k5)).push k6,ia+1,ib+1+k5,g,k,k5)) (fun d=>by simp only [cvS,cvL,Option.map_some,Option.map_none,mapK_app,mapK_push,mapK_ext,mapK_size]) ⟨⟨fun z e=>(by cases e),fun _=>⟨((lo.push k3n).append (hq.ext (ib+1) (ib+1+k5))).push k6n,by show ia+1+1<p.size; omega,by show ib+1+k5<q.size; omega,by show i+2≤ia+1+(ib+1+k5); omega⟩⟩,sx2⟩
            · exact Uf.ret' (.yield (none,((o).push k3++q.extract (ib+1) (ib+1+k5)).push k6,ia+1,ib+1+k5,g,k,k5)) (fun d=>by simp only [cvS,cvL,Option.map_some,Option.map_none,mapK_app,mapK_push,mapK_ext,mapK_size]) ⟨⟨rfl,((lo.push k3n).append (hq.ext (ib+1) (ib+1+k5))).push k6n,by show ia+1+1<p.size; omega,by show ib+1+k5<q.size; omega,by show i+2≤ia+1+(ib+1+k5); omega⟩,sx2⟩
          · skip
            refine Uf.bind (fun d k=>kas_item d.2 k) _ (Uf.elemK hp (i:=ia) (by omega)) (fun k6 y6 h=>?_)
            obtain ⟨k6n,rfl⟩:=h
            refine Uf.iteD (ia+1+1=p.size) (fun d=>by rw [mapK_size]; exact beq_iff_eq) (fun _=>?_) (fun n6=>?_)
            · exact Uf.ret' (.done (some (((o).push k3).push k6++q.extract (ib+1) q.size++p.extract (ia+1) p.size),((o).push k3).push k6,ia+1,ib+1,g,k,k5)) (fun d=>by simp only [cvS,cvL,Option.map_some,Option.map_none,mapK_app,mapK_push,mapK_ext,mapK_size]) ⟨⟨fun z e=>(by cases e; exact (((lo.push k3n).push k6n).append (hq.ext _ _)).append (hp.ext _ _)),fun e=>(by cases e)⟩,sx2⟩
            refine Uf.iteD ((decide (k<7) && decide (k5<7))=true) (fun _=>Iff.rfl) (fun _=>?_) (fun _=>?_)
            · exact Uf.ret' (.done (none,((o).push k3).push k6,ia+1,ib+1,g,k,k5)) (fun d=>by simp only [cvS,cvL,Option.map_some,Option.map_none,mapK_app,mapK_push,mapK_ext,mapK_size]) ⟨⟨fun z e=>(by cases e),fun _=>⟨(lo.push k3n).push k6n,by show ia+1+1<p.size; omega,by show ib+1<q.size; omega,by show i+2≤ia+1+(ib+1); omega⟩⟩,sx2⟩
            · exact Uf.ret' (.yield (none,((o).push k3).push k6,ia+1,ib+1,g,k,k5)) (fun d=>by simp only [cvS,cvL,Option.map_some,Option.map_none,mapK_app,mapK_push,mapK_ext,mapK_size]) ⟨⟨rfl,(lo.push k3n).push k6n,by show ia+1+1<p.size; omega,by show ib+1<q.size; omega,by show i+2≤ia+1+(ib+1); omega⟩,sx2⟩
    · obtain ⟨⟨h1,h2,h3,h4,h5⟩,h6⟩:=h
      exact ⟨⟨fun z e=>(by rw [h1] at e; cases e),fun _=>⟨h2,h3,h4,h5⟩⟩,h6⟩
    obtain ⟨⟨h1,h2⟩,sx⟩:=h
    obtain ⟨r,o,ia,ib,g,ac,bc⟩:=a
    cases r with
    | some r=>exact Uf.ret' (.done (some r,o,ia,ib,g)) (fun d=>by simp only [cvS,cvL,Option.map_some,Option.map_none,mapK_app,mapK_push,mapK_ext,mapK_size]) ⟨⟨fun e=>(by cases e),h1⟩,sx⟩
    | none =>
    obtain ⟨lo,b1,b2,b3⟩:=h2 rfl
    refine Uf.bind (fun _ u=>u) (fun _ z=>Sx y z) (Uf.smgD (g+1) (fun _=>rfl)) (fun _ z e=>?_)
    exact Uf.ret' (.yield (none,o,ia,ib,g+1)) (fun d=>by simp only [cvS,cvL,Option.map_some,Option.map_none,mapK_app,mapK_push,mapK_ext,mapK_size]) ⟨⟨rfl,lo,b1,b2,by show i+1+1≤ia+ib; omega⟩,sx.trans e⟩
  · obtain ⟨⟨_,_,h1,h2,h3⟩,_⟩:=h
    omega
  · obtain ⟨⟨h1,h2⟩,h3⟩:=h
    obtain ⟨r,o,ia,ib,g⟩:=a
    cases r with
    | none=>exact absurd rfl h1
    | some r=>exact Uf.ret' r (fun _=>rfl) ⟨h2 r rfl,h3⟩
end
end L2
namespace L2
open PySem PySem.Spec PySem.W PyProof.Rows
section
variable {n:Nat} {c:Nat→Nat→Bool} {x:Ix}
abbrev mHi:Array Keyed→Array Keyed→StateT SortSt Sem (Array Keyed):=sortPriv% PySem.Builtin.mergeHi
abbrev H5:=Option (Array Nat)×Nat×Nat×Array Nat×Nat
abbrev H6:=Option (Array Nat)×Nat×Nat×Array Nat×Nat×Nat
abbrev H7:=Option (Array Nat)×Nat×Nat×Array Nat×Nat×Nat×Nat
def cvH {σ:Type} (d:Dt) (a:Option (Array Nat)×Nat×Nat×Array Nat×σ):Option (Array Keyed)×Nat×Nat×Array Keyed×σ:=(a.1.map (mapK d),a.2.1,a.2.2.1,mapK d a.2.2.2.1,a.2.2.2.2)
theorem Uf.elemD {p:Array Nat} {i:Dt→Nat} (i0:Nat) (e:∀ d,i d=i0) (hp:LowP n p) (hi:i0<p.size):Uf n c (fun d=>elem' (mapK d p) (i d)) (fun d k=>kas_item d.2 k) x (fun k x'=>k<n∧x'=x):=by
  rw [funext e]
  exact Uf.elemK hp hi
theorem Uf.mHi_ {p q:Array Nat} (hp:LowP n p) (hq:LowP n q) (p1:1≤p.size) (q1:1≤q.size):Uf n c (fun d=>mHi (mapK d p) (mapK d q)) mapK x (fun r x'=>LowP n r∧Sx x x'):=by
  refine Uf.bind (fun _ u=>u) (fun _ y=>y=x) (Uf.rule_ rfl) (fun _ y e=>?_)
  subst e
  refine Uf.bind (fun d k=>kas_item d.2 k) _ (Uf.elemD (p.size - 1) (fun d=>by rw [mapK_size]) hp (by omega)) (fun k0 y h=>?_)
  obtain ⟨k0n,rfl⟩:=h
  refine Uf.iteD (p.size - 1=0) (fun d=>by rw [mapK_size]; exact beq_iff_eq) (fun _=>?_) (fun p2=>?_)
  · exact Uf.ret' (p.extract 0 (p.size - 1)++q.extract 0 (q.size)++(#[k0]).reverse) (fun d=>by rw [mapK_app,mapK_app,mapK_rev,mapK_one,← mapK_ext,← mapK_ext,mapK_size,mapK_size]) ⟨((hp.ext _ _).append (hq.ext _ _)).append (LowP.one k0n).rev,Sx.refl _⟩
  refine Uf.iteD (q.size=1) (fun d=>by rw [mapK_size]; exact beq_iff_eq) (fun _=>?_) (fun q2=>?_)
  · exact Uf.ret' (q.extract 0 (q.size)++p.extract 0 (p.size - 1)++(#[k0]).reverse) (fun d=>by rw [mapK_app,mapK_app,mapK_rev,mapK_one,← mapK_ext,← mapK_ext,mapK_size,mapK_size]) ⟨((hq.ext _ _).append (hp.ext _ _)).append (LowP.one k0n).rev,Sx.refl _⟩
  refine Uf.bind stI _ Uf.get_ (fun a x' h=>?_)
  obtain ⟨rfl,rfl⟩:=h
  refine Uf.bind (cvH (σ:=Nat)) (fun (a:H5) y=>(a.1≠none∧outL n a.1)∧Sx x' y)
    (Uf.rangeD (cvH (σ:=Nat)) (fun i (a:H5) y=>(a.1=none∧LowP n a.2.2.2.1∧(1≤a.2.1∧a.2.1≤p.size)∧(2≤a.2.2.1∧a.2.2.1≤q.size)∧i+1+a.2.1+a.2.2.1≤p.size+q.size)∧Sx x' y) _ (p.size+q.size) (fun d=>by rw [mapK_size,mapK_size]) (none,p.size - 1,q.size,#[k0],x'.2.2) (fun d=>?_) ⟨⟨rfl,LowP.one k0n,⟨by show 1≤p.size - 1; omega,by show p.size - 1≤p.size; omega⟩,⟨by show 2≤q.size; omega,Nat.le_refl _⟩,by show 0+1+(p.size - 1)+q.size≤p.size+q.size; omega⟩,Sx.refl _⟩ (fun i a y hi h=>?_) (fun a y h=>?_)) (fun a y h=>?_)
  · show (none,(mapK d p).size - 1,(mapK d q).size,#[kas_item d.2 k0],x'.2.2)=(none,p.size - 1,q.size,mapK d #[k0],x'.2.2)
    rw [mapK_one,mapK_size,mapK_size]
  · obtain ⟨⟨ha,lo,⟨a1,a2⟩,⟨b1,b2⟩,b3⟩,sx⟩:=h
    obtain ⟨r,na,nb,o,g⟩:=a
    cases ha
    dsimp only at lo a1 a2 b1 b2 b3
    refine Uf.bind (cvH (σ:=Nat×Nat)) (fun (a:H6) y=>(outL n a.1∧(a.1=none→LowP n a.2.2.2.1∧(1≤a.2.1∧a.2.1≤p.size)∧(2≤a.2.2.1∧a.2.2.1≤q.size)∧i+2+a.2.1+a.2.2.1≤p.size+q.size))∧Sx x' y) (Uf.rangeD (cvH (σ:=Nat×Nat)) (fun j (a:H6) y=>(a.1=none∧LowP n a.2.2.2.1∧(1≤a.2.1∧a.2.1≤p.size)∧(2≤a.2.2.1∧a.2.2.1≤q.size)∧i+1+min j 1+a.2.1+a.2.2.1≤p.size+q.size)∧Sx x' y) _ (p.size+q.size) (fun d=>by rw [mapK_size,mapK_size]) (none,na,nb,o,0,0) (fun _=>rfl) ⟨⟨rfl,lo,⟨a1,a2⟩,⟨b1,b2⟩,by show i+1+min 0 1+na+nb≤_; omega⟩,sx⟩ (fun j a y hj h=>?_) (fun a y h=>?_)) (fun a y h=>?_)
    · obtain ⟨⟨ha,lo,⟨a1,a2⟩,⟨b1,b2⟩,b3⟩,sx⟩:=h
      obtain ⟨r,na,nb,o,ac,bc⟩:=a
      cases ha
      dsimp only at lo a1 a2 b1 b2 b3
      refine Uf.bind (fun d k=>kas_item d.2 k) _ (Uf.elemK hq (i:=nb - 1) (by omega)) (fun k1 y1 h=>?_)
      obtain ⟨k1n,rfl⟩:=h
      refine Uf.bind (fun d k=>kas_item d.2 k) _ (Uf.elemK hp (i:=na - 1) (by omega)) (fun k2 y2 h=>?_)
      obtain ⟨k2n,rfl⟩:=h
      refine Uf.bind (fun _ (b:Bool)=>some b) _ (Uf.lt_ k1n k2n) (fun b y3 h=>?_)
      obtain ⟨_,rfl⟩:=h
      refine Uf.ite (fun _=>?_) (fun _=>?_)
      · refine Uf.bind (fun d k=>kas_item d.2 k) _ (Uf.elemK hp (i:=na - 1) (by omega)) (fun k3 y4 h=>?_)
        obtain ⟨k3n,rfl⟩:=h
        refine Uf.iteD (na - 1=0) (fun d=>by exact beq_iff_eq) (fun _=>?_) (fun ne=>?_)
        · exact Uf.ret' (.done (some (p.extract 0 (na - 1)++q.extract 0 (nb)++(o.push k3).reverse),na - 1,nb,o.push k3,ac+1,0)) (fun d=>by simp only [cvS,cvH,Option.map_some,Option.map_none,mapK_app,mapK_push,mapK_ext,mapK_rev,mapK_size]) ⟨⟨fun z e=>(by cases e; exact ((hp.ext _ _).append (hq.ext _ _)).append (lo.push k3n).rev),fun e=>(by cases e)⟩,sx⟩
        refine Uf.iteD (ac+1 ≥ g) (fun _=>Iff.rfl) (fun _=>?_) (fun _=>?_)
        · exact Uf.ret' (.done (none,na - 1,nb,o.push k3,ac+1,0)) (fun d=>by simp only [cvS,cvH,Option.map_some,Option.map_none,mapK_app,mapK_push,mapK_ext,mapK_rev,mapK_size]) ⟨⟨fun z e=>(by cases e),fun _=>⟨lo.push k3n,⟨by show 1≤na - 1; omega,by show na - 1≤p.size; omega⟩,⟨b1,b2⟩,by show i+2+(na - 1)+nb≤_; omega⟩⟩,sx⟩
        · exact Uf.ret' (.yield (none,na - 1,nb,o.push k3,ac+1,0)) (fun d=>by simp only [cvS,cvH,Option.map_some,Option.map_none,mapK_app,mapK_push,mapK_ext,mapK_rev,mapK_size]) ⟨⟨rfl,lo.push k3n,⟨by show 1≤na - 1; omega,by show na - 1≤p.size; omega⟩,⟨b1,b2⟩,by show i+1+min (j+1) 1+(na - 1)+nb≤_; omega⟩,sx⟩
      · refine Uf.bind (fun d k=>kas_item d.2 k) _ (Uf.elemK hq (i:=nb - 1) (by omega)) (fun k3 y4 h=>?_)
        obtain ⟨k3n,rfl⟩:=h
        refine Uf.iteD (nb - 1=1) (fun d=>by exact beq_iff_eq) (fun _=>?_) (fun ne=>?_)
        · exact Uf.ret' (.done (some (q.extract 0 (nb - 1)++p.extract 0 (na)++(o.push k3).reverse),na,nb - 1,o.push k3,0,bc+1)) (fun d=>by simp only [cvS,cvH,Option.map_some,Option.map_none,mapK_app,mapK_push,mapK_ext,mapK_rev,mapK_size]) ⟨⟨fun z e=>(by cases e; exact ((hq.ext _ _).append (hp.ext _ _)).append (lo.push k3n).rev),fun e=>(by cases e)⟩,sx⟩
        refine Uf.iteD (bc+1 ≥ g) (fun _=>Iff.rfl) (fun _=>?_) (fun _=>?_)
        · exact Uf.ret' (.done (none,na,nb - 1,o.push k3,0,bc+1)) (fun d=>by simp only [cvS,cvH,Option.map_some,Option.map_none,mapK_app,mapK_push,mapK_ext,mapK_rev,mapK_size]) ⟨⟨fun z e=>(by cases e),fun _=>⟨lo.push k3n,⟨a1,a2⟩,⟨by show 2≤nb - 1; omega,by show nb - 1≤q.size; omega⟩,by show i+2+na+(nb - 1)≤_; omega⟩⟩,sx⟩
        · exact Uf.ret' (.yield (none,na,nb - 1,o.push k3,0,bc+1)) (fun d=>by simp only [cvS,cvH,Option.map_some,Option.map_none,mapK_app,mapK_push,mapK_ext,mapK_rev,mapK_size]) ⟨⟨rfl,lo.push k3n,⟨a1,a2⟩,⟨by show 2≤nb - 1; omega,by show nb - 1≤q.size; omega⟩,by show i+1+min (j+1) 1+na+(nb - 1)≤_; omega⟩,sx⟩
    · obtain ⟨⟨h1,h2,h3,h4,h5⟩,h6⟩:=h
      exact ⟨⟨fun z e=>(by rw [h1] at e; cases e),fun _=>⟨h2,h3,h4,by omega⟩⟩,h6⟩
    obtain ⟨⟨h1,h2⟩,sx⟩:=h
    obtain ⟨r,na,nb,o,ac,bc⟩:=a
    cases r with
    | some r=>exact Uf.ret' (.done (some r,na,nb,o,g)) (fun d=>by simp only [cvS,cvH,Option.map_some,Option.map_none,mapK_app,mapK_push,mapK_ext,mapK_rev,mapK_size]) ⟨⟨fun e=>(by cases e),h1⟩,sx⟩
    | none =>
    obtain ⟨lo,⟨a1,a2⟩,⟨b1,b2⟩,b3⟩:=h2 rfl
    clear h1 h2
    dsimp only at lo a1 a2 b1 b2 b3
    refine Uf.bind (fun _ u=>u) (fun _ z=>z=y) (Uf.rule_ rfl) (fun _ z e=>?_)
    subst e
    refine Uf.bind (cvH (σ:=Nat×Nat×Nat)) (fun (a:H7) y=>(outL n a.1∧(a.1=none→LowP n a.2.2.2.1∧(1≤a.2.1∧a.2.1≤p.size)∧(2≤a.2.2.1∧a.2.2.1≤q.size)∧i+2+a.2.1+a.2.2.1≤p.size+q.size))∧Sx x' y) (Uf.rangeD (cvH (σ:=Nat×Nat×Nat)) (fun _ (a:H7) y=>(a.1=none∧LowP n a.2.2.2.1∧(1≤a.2.1∧a.2.1≤p.size)∧(2≤a.2.2.1∧a.2.2.1≤q.size)∧i+2+a.2.1+a.2.2.1≤p.size+q.size)∧Sx x' y) _ (p.size+q.size) (fun d=>by rw [mapK_size,mapK_size]) (none,na,nb,o,g+1,ac,bc) (fun _=>rfl) ⟨⟨rfl,lo,⟨a1,a2⟩,⟨b1,b2⟩,b3⟩,sx⟩ (fun j a y hj h=>?_) (fun a y h=>?_)) (fun a y h=>?_)
    · obtain ⟨⟨ha,lo,⟨a1,a2⟩,⟨b1,b2⟩,b3⟩,sx⟩:=h
      obtain ⟨r,na,nb,o,g,ac,bc⟩:=a
      cases ha
      dsimp only at lo a1 a2 b1 b2 b3
      refine Uf.iteD (g > 1) (fun _=>Iff.rfl) (fun _=>?_) (fun _=>?_)
      · skip
        refine Uf.bind (fun _ u=>u) _ (Uf.smgD (g - 1) (fun _=>rfl)) (fun _ z e=>?_)
        have sx2:=sx.trans e
        clear e
        refine Uf.bind (fun d k=>kas_item d.2 k) _ (Uf.elemK hq (i:=nb - 1) (by omega)) (fun k1 y1 h=>?_)
        obtain ⟨k1n,rfl⟩:=h
        refine Uf.bind (fun _ (k:Nat)=>some k) _ (Uf.galK (base:=0) na (na - 1) (fun _=>rfl) (fun _=>rfl) k1n hp (by omega) (by omega)) (fun t y2 h=>?_)
        obtain ⟨tle,rfl⟩:=h
        refine Uf.iteD (na - t > 0) (fun _=>Iff.rfl) (fun k00=>?_) (fun k00=>?_)
        · refine Uf.iteD (t=0) (fun d=>by exact beq_iff_eq) (fun _=>?_) (fun n1=>?_)
          · exact Uf.ret' (.done (some (p.extract 0 (t)++q.extract 0 (nb)++(o++(p.extract t na).reverse).reverse),t,nb,o++(p.extract t na).reverse,g - 1,na - t,bc)) (fun d=>by simp only [cvS,cvH,Option.map_some,Option.map_none,mapK_app,mapK_push,mapK_ext,mapK_rev,mapK_size]) ⟨⟨fun z e=>(by cases e; exact ((hp.ext _ _).append (hq.ext _ _)).append (lo.append (hp.ext t na).rev).rev),fun e=>(by cases e)⟩,sx2⟩
          refine Uf.bind (fun d k=>kas_item d.2 k) _ (Uf.elemK hq (i:=nb - 1) (by omega)) (fun k3 y3 h=>?_)
          obtain ⟨k3n,rfl⟩:=h
          refine Uf.iteD (nb - 1=1) (fun d=>by exact beq_iff_eq) (fun _=>?_) (fun n3=>?_)
          · exact Uf.ret' (.done (some (q.extract 0 (nb - 1)++p.extract 0 (t)++((o++(p.extract t na).reverse).push k3).reverse),t,nb - 1,(o++(p.extract t na).reverse).push k3,g - 1,na - t,bc)) (fun d=>by simp only [cvS,cvH,Option.map_some,Option.map_none,mapK_app,mapK_push,mapK_ext,mapK_rev,mapK_size]) ⟨⟨fun z e=>(by cases e; exact ((hq.ext _ _).append (hp.ext _ _)).append ((lo.append (hp.ext t na).rev).push k3n).rev),fun e=>(by cases e)⟩,sx2⟩
          refine Uf.bind (fun d k=>kas_item d.2 k) _ (Uf.elemK hp (i:=t - 1) (by omega)) (fun k4 y4 h=>?_)
          obtain ⟨k4n,rfl⟩:=h
          refine Uf.bind (fun _ (k:Nat)=>some k) _ (Uf.galK (base:=0) (nb - 1) (nb - 1 - 1) (fun _=>rfl) (fun _=>rfl) k4n hq (by omega) (by omega)) (fun t5 y5 h=>?_)
          obtain ⟨t5le,rfl⟩:=h
          refine Uf.iteD (nb - 1 - t5 > 0) (fun _=>Iff.rfl) (fun k50=>?_) (fun k50=>?_)
          · refine Uf.iteD (t5=1) (fun d=>by exact beq_iff_eq) (fun _=>?_) (fun n5=>?_)
            · exact Uf.ret' (.done (some (q.extract 0 (t5)++p.extract 0 (t)++((o++(p.extract t na).reverse).push k3++(q.extract t5 (nb - 1)).reverse).reverse),t,t5,(o++(p.extract t na).reverse).push k3++(q.extract t5 (nb - 1)).reverse,g - 1,na - t,nb - 1 - t5)) (fun d=>by simp only [cvS,cvH,Option.map_some,Option.map_none,mapK_app,mapK_push,mapK_ext,mapK_rev,mapK_size]) ⟨⟨fun z e=>(by cases e; exact ((hq.ext _ _).append (hp.ext _ _)).append (((lo.append (hp.ext t na).rev).push k3n).append (hq.ext t5 (nb - 1)).rev).rev),fun e=>(by cases e)⟩,sx2⟩
            refine Uf.iteD (t5=0) (fun d=>by exact beq_iff_eq) (fun _=>?_) (fun n7=>?_)
            · exact Uf.ret' (.done (some (p.extract 0 (t)++q.extract 0 (t5)++((o++(p.extract t na).reverse).push k3++(q.extract t5 (nb - 1)).reverse).reverse),t,t5,(o++(p.extract t na).reverse).push k3++(q.extract t5 (nb - 1)).reverse,g - 1,na - t,nb - 1 - t5)) (fun d=>by simp only [cvS,cvH,Option.map_some,Option.map_none,mapK_app,mapK_push,mapK_ext,mapK_rev,mapK_size]) ⟨⟨fun z e=>(by cases e; exact ((hp.ext _ _).append (hq.ext _ _)).append (((lo.append (hp.ext t na).rev).push k3n).append (hq.ext t5 (nb - 1)).rev).rev),fun e=>(by cases e)⟩,sx2⟩
            refine Uf.bind (fun d k=>kas_item d.2 k) _ (Uf.elemK hp (i:=t - 1) (by omega)) (fun k6 y6 h=>?_)
            obtain ⟨k6n,rfl⟩:=h
            refine Uf.iteD (t - 1=0) (fun d=>by exact beq_iff_eq) (fun _=>?_) (fun n6=>?_)
            · exact Uf.ret' (.done (some (p.extract 0 (t - 1)++q.extract 0 (t5)++(((o++(p.extract t na).reverse).push k3++(q.extract t5 (nb - 1)).reverse).push k6).reverse),t - 1,t5,((o++(p.extract t na).reverse).push k3++(q.extract t5 (nb - 1)).reverse).push k6,g - 1,na - t,nb - 1 - t5)) (fun d=>by simp only [cvS,cvH,Option.map_some,Option.map_none,mapK_app,mapK_push,mapK_ext,mapK_rev,mapK_size]) ⟨⟨fun z e=>(by cases e; exact ((hp.ext _ _).append (hq.ext _ _)).append ((((lo.append (hp.ext t na).rev).push k3n).append (hq.ext t5 (nb - 1)).rev).push k6n).rev),fun e=>(by cases e)⟩,sx2⟩
            refine Uf.iteD ((decide (na - t<7) && decide (nb - 1 - t5<7))=true) (fun _=>Iff.rfl) (fun _=>?_) (fun _=>?_)
            · exact Uf.ret' (.done (none,t - 1,t5,((o++(p.extract t na).reverse).push k3++(q.extract t5 (nb - 1)).reverse).push k6,g - 1,na - t,nb - 1 - t5)) (fun d=>by simp only [cvS,cvH,Option.map_some,Option.map_none,mapK_app,mapK_push,mapK_ext,mapK_rev,mapK_size]) ⟨⟨fun z e=>(by cases e),fun _=>⟨(((lo.append (hp.ext t na).rev).push k3n).append (hq.ext t5 (nb - 1)).rev).push k6n,⟨by show 1≤t - 1; omega,by show t - 1≤p.size; omega⟩,⟨by show 2≤t5; omega,by show t5≤q.size; omega⟩,by show i+2+(t - 1)+(t5)≤_; omega⟩⟩,sx2⟩
            · exact Uf.ret' (.yield (none,t - 1,t5,((o++(p.extract t na).reverse).push k3++(q.extract t5 (nb - 1)).reverse).push k6,g - 1,na - t,nb - 1 - t5)) (fun d=>by simp only [cvS,cvH,Option.map_some,Option.map_none,mapK_app,mapK_push,mapK_ext,mapK_rev,mapK_size]) ⟨⟨rfl,(((lo.append (hp.ext t na).rev).push k3n).append (hq.ext t5 (nb - 1)).rev).push k6n,⟨by show 1≤t - 1; omega,by show t - 1≤p.size; omega⟩,⟨by show 2≤t5; omega,by show t5≤q.size; omega⟩,by show i+2+(t - 1)+(t5)≤_; omega⟩,sx2⟩
          · skip
            refine Uf.bind (fun d k=>kas_item d.2 k) _ (Uf.elemK hp (i:=t - 1) (by omega)) (fun k6 y6 h=>?_)
            obtain ⟨k6n,rfl⟩:=h
            refine Uf.iteD (t - 1=0) (fun d=>by exact beq_iff_eq) (fun _=>?_) (fun n6=>?_)
            · exact Uf.ret' (.done (some (p.extract 0 (t - 1)++q.extract 0 ((nb - 1))++(((o++(p.extract t na).reverse).push k3).push k6).reverse),t - 1,(nb - 1),((o++(p.extract t na).reverse).push k3).push k6,g - 1,na - t,nb - 1 - t5)) (fun d=>by simp only [cvS,cvH,Option.map_some,Option.map_none,mapK_app,mapK_push,mapK_ext,mapK_rev,mapK_size]) ⟨⟨fun z e=>(by cases e; exact ((hp.ext _ _).append (hq.ext _ _)).append (((lo.append (hp.ext t na).rev).push k3n).push k6n).rev),fun e=>(by cases e)⟩,sx2⟩
            refine Uf.iteD ((decide (na - t<7) && decide (nb - 1 - t5<7))=true) (fun _=>Iff.rfl) (fun _=>?_) (fun _=>?_)
            · exact Uf.ret' (.done (none,t - 1,(nb - 1),((o++(p.extract t na).reverse).push k3).push k6,g - 1,na - t,nb - 1 - t5)) (fun d=>by simp only [cvS,cvH,Option.map_some,Option.map_none,mapK_app,mapK_push,mapK_ext,mapK_rev,mapK_size]) ⟨⟨fun z e=>(by cases e),fun _=>⟨((lo.append (hp.ext t na).rev).push k3n).push k6n,⟨by show 1≤t - 1; omega,by show t - 1≤p.size; omega⟩,⟨by show 2≤(nb - 1); omega,by show (nb - 1)≤q.size; omega⟩,by show i+2+(t - 1)+((nb - 1))≤_; omega⟩⟩,sx2⟩
            · exact Uf.ret' (.yield (none,t - 1,(nb - 1),((o++(p.extract t na).reverse).push k3).push k6,g - 1,na - t,nb - 1 - t5)) (fun d=>by simp only [cvS,cvH,Option.map_some,Option.map_none,mapK_app,mapK_push,mapK_ext,mapK_rev,mapK_size]) ⟨⟨rfl,((lo.append (hp.ext t na).rev).push k3n).push k6n,⟨by show 1≤t - 1; omega,by show t - 1≤p.size; omega⟩,⟨by show 2≤(nb - 1); omega,by show (nb - 1)≤q.size; omega⟩,by show i+2+(t - 1)+((nb - 1))≤_; omega⟩,sx2⟩
        · skip
          refine Uf.bind (fun d k=>kas_item d.2 k) _ (Uf.elemK hq (i:=nb - 1) (by omega)) (fun k3 y3 h=>?_)
          obtain ⟨k3n,rfl⟩:=h
          refine Uf.iteD (nb - 1=1) (fun d=>by exact beq_iff_eq) (fun _=>?_) (fun n3=>?_)
          · exact Uf.ret' (.done (some (q.extract 0 (nb - 1)++p.extract 0 (na)++((o).push k3).reverse),na,nb - 1,(o).push k3,g - 1,na - t,bc)) (fun d=>by simp only [cvS,cvH,Option.map_some,Option.map_none,mapK_app,mapK_push,mapK_ext,mapK_rev,mapK_size]) ⟨⟨fun z e=>(by cases e; exact ((hq.ext _ _).append (hp.ext _ _)).append ((lo).push k3n).rev),fun e=>(by cases e)⟩,sx2⟩
          refine Uf.bind (fun d k=>kas_item d.2 k) _ (Uf.elemK hp (i:=na - 1) (by omega)) (fun k4 y4 h=>?_)
          obtain ⟨k4n,rfl⟩:=h
          refine Uf.bind (fun _ (k:Nat)=>some k) _ (Uf.galK (base:=0) (nb - 1) (nb - 1 - 1) (fun _=>rfl) (fun _=>rfl) k4n hq (by omega) (by omega)) (fun t5 y5 h=>?_)
          obtain ⟨t5le,rfl⟩:=h
          refine Uf.iteD (nb - 1 - t5 > 0) (fun _=>Iff.rfl) (fun k50=>?_) (fun k50=>?_)
          · refine Uf.iteD (t5=1) (fun d=>by exact beq_iff_eq) (fun _=>?_) (fun n5=>?_)
            · exact Uf.ret' (.done (some (q.extract 0 (t5)++p.extract 0 (na)++((o).push k3++(q.extract t5 (nb - 1)).reverse).reverse),na,t5,(o).push k3++(q.extract t5 (nb - 1)).reverse,g - 1,na - t,nb - 1 - t5)) (fun d=>by simp only [cvS,cvH,Option.map_some,Option.map_none,mapK_app,mapK_push,mapK_ext,mapK_rev,mapK_size]) ⟨⟨fun z e=>(by cases e; exact ((hq.ext _ _).append (hp.ext _ _)).append (((lo).push k3n).append (hq.ext t5 (nb - 1)).rev).rev),fun e=>(by cases e)⟩,sx2⟩
            refine Uf.iteD (t5=0) (fun d=>by exact beq_iff_eq) (fun _=>?_) (fun n7=>?_)
            · exact Uf.ret' (.done (some (p.extract 0 (na)++q.extract 0 (t5)++((o).push k3++(q.extract t5 (nb - 1)).reverse).reverse),na,t5,(o).push k3++(q.extract t5 (nb - 1)).reverse,g - 1,na - t,nb - 1 - t5)) (fun d=>by simp only [cvS,cvH,Option.map_some,Option.map_none,mapK_app,mapK_push,mapK_ext,mapK_rev,mapK_size]) ⟨⟨fun z e=>(by cases e; exact ((hp.ext _ _).append (hq.ext _ _)).append (((lo).push k3n).append (hq.ext t5 (nb - 1)).rev).rev),fun e=>(by cases e)⟩,sx2⟩
            refine Uf.bind (fun d k=>kas_item d.2 k) _ (Uf.elemK hp (i:=na - 1) (by omega)) (fun k6 y6 h=>?_)
            obtain ⟨k6n,rfl⟩:=h
            refine Uf.iteD (na - 1=0) (fun d=>by exact beq_iff_eq) (fun _=>?_) (fun n6=>?_)
            · exact Uf.ret' (.done (some (p.extract 0 (na - 1)++q.extract 0 (t5)++(((o).push k3++(q.extract t5 (nb - 1)).reverse).push k6).reverse),na - 1,t5,((o).push k3++(q.extract t5 (nb - 1)).reverse).push k6,g - 1,na - t,nb - 1 - t5)) (fun d=>by simp only [cvS,cvH,Option.map_some,Option.map_none,mapK_app,mapK_push,mapK_ext,mapK_rev,mapK_size]) ⟨⟨fun z e=>(by cases e; exact ((hp.ext _ _).append (hq.ext _ _)).append ((((lo).push k3n).append (hq.ext t5 (nb - 1)).rev).push k6n).rev),fun e=>(by cases e)⟩,sx2⟩
            refine Uf.iteD ((decide (na - t<7) && decide (nb - 1 - t5<7))=true) (fun _=>Iff.rfl) (fun _=>?_) (fun _=>?_)
            · exact Uf.ret' (.done (none,na - 1,t5,((o).push k3++(q.extract t5 (nb - 1)).reverse).push k6,g - 1,na - t,nb - 1 - t5)) (fun d=>by simp only [cvS,cvH,Option.map_some,Option.map_none,mapK_app,mapK_push,mapK_ext,mapK_rev,mapK_size]) ⟨⟨fun z e=>(by cases e),fun _=>⟨(((lo).push k3n).append (hq.ext t5 (nb - 1)).rev).push k6n,⟨by show 1≤na - 1; omega,by show na - 1≤p.size; omega⟩,⟨by show 2≤t5; omega,by show t5≤q.size; omega⟩,by show i+2+(na - 1)+(t5)≤_; omega⟩⟩,sx2⟩
            · exact Uf.ret' (.yield (none,na - 1,t5,((o).push k3++(q.extract t5 (nb - 1)).reverse).push k6,g - 1,na - t,nb - 1 - t5)) (fun d=>by simp only [cvS,cvH,Option.map_some,Option.map_none,mapK_app,mapK_push,mapK_ext,mapK_rev,mapK_size]) ⟨⟨rfl,(((lo).push k3n).append (hq.ext t5 (nb - 1)).rev).push k6n,⟨by show 1≤na - 1; omega,by show na - 1≤p.size; omega⟩,⟨by show 2≤t5; omega,by show t5≤q.size; omega⟩,by show i+2+(na - 1)+(t5)≤_; omega⟩,sx2⟩
          · skip
            refine Uf.bind (fun d k=>kas_item d.2 k) _ (Uf.elemK hp (i:=na - 1) (by omega)) (fun k6 y6 h=>?_)
            obtain ⟨k6n,rfl⟩:=h
            refine Uf.iteD (na - 1=0) (fun d=>by exact beq_iff_eq) (fun _=>?_) (fun n6=>?_)
            · exact Uf.ret' (.done (some (p.extract 0 (na - 1)++q.extract 0 ((nb - 1))++(((o).push k3).push k6).reverse),na - 1,(nb - 1),((o).push k3).push k6,g - 1,na - t,nb - 1 - t5)) (fun d=>by simp only [cvS,cvH,Option.map_some,Option.map_none,mapK_app,mapK_push,mapK_ext,mapK_rev,mapK_size]) ⟨⟨fun z e=>(by cases e; exact ((hp.ext _ _).append (hq.ext _ _)).append (((lo).push k3n).push k6n).rev),fun e=>(by cases e)⟩,sx2⟩
            refine Uf.iteD ((decide (na - t<7) && decide (nb - 1 - t5<7))=true) (fun _=>Iff.rfl) (fun _=>?_) (fun _=>?_)
            · exact Uf.ret' (.done (none,na - 1,(nb - 1),((o).push k3).push k6,g - 1,na - t,nb - 1 - t5)) (fun d=>by simp only [cvS,cvH,Option.map_some,Option.map_none,mapK_app,mapK_push,mapK_ext,mapK_rev,mapK_size]) ⟨⟨fun z e=>(by cases e),fun _=>⟨((lo).push k3n).push k6n,⟨by show 1≤na - 1; omega,by show na - 1≤p.size; omega⟩,⟨by show 2≤(nb - 1); omega,by show (nb - 1)≤q.size; omega⟩,by show i+2+(na - 1)+((nb - 1))≤_; omega⟩⟩,sx2⟩
            · exact Uf.ret' (.yield (none,na - 1,(nb - 1),((o).push k3).push k6,g - 1,na - t,nb - 1 - t5)) (fun d=>by simp only [cvS,cvH,Option.map_some,Option.map_none,mapK_app,mapK_push,mapK_ext,mapK_rev,mapK_size]) ⟨⟨rfl,((lo).push k3n).push k6n,⟨by show 1≤na - 1; omega,by show na - 1≤p.size; omega⟩,⟨by show 2≤(nb - 1); omega,by show (nb - 1)≤q.size; omega⟩,by show i+2+(na - 1)+((nb - 1))≤_; omega⟩,sx2⟩
      · skip
        refine Uf.bind (fun _ u=>u) _ (Uf.smgD (g) (fun _=>rfl)) (fun _ z e=>?_)
        have sx2:=sx.trans e
        clear e
        refine Uf.bind (fun d k=>kas_item d.2 k) _ (Uf.elemK hq (i:=nb - 1) (by omega)) (fun k1 y1 h=>?_)
        obtain ⟨k1n,rfl⟩:=h
        refine Uf.bind (fun _ (k:Nat)=>some k) _ (Uf.galK (base:=0) na (na - 1) (fun _=>rfl) (fun _=>rfl) k1n hp (by omega) (by omega)) (fun t y2 h=>?_)
        obtain ⟨tle,rfl⟩:=h
        refine Uf.iteD (na - t > 0) (fun _=>Iff.rfl) (fun k00=>?_) (fun k00=>?_)
        · refine Uf.iteD (t=0) (fun d=>by exact beq_iff_eq) (fun _=>?_) (fun n1=>?_)
          · exact Uf.ret' (.done (some (p.extract 0 (t)++q.extract 0 (nb)++(o++(p.extract t na).reverse).reverse),t,nb,o++(p.extract t na).reverse,g,na - t,bc)) (fun d=>by simp only [cvS,cvH,Option.map_some,Option.map_none,mapK_app,mapK_push,mapK_ext,mapK_rev,mapK_size]) ⟨⟨fun z e=>(by cases e; exact ((hp.ext _ _).append (hq.ext _ _)).append (lo.append (hp.ext t na).rev).rev),fun e=>(by cases e)⟩,sx2⟩
          refine Uf.bind (fun d k=>kas_item d.2 k) _ (Uf.elemK hq (i:=nb - 1) (by omega)) (fun k3 y3 h=>?_)
          obtain ⟨k3n,rfl⟩:=h
          refine Uf.iteD (nb - 1=1) (fun d=>by exact beq_iff_eq) (fun _=>?_) (fun n3=>?_)
          · exact Uf.ret' (.done (some (q.extract 0 (nb - 1)++p.extract 0 (t)++((o++(p.extract t na).reverse).push k3).reverse),t,nb - 1,(o++(p.extract t na).reverse).push k3,g,na - t,bc)) (fun d=>by simp only [cvS,cvH,Option.map_some,Option.map_none,mapK_app,mapK_push,mapK_ext,mapK_rev,mapK_size]) ⟨⟨fun z e=>(by cases e; exact ((hq.ext _ _).append (hp.ext _ _)).append ((lo.append (hp.ext t na).rev).push k3n).rev),fun e=>(by cases e)⟩,sx2⟩
          refine Uf.bind (fun d k=>kas_item d.2 k) _ (Uf.elemK hp (i:=t - 1) (by omega)) (fun k4 y4 h=>?_)
          obtain ⟨k4n,rfl⟩:=h
          refine Uf.bind (fun _ (k:Nat)=>some k) _ (Uf.galK (base:=0) (nb - 1) (nb - 1 - 1) (fun _=>rfl) (fun _=>rfl) k4n hq (by omega) (by omega)) (fun t5 y5 h=>?_)
          obtain ⟨t5le,rfl⟩:=h
          refine Uf.iteD (nb - 1 - t5 > 0) (fun _=>Iff.rfl) (fun k50=>?_) (fun k50=>?_)
          · refine Uf.iteD (t5=1) (fun d=>by exact beq_iff_eq) (fun _=>?_) (fun n5=>?_)
            · exact Uf.ret' (.done (some (q.extract 0 (t5)++p.extract 0 (t)++((o++(p.extract t na).reverse).push k3++(q.extract t5 (nb - 1)).reverse).reverse),t,t5,(o++(p.extract t na).reverse).push k3++(q.extract t5 (nb - 1)).reverse,g,na - t,nb - 1 - t5)) (fun d=>by simp only [cvS,cvH,Option.map_some,Option.map_none,mapK_app,mapK_push,mapK_ext,mapK_rev,mapK_size]) ⟨⟨fun z e=>(by cases e; exact ((hq.ext _ _).append (hp.ext _ _)).append (((lo.append (hp.ext t na).rev).push k3n).append (hq.ext t5 (nb - 1)).rev).rev),fun e=>(by cases e)⟩,sx2⟩
            refine Uf.iteD (t5=0) (fun d=>by exact beq_iff_eq) (fun _=>?_) (fun n7=>?_)
            · exact Uf.ret' (.done (some (p.extract 0 (t)++q.extract 0 (t5)++((o++(p.extract t na).reverse).push k3++(q.extract t5 (nb - 1)).reverse).reverse),t,t5,(o++(p.extract t na).reverse).push k3++(q.extract t5 (nb - 1)).reverse,g,na - t,nb - 1 - t5)) (fun d=>by simp only [cvS,cvH,Option.map_some,Option.map_none,mapK_app,mapK_push,mapK_ext,mapK_rev,mapK_size]) ⟨⟨fun z e=>(by cases e; exact ((hp.ext _ _).append (hq.ext _ _)).append (((lo.append (hp.ext t na).rev).push k3n).append (hq.ext t5 (nb - 1)).rev).rev),fun e=>(by cases e)⟩,sx2⟩
            refine Uf.bind (fun d k=>kas_item d.2 k) _ (Uf.elemK hp (i:=t - 1) (by omega)) (fun k6 y6 h=>?_)
            obtain ⟨k6n,rfl⟩:=h
            refine Uf.iteD (t - 1=0) (fun d=>by exact beq_iff_eq) (fun _=>?_) (fun n6=>?_)
            · exact Uf.ret' (.done (some (p.extract 0 (t - 1)++q.extract 0 (t5)++(((o++(p.extract t na).reverse).push k3++(q.extract t5 (nb - 1)).reverse).push k6).reverse),t - 1,t5,((o++(p.extract t na).reverse).push k3++(q.extract t5 (nb - 1)).reverse).push k6,g,na - t,nb - 1 - t5)) (fun d=>by simp only [cvS,cvH,Option.map_some,Option.map_none,mapK_app,mapK_push,mapK_ext,mapK_rev,mapK_size]) ⟨⟨fun z e=>(by cases e; exact ((hp.ext _ _).append (hq.ext _ _)).append ((((lo.append (hp.ext t na).rev).push k3n).append (hq.ext t5 (nb - 1)).rev).push k6n).rev),fun e=>(by cases e)⟩,sx2⟩
            refine Uf.iteD ((decide (na - t<7) && decide (nb - 1 - t5<7))=true) (fun _=>Iff.rfl) (fun _=>?_) (fun _=>?_)
            · exact Uf.ret' (.done (none,t - 1,t5,((o++(p.extract t na).reverse).push k3++(q.extract t5 (nb - 1)).reverse).push k6,g,na - t,nb - 1 - t5)) (fun d=>by simp only [cvS,cvH,Option.map_some,Option.map_none,mapK_app,mapK_push,mapK_ext,mapK_rev,mapK_size]) ⟨⟨fun z e=>(by cases e),fun _=>⟨(((lo.append (hp.ext t na).rev).push k3n).append (hq.ext t5 (nb - 1)).rev).push k6n,⟨by show 1≤t - 1; omega,by show t - 1≤p.size; omega⟩,⟨by show 2≤t5; omega,by show t5≤q.size; omega⟩,by show i+2+(t - 1)+(t5)≤_; omega⟩⟩,sx2⟩
            · exact Uf.ret' (.yield (none,t - 1,t5,((o++(p.extract t na).reverse).push k3++(q.extract t5 (nb - 1)).reverse).push k6,g,na - t,nb - 1 - t5)) (fun d=>by simp only [cvS,cvH,Option.map_some,Option.map_none,mapK_app,mapK_push,mapK_ext,mapK_rev,mapK_size]) ⟨⟨rfl,(((lo.append (hp.ext t na).rev).push k3n).append (hq.ext t5 (nb - 1)).rev).push k6n,⟨by show 1≤t - 1; omega,by show t - 1≤p.size; omega⟩,⟨by show 2≤t5; omega,by show t5≤q.size; omega⟩,by show i+2+(t - 1)+(t5)≤_; omega⟩,sx2⟩
          · skip
            refine Uf.bind (fun d k=>kas_item d.2 k) _ (Uf.elemK hp (i:=t - 1) (by omega)) (fun k6 y6 h=>?_)
            obtain ⟨k6n,rfl⟩:=h
            refine Uf.iteD (t - 1=0) (fun d=>by exact beq_iff_eq) (fun _=>?_) (fun n6=>?_)
            · exact Uf.ret' (.done (some (p.extract 0 (t - 1)++q.extract 0 ((nb - 1))++(((o++(p.extract t na).reverse).push k3).push k6).reverse),t - 1,(nb - 1),((o++(p.extract t na).reverse).push k3).push k6,g,na - t,nb - 1 - t5)) (fun d=>by simp only [cvS,cvH,Option.map_some,Option.map_none,mapK_app,mapK_push,mapK_ext,mapK_rev,mapK_size]) ⟨⟨fun z e=>(by cases e; exact ((hp.ext _ _).append (hq.ext _ _)).append (((lo.append (hp.ext t na).rev).push k3n).push k6n).rev),fun e=>(by cases e)⟩,sx2⟩
            refine Uf.iteD ((decide (na - t<7) && decide (nb - 1 - t5<7))=true) (fun _=>Iff.rfl) (fun _=>?_) (fun _=>?_)
            · exact Uf.ret' (.done (none,t - 1,(nb - 1),((o++(p.extract t na).reverse).push k3).push k6,g,na - t,nb - 1 - t5)) (fun d=>by simp only [cvS,cvH,Option.map_some,Option.map_none,mapK_app,mapK_push,mapK_ext,mapK_rev,mapK_size]) ⟨⟨fun z e=>(by cases e),fun _=>⟨((lo.append (hp.ext t na).rev).push k3n).push k6n,⟨by show 1≤t - 1; omega,by show t - 1≤p.size; omega⟩,⟨by show 2≤(nb - 1); omega,by show (nb - 1)≤q.size; omega⟩,by show i+2+(t - 1)+((nb - 1))≤_; omega⟩⟩,sx2⟩
            · exact Uf.ret' (.yield (none,t - 1,(nb - 1),((o++(p.extract t na).reverse).push k3).push k6,g,na - t,nb - 1 - t5)) (fun d=>by simp only [cvS,cvH,Option.map_some,Option.map_none,mapK_app,mapK_push,mapK_ext,mapK_rev,mapK_size]) ⟨⟨rfl,((lo.append (hp.ext t na).rev).push k3n).push k6n,⟨by show 1≤t - 1; omega,by show t - 1≤p.size; omega⟩,⟨by show 2≤(nb - 1); omega,by show (nb - 1)≤q.size; omega⟩,by show i+2+(t - 1)+((nb - 1))≤_; omega⟩,sx2⟩
        · skip
          refine Uf.bind (fun d k=>kas_item d.2 k) _ (Uf.elemK hq (i:=nb - 1) (by omega)) (fun k3 y3 h=>?_)
          obtain ⟨k3n,rfl⟩:=h
          refine Uf.iteD (nb - 1=1) (fun d=>by exact beq_iff_eq) (fun _=>?_) (fun n3=>?_)
          · exact Uf.ret' (.done (some (q.extract 0 (nb - 1)++p.extract 0 (na)++((o).push k3).reverse),na,nb - 1,(o).push k3,g,na - t,bc)) (fun d=>by simp only [cvS,cvH,Option.map_some,Option.map_none,mapK_app,mapK_push,mapK_ext,mapK_rev,mapK_size]) ⟨⟨fun z e=>(by cases e; exact ((hq.ext _ _).append (hp.ext _ _)).append ((lo).push k3n).rev),fun e=>(by cases e)⟩,sx2⟩
          refine Uf.bind (fun d k=>kas_item d.2 k) _ (Uf.elemK hp (i:=na - 1) (by omega)) (fun k4 y4 h=>?_)
          obtain ⟨k4n,rfl⟩:=h
          refine Uf.bind (fun _ (k:Nat)=>some k) _ (Uf.galK (base:=0) (nb - 1) (nb - 1 - 1) (fun _=>rfl) (fun _=>rfl) k4n hq (by omega) (by omega)) (fun t5 y5 h=>?_)
          obtain ⟨t5le,rfl⟩:=h
          refine Uf.iteD (nb - 1 - t5 > 0) (fun _=>Iff.rfl) (fun k50=>?_) (fun k50=>?_)
          · refine Uf.iteD (t5=1) (fun d=>by exact beq_iff_eq) (fun _=>?_) (fun n5=>?_)
            · exact Uf.ret' (.done (some (q.extract 0 (t5)++p.extract 0 (na)++((o).push k3++(q.extract t5 (nb - 1)).reverse).reverse),na,t5,(o).push k3++(q.extract t5 (nb - 1)).reverse,g,na - t,nb - 1 - t5)) (fun d=>by simp only [cvS,cvH,Option.map_some,Option.map_none,mapK_app,mapK_push,mapK_ext,mapK_rev,mapK_size]) ⟨⟨fun z e=>(by cases e; exact ((hq.ext _ _).append (hp.ext _ _)).append (((lo).push k3n).append (hq.ext t5 (nb - 1)).rev).rev),fun e=>(by cases e)⟩,sx2⟩
            refine Uf.iteD (t5=0) (fun d=>by exact beq_iff_eq) (fun _=>?_) (fun n7=>?_)
            · exact Uf.ret' (.done (some (p.extract 0 (na)++q.extract 0 (t5)++((o).push k3++(q.extract t5 (nb - 1)).reverse).reverse),na,t5,(o).push k3++(q.extract t5 (nb - 1)).reverse,g,na - t,nb - 1 - t5)) (fun d=>by simp only [cvS,cvH,Option.map_some,Option.map_none,mapK_app,mapK_push,mapK_ext,mapK_rev,mapK_size]) ⟨⟨fun z e=>(by cases e; exact ((hp.ext _ _).append (hq.ext _ _)).append (((lo).push k3n).append (hq.ext t5 (nb - 1)).rev).rev),fun e=>(by cases e)⟩,sx2⟩
            refine Uf.bind (fun d k=>kas_item d.2 k) _ (Uf.elemK hp (i:=na - 1) (by omega)) (fun k6 y6 h=>?_)
            obtain ⟨k6n,rfl⟩:=h
            refine Uf.iteD (na - 1=0) (fun d=>by exact beq_iff_eq) (fun _=>?_) (fun n6=>?_)
            · exact Uf.ret' (.done (some (p.extract 0 (na - 1)++q.extract 0 (t5)++(((o).push k3++(q.extract t5 (nb - 1)).reverse).push k6).reverse),na - 1,t5,((o).push k3++(q.extract t5 (nb - 1)).reverse).push k6,g,na - t,nb - 1 - t5)) (fun d=>by simp only [cvS,cvH,Option.map_some,Option.map_none,mapK_app,mapK_push,mapK_ext,mapK_rev,mapK_size]) ⟨⟨fun z e=>(by cases e; exact ((hp.ext _ _).append (hq.ext _ _)).append ((((lo).push k3n).append (hq.ext t5 (nb - 1)).rev).push k6n).rev),fun e=>(by cases e)⟩,sx2⟩
            refine Uf.iteD ((decide (na - t<7) && decide (nb - 1 - t5<7))=true) (fun _=>Iff.rfl) (fun _=>?_) (fun _=>?_)
            · exact Uf.ret' (.done (none,na - 1,t5,((o).push k3++(q.extract t5 (nb - 1)).reverse).push k6,g,na - t,nb - 1 - t5)) (fun d=>by simp only [cvS,cvH,Option.map_some,Option.map_none,mapK_app,mapK_push,mapK_ext,mapK_rev,mapK_size]) ⟨⟨fun z e=>(by cases e),fun _=>⟨(((lo).push k3n).append (hq.ext t5 (nb - 1)).rev).push k6n,⟨by show 1≤na - 1; omega,by show na - 1≤p.size; omega⟩,⟨by show 2≤t5; omega,by show t5≤q.size; omega⟩,by show i+2+(na - 1)+(t5)≤_; omega⟩⟩,sx2⟩
            · exact Uf.ret' (.yield (none,na - 1,t5,((o).push k3++(q.extract t5 (nb - 1)).reverse).push k6,g,na - t,nb - 1 - t5)) (fun d=>by simp only [cvS,cvH,Option.map_some,Option.map_none,mapK_app,mapK_push,mapK_ext,mapK_rev,mapK_size]) ⟨⟨rfl,(((lo).push k3n).append (hq.ext t5 (nb - 1)).rev).push k6n,⟨by show 1≤na - 1; omega,by show na - 1≤p.size; omega⟩,⟨by show 2≤t5; omega,by show t5≤q.size; omega⟩,by show i+2+(na - 1)+(t5)≤_; omega⟩,sx2⟩
          · skip
            refine Uf.bind (fun d k=>kas_item d.2 k) _ (Uf.elemK hp (i:=na - 1) (by omega)) (fun k6 y6 h=>?_)
            obtain ⟨k6n,rfl⟩:=h
            refine Uf.iteD (na - 1=0) (fun d=>by exact beq_iff_eq) (fun _=>?_) (fun n6=>?_)
            · exact Uf.ret' (.done (some (p.extract 0 (na - 1)++q.extract 0 ((nb - 1))++(((o).push k3).push k6).reverse),na - 1,(nb - 1),((o).push k3).push k6,g,na - t,nb - 1 - t5)) (fun d=>by simp only [cvS,cvH,Option.map_some,Option.map_none,mapK_app,mapK_push,mapK_ext,mapK_rev,mapK_size]) ⟨⟨fun z e=>(by cases e; exact ((hp.ext _ _).append (hq.ext _ _)).append (((lo).push k3n).push k6n).rev),fun e=>(by cases e)⟩,sx2⟩
            refine Uf.iteD ((decide (na - t<7) && decide (nb - 1 - t5<7))=true) (fun _=>Iff.rfl) (fun _=>?_) (fun _=>?_)
            · exact Uf.ret' (.done (none,na - 1,(nb - 1),((o).push k3).push k6,g,na - t,nb - 1 - t5)) (fun d=>by simp only [cvS,cvH,Option.map_some,Option.map_none,mapK_app,mapK_push,mapK_ext,mapK_rev,mapK_size]) ⟨⟨fun z e=>(by cases e),fun _=>⟨((lo).push k3n).push k6n,⟨by show 1≤na - 1; omega,by show na - 1≤p.size; omega⟩,⟨by show 2≤(nb - 1); omega,by show (nb - 1)≤q.size; omega⟩,by show i+2+(na - 1)+((nb - 1))≤_; omega⟩⟩,sx2⟩
            · exact Uf.ret' (.yield (none,na - 1,(nb - 1),((o).push k3).push k6,g,na - t,nb - 1 - t5)) (fun d=>by simp only [cvS,cvH,Option.map_some,Option.map_none,mapK_app,mapK_push,mapK_ext,mapK_rev,mapK_size]) ⟨⟨rfl,((lo).push k3n).push k6n,⟨by show 1≤na - 1; omega,by show na - 1≤p.size; omega⟩,⟨by show 2≤(nb - 1); omega,by show (nb - 1)≤q.size; omega⟩,by show i+2+(na - 1)+((nb - 1))≤_; omega⟩,sx2⟩
    · obtain ⟨⟨h1,h2,h3,h4,h5⟩,h6⟩:=h
      exact ⟨⟨fun z e=>(by rw [h1] at e; cases e),fun _=>⟨h2,h3,h4,h5⟩⟩,h6⟩
    obtain ⟨⟨h1,h2⟩,sx⟩:=h
    obtain ⟨r,na,nb,o,g,ac,bc⟩:=a
    cases r with
    | some r=>exact Uf.ret' (.done (some r,na,nb,o,g)) (fun d=>by simp only [cvS,cvH,Option.map_some,Option.map_none,mapK_app,mapK_push,mapK_ext,mapK_rev,mapK_size]) ⟨⟨fun e=>(by cases e),h1⟩,sx⟩
    | none =>
    obtain ⟨lo,⟨a1,a2⟩,⟨b1,b2⟩,b3⟩:=h2 rfl
    refine Uf.bind (fun _ u=>u) (fun _ z=>Sx y z) (Uf.smgD (g+1) (fun _=>rfl)) (fun _ z e=>?_)
    exact Uf.ret' (.yield (none,na,nb,o,g+1)) (fun d=>by simp only [cvS,cvH,Option.map_some,Option.map_none,mapK_app,mapK_push,mapK_ext,mapK_rev,mapK_size]) ⟨⟨rfl,lo,⟨a1,a2⟩,⟨b1,b2⟩,by show i+1+1+na+nb≤_; omega⟩,sx.trans e⟩
  · obtain ⟨⟨_,_,h1,h2,h3⟩,_⟩:=h
    omega
  · obtain ⟨⟨h1,h2⟩,h3⟩:=h
    obtain ⟨r,na,nb,o,g⟩:=a
    cases r with
    | none=>exact absurd rfl h1
    | some r=>exact Uf.ret' r (fun _=>rfl) ⟨h2 r rfl,h3⟩
end
end L2
namespace L2
open PySem PySem.Spec PySem.W PyProof.Rows
def RunsL:List (Nat×Nat×Nat)→Nat→Nat→Prop
  | [],lo,hi=>lo=hi
  | (s,l,_)::r,lo,hi=>s=lo∧1≤l∧RunsL r (lo+l) hi
theorem RunsL.le:∀ {r:List (Nat×Nat×Nat)} {lo hi:Nat},RunsL r lo hi→lo≤hi
  | [],_,_,h=>Nat.le_of_eq h
  | (s,l,w)::r,lo,hi,h=>by
    have:=RunsL.le h.2.2
    omega
theorem RunsL.push:∀ {r:List (Nat×Nat×Nat)} {lo hi l w:Nat},RunsL r lo hi→1≤l→RunsL (r++[(hi,l,w)]) lo (hi+l)
  | [],lo,hi,l,w,h,h1=>by
    have e:lo=hi:=h
    subst e
    exact ⟨rfl,h1,rfl⟩
  | (s,k,v)::r,lo,hi,l,w,h,h1=>⟨h.1,h.2.1,RunsL.push h.2.2 h1⟩
theorem RunsL.two:∀ {r:List (Nat×Nat×Nat)} {lo hi i:Nat} {sa na wa sb nb wb:Nat},RunsL r lo hi→r[i]?=some (sa,na,wa)→r[i+1]?=some (sb,nb,wb)→sb=sa+na∧1≤na∧1≤nb∧sb+nb≤hi∧RunsL ((r.set i (sa,na+nb,wa)).eraseIdx (i+1)) lo hi
  | [],_,_,_,_,_,_,_,_,_,_,h1,_=>by cases h1
  | [_],_,_,i,_,_,_,_,_,_,_,_,h2=>by simp at h2
  | (s,l,v)::(s',l',v')::r,lo,hi,0,sa,na,wa,sb,nb,wb,h,h1,h2=>by
    obtain ⟨rfl,rfl,rfl⟩:s=sa∧l=na∧v=wa:=by simpa using h1
    obtain ⟨rfl,rfl,rfl⟩:s'=sb∧l'=nb∧v'=wb:=by simpa using h2
    obtain ⟨e1,e2,e3,e4,e5⟩:=h
    have:=RunsL.le e5
    refine ⟨by omega,e2,e4,by omega,?_⟩
    show RunsL ((s,l+l',v)::r) lo hi
    exact ⟨e1,by omega,by rw [← Nat.add_assoc]; exact e5⟩
  | z::z'::r,lo,hi,i+1,sa,na,wa,sb,nb,wb,h,h1,h2=>by
    obtain ⟨s,l,v⟩:=z
    obtain ⟨e1,e2,e3⟩:=h
    obtain ⟨a1,a2,a3,a4,a5⟩:=RunsL.two (r:=z'::r) (i:=i) e3 (by simpa using h1) (by simpa using h2)
    exact ⟨a1,a2,a3,a4,e1,e2,a5⟩
theorem RunsL.mod:∀ {r:List (Nat×Nat×Nat)} {lo hi:Nat} (i w:Nat),RunsL r lo hi→RunsL (r.modify i fun z=>(z.1,z.2.1,w)) lo hi
  | [],_,_,_,_,h=>by simpa using h
  | (s,l,v)::r,lo,hi,0,w,h=>⟨h.1,h.2.1,h.2.2⟩
  | (s,l,v)::r,lo,hi,i+1,w,h=>⟨h.1,h.2.1,RunsL.mod i w h.2.2⟩
def putAll (o:Nat) (p:Array Nat) (l:List (Nat×Nat)):Array Nat:=l.foldl (fun a z=>a.setIfInBounds (o+z.2) z.1) p
theorem putAll_map (d:Dt) (o:Nat):∀ (l:List Nat) (k:Nat) (p:Array Nat),((l.map (kas_item d.2)).zipIdx k).foldl (fun a z=>a.setIfInBounds (o+z.2) z.1) (mapK d p)=mapK d (putAll o p (l.zipIdx k))
  | [],_,_=>rfl
  | v::l,k,p=>by
    show (((l.map (kas_item d.2)).zipIdx (k+1)).foldl _ ((mapK d p).setIfInBounds (o+k) (kas_item d.2 v)))=mapK d (putAll o (p.setIfInBounds (o+k) v) (l.zipIdx (k+1)))
    rw [← putAll_map d o l (k+1)]
    unfold mapK
    rw [Array.map_setIfInBounds]
theorem putAll_low {n o:Nat}:∀ (l:List Nat) (k:Nat) (p:Array Nat),LowP n p→(∀ v∈l,v<n)→LowP n (putAll o p (l.zipIdx k))∧(putAll o p (l.zipIdx k)).size=p.size
  | [],_,_,h,_=>⟨h,rfl⟩
  | v::l,k,p,h,hl=>by
    have h2:LowP n (p.setIfInBounds (o+k) v):=fun u hu=>by
      rcases Array.mem_or_eq_of_mem_setIfInBounds hu with z | z
      · exact h u z
      · rw [z]; exact hl v List.mem_cons_self
    obtain ⟨a,b⟩:=putAll_low (n:=n) (o:=o) l (k+1) _ h2 fun u hu=>hl u (List.mem_cons_of_mem _ hu)
    exact ⟨a,b.trans (Array.size_setIfInBounds ..)⟩
theorem Uf.put {x y:Ix} {o:Nat} {r:Array Nat} {f:Dt→SortSt→SortSt} (h:Sx x y) (e:∀ d,f d (stI d y)=SortSt.mk' d.1 ((mapK d r).toList.zipIdx.foldl (fun a z=>a.setIfInBounds (o+z.2) z.1) (mapK d y.1)) y.2.1 y.2.2 none) {n:Nat} {c:Nat→Nat→Bool} :
    Uf n c (fun d=>(modify (f d):StateT SortSt Sem Unit)) (fun _ u=>u) y (fun _ z=>z=(putAll o x.1 r.toList.zipIdx,x.2.1,y.2.2)):=Uf.modify_ (putAll o x.1 r.toList.zipIdx,x.2.1,y.2.2) (fun d=>by
  rw [e d,h.1,h.2]
  show SortSt.mk' d.1 _ _ _ _=SortSt.mk' d.1 (mapK d (putAll o x.1 (r.toList.zipIdx 0))) _ _ _
  rw [← putAll_map d o r.toList 0 x.1]
  unfold mapK
  rw [Array.toList_map]) rfl
structure SI (n hi:Nat) (x:Ix):Prop where
  low:LowP n x.1
  size:x.1.size=n
  runs:RunsL x.2.1.toList 0 hi
section
variable {n:Nat} {c:Nat→Nat→Bool} {x:Ix}
theorem Uf.mAt_ {i hi:Nat} (hx:SI n hi x) (hn:hi≤n) (h1:i+1<x.2.1.size):Uf n c (fun _=>mergeAt' i) (fun _ (b:Bool)=>b) x (fun b x'=>b=true∧SI n hi x'∧x'.2.1.size+1=x.2.1.size):=by
  obtain ⟨⟨sa,na,wa⟩,e1⟩:∃ z,x.2.1[i]?=some z:=⟨x.2.1[i],Array.getElem?_eq_getElem _⟩
  obtain ⟨⟨sb,nb,wb⟩,e2⟩:∃ z,x.2.1[i+1]?=some z:=⟨x.2.1[i+1],Array.getElem?_eq_getElem _⟩
  obtain ⟨a1,a2,a3,a4,a5⟩:=hx.runs.two (i:=i) (by rw [Array.getElem?_toList]; exact e1) (by rw [Array.getElem?_toList]; exact e2)
  refine Uf.bind stI _ Uf.get_ (fun a x' h=>?_)
  obtain ⟨rfl,rfl⟩:=h
  dsimp only [stI,SortSt.mk']
  rw [e1,e2]
  dsimp only
  generalize e2p:(x'.2.1.setIfInBounds i (sa,na+nb,wa)).eraseIdxIfInBounds (i+1)=pend
  have rp:RunsL pend.toList 0 hi:=by
    rw [← e2p,Array.toList_eraseIdxIfInBounds,Array.toList_setIfInBounds]
    exact a5
  have zp:pend.size+1=x'.2.1.size:=by
    rw [← Array.length_toList,← e2p,Array.toList_eraseIdxIfInBounds,Array.toList_setIfInBounds,List.length_eraseIdx,List.length_set,Array.length_toList,if_pos h1]
    omega
  have hl:=hx.low
  have hz:=hx.size
  refine Uf.bind (fun _ u=>u) (fun _ y=>y=(x'.1,pend,x'.2.2)) (Uf.set_ (x'.1,pend,x'.2.2) (fun d=>rfl) rfl) (fun _ y e=>?_)
  have sy:Sx (x'.1,pend,x'.2.2) y:=by rw [e]; exact Sx.refl _
  have hy:SI n hi y:=by rw [e]; exact ⟨hl,hz,rp⟩
  have zy:y.2.1.size+1=x'.2.1.size:=by rw [e]; exact zp
  clear e
  refine Uf.bind (fun d k=>kas_item d.2 k) _ (Uf.elemK hl (i:=sb) (by omega)) (fun k1 y1 h=>?_)
  obtain ⟨k1n,rfl⟩:=h
  refine Uf.bind (fun _ (k:Nat)=>some k) _ (Uf.galK (base:=sa) na 0 (fun _=>rfl) (fun _=>rfl) k1n hl (by omega) (by omega)) (fun k y2 h=>?_)
  obtain ⟨kle,rfl⟩:=h
  refine Uf.iteD (na - k=0) (fun d=>beq_iff_eq) (fun _=>?_) (fun k0=>?_)
  · exact Uf.ret' true (fun _=>rfl) ⟨rfl,hy,zy⟩
  refine Uf.bind (fun d k=>kas_item d.2 k) _ (Uf.elemK hl (i:=sa+k+(na - k) - 1) (by omega)) (fun k2 y3 h=>?_)
  obtain ⟨k2n,rfl⟩:=h
  refine Uf.bind (fun _ (k:Nat)=>some k) _ (Uf.galK (base:=sb) nb (nb - 1) (fun _=>rfl) (fun _=>rfl) k2n hl (by omega) (by omega)) (fun nb2 y4 h=>?_)
  obtain ⟨nble,rfl⟩:=h
  refine Uf.iteD (nb2=0) (fun d=>beq_iff_eq) (fun _=>?_) (fun n0=>?_)
  · exact Uf.ret' true (fun _=>rfl) ⟨rfl,hy,zy⟩
  have sz1:1≤(x'.1.extract (sa+k) sb).size:=by rw [Array.size_extract]; omega
  have sz2:1≤(x'.1.extract sb (sb+nb2)).size:=by rw [Array.size_extract]; omega
  refine Uf.ite (fun _=>?_) (fun _=>?_)
  · refine Uf.bind mapK _ (Uf.eq (fun d=>by rw [← mapK_ext,← mapK_ext]; rfl) (Uf.mLo_ (hl.ext (sa+k) sb) (hl.ext sb (sb+nb2)) sz1 sz2)) (fun r y5 h=>?_)
    obtain ⟨lr,s5⟩:=h
    refine Uf.bind (fun _ u=>u) _ (Uf.put (o:=sa+k) (r:=r) (sy.trans s5) (fun d=>rfl)) (fun _ y6 e=>?_)
    obtain ⟨l1,l2⟩:=putAll_low (n:=n) (o:=sa+k) r.toList 0 x'.1 hl fun v hv=>lr v (Array.mem_toList_iff.mp hv)
    have hy6:SI n hi y6:=by rw [e]; exact ⟨l1,l2.trans hz,rp⟩
    have zy6:y6.2.1.size+1=x'.2.1.size:=by rw [e]; exact zp
    clear e
    refine Uf.bind stI _ Uf.get_ (fun a x2 h=>?_)
    obtain ⟨rfl,rfl⟩:=h
    exact Uf.ret' true (fun _=>rfl) ⟨rfl,hy6,zy6⟩
  · refine Uf.bind mapK _ (Uf.eq (fun d=>by rw [← mapK_ext,← mapK_ext]; rfl) (Uf.mHi_ (hl.ext (sa+k) sb) (hl.ext sb (sb+nb2)) sz1 sz2)) (fun r y5 h=>?_)
    obtain ⟨lr,s5⟩:=h
    refine Uf.bind (fun _ u=>u) _ (Uf.put (o:=sa+k) (r:=r) (sy.trans s5) (fun d=>rfl)) (fun _ y6 e=>?_)
    obtain ⟨l1,l2⟩:=putAll_low (n:=n) (o:=sa+k) r.toList 0 x'.1 hl fun v hv=>lr v (Array.mem_toList_iff.mp hv)
    have hy6:SI n hi y6:=by rw [e]; exact ⟨l1,l2.trans hz,rp⟩
    have zy6:y6.2.1.size+1=x'.2.1.size:=by rw [e]; exact zp
    clear e
    refine Uf.bind stI _ Uf.get_ (fun a x2 h=>?_)
    obtain ⟨rfl,rfl⟩:=h
    exact Uf.ret' true (fun _=>rfl) ⟨rfl,hy6,zy6⟩
end
end L2
namespace L2
open PySem PySem.Spec PySem.W PyProof.Rows
section
variable {n:Nat} {c:Nat→Nat→Bool} {x:Ix}
structure BI (n:Nat) (x:Ix):Prop where
  low:LowP n x.1
  size:x.1.size=n
theorem BI.of {p:Array Nat} {r:Array (Nat×Nat×Nat)×Nat} (h:Low n p):BI n (p,r):=⟨fun v hv=>by
  obtain ⟨i,hi,e⟩:=Array.mem_iff_getElem.mp hv
  have:=h.2 i
  rw [Array.getD,dif_pos hi] at this
  rw [← e]
  exact this,h.1⟩
theorem BI.to (h:BI n x) (n0:0<n):Low n x.1:=⟨h.size,fun i=>by
  by_cases hi:i<x.1.size
  · exact h.low.at i hi
  · rw [Array.getD,dif_neg hi]; exact n0⟩
theorem Uf.ltAt_ {i j:Nat} (hx:BI n x) (hi:i<n) (hj:j<n):Uf n c (fun _=>ltAt' i j) (fun _ (b:Bool)=>some b) x (fun _ x'=>x'=x):=by
  refine Uf.bind stI _ Uf.get_ (fun a x' h=>?_)
  obtain ⟨rfl,rfl⟩:=h
  refine Uf.bind (fun d k=>kas_item d.2 k) _ (Uf.elemK hx.low (i:=i) (by rw [hx.size]; exact hi)) (fun k1 y h=>?_)
  obtain ⟨k1n,rfl⟩:=h
  refine Uf.bind (fun d k=>kas_item d.2 k) _ (Uf.elemK hx.low (i:=j) (by rw [hx.size]; exact hj)) (fun k2 y h=>?_)
  obtain ⟨k2n,rfl⟩:=h
  exact (Uf.lt_ k1n k2n).mono fun _ _ z=>z.2
theorem Uf.rev_ {i j:Nat} (hx:BI n x) (n0:0<n):Uf n c (fun _=>reverseSlice' i j) (fun _ u=>u) x (fun _ x'=>BI n x'∧x'.2=x.2):=Uf.modify_ (kas_rev x.1 i j,x.2) (fun d=>by
  show SortSt.mk' d.1 (mirror (x.1.map (kas_item d.2)) i j ((j - i) / 2)) _ _ _=SortSt.mk' d.1 ((mirror x.1 i j ((j - i) / 2)).map (kas_item d.2)) _ _ _
  have e1:mirror (x.1.map (kas_item d.2)) i j ((j - i) / 2)=(mirror x.1 i j ((j - i) / 2)).map (kas_item d.2):=kas_swaps_map (kas_item d.2) (fun k=>i+k) (fun k=>j - 1 - k) _ x.1
  rw [e1]
  rfl) ⟨BI.of ((hx.to n0).rev i j),rfl⟩
theorem Uf.move_ {k l:Nat} (hx:BI n x) (n0:0<n):Uf n c (fun _=>moveDown' k l) (fun _ u=>u) x (fun _ x'=>BI n x'∧x'.2=x.2):=Uf.modify_ (bubble x.1 k (k - l),x.2) (fun d=>by
  show SortSt.mk' d.1 (bubble (x.1.map (kas_item d.2)) k (k - l)) _ _ _=SortSt.mk' d.1 ((bubble x.1 k (k - l)).map (kas_item d.2)) _ _ _
  have e1:bubble (x.1.map (kas_item d.2)) k (k - l)=(bubble x.1 k (k - l)).map (kas_item d.2):=kas_swaps_map (kas_item d.2) (fun i=>k - i) (fun i=>k - i - 1) _ x.1
  rw [e1]
  rfl) ⟨BI.of ((hx.to n0).bubble k (k - l)),rfl⟩
theorem Uf.count_ {lo nrem:Nat} (hx:BI n x) (h1:1≤nrem) (hn:lo+nrem≤n):Uf n c (fun _=>countRun' lo nrem) (fun _ (k:Nat)=>some k) x (fun k x'=>(1≤k∧k≤nrem)∧BI n x'∧x'.2=x.2):=by
  have n0:0<n:=by omega
  have hy:BI n x∧x.2=x.2:=⟨hx,rfl⟩
  refine Uf.bind (fun _ (a:Option (Option Nat)×Nat)=>a) (fun a y=>(a.1=none∧1≤a.2∧a.2≤nrem)∧BI n y∧y.2=x.2) (Uf.range_ (lo:=1) (hi:=nrem) (fun _ (a:Option (Option Nat)×Nat)=>a) (fun i a y=>(a.1=none∧a.2=i)∧BI n y∧y.2=x.2) _ (none,1) (fun _=>rfl) ⟨⟨rfl,rfl⟩,hy⟩ (fun i a y i1 i2 h=>?_) (fun a y h=>?_)) (fun a y h=>?_)
  · obtain ⟨⟨ha,hk⟩,hy⟩:=h
    obtain ⟨r,k⟩:=a
    cases ha
    dsimp only at hk
    subst hk
    refine Uf.bind (fun _ (b:Bool)=>some b) _ (Uf.ltAt_ (i:=lo+k) (j:=lo+k - 1) hy.1 (by omega) (by omega)) (fun b z e=>?_)
    subst e
    refine Uf.ite (fun _=>?_) (fun _=>?_)
    · exact Uf.ret' (.done (none,k)) (fun _=>rfl) ⟨⟨rfl,by show 1≤k; omega,by show k≤nrem; omega⟩,hy⟩
    · exact Uf.ret' (.yield (none,k+1)) (fun _=>rfl) ⟨⟨rfl,rfl⟩,hy⟩
  · obtain ⟨⟨ha,hk⟩,hy⟩:=h
    exact ⟨⟨ha,by omega,by omega⟩,hy⟩
  obtain ⟨⟨ha,k1,k2⟩,hy⟩:=h
  obtain ⟨r,k⟩:=a
  cases ha
  dsimp only at k1 k2
  refine Uf.iteD (k=nrem) (fun _=>beq_iff_eq) (fun _=>?_) (fun ne=>?_)
  · exact Uf.ret' k (fun _=>rfl) ⟨⟨k1,k2⟩,hy⟩
  refine Uf.ite (fun _=>?_) (fun _=>?_)
  · refine Uf.bind (fun _ (b:Bool)=>some b) _ (Uf.ltAt_ (i:=lo) (j:=lo+k - 1) hy.1 (by omega) (by omega)) (fun b z e=>?_)
    subst e
    refine Uf.ite (fun _=>?_) (fun _=>?_)
    · exact Uf.ret' k (fun _=>rfl) ⟨⟨k1,k2⟩,hy⟩
    · refine Uf.bind (fun _ u=>u) _ (Uf.rev_ hy.1 n0) (fun _ y h=>?_)
      replace hy:BI n y∧y.2=x.2:=⟨h.1,h.2.trans hy.2⟩
      clear h
      refine Uf.bind (fun _ u=>u) (fun _ z=>z=y) (Uf.rule_ rfl) (fun _ z e=>?_)
      subst e
      refine Uf.bind (fun _ (a:Option (Option Nat)×Nat×Nat)=>a) (fun a y=>(a.1=none∧1≤a.2.1∧a.2.1≤nrem)∧BI n y∧y.2=x.2) (Uf.range_ (fun _ (a:Option (Option Nat)×Nat×Nat)=>a) (fun i a y=>(a.1=none∧a.2.1=i)∧BI n y∧y.2=x.2) _ (none,k+1,0) (fun _=>rfl) ⟨⟨rfl,rfl⟩,hy⟩ (fun i a y i1 i2 h=>?_) (fun a y h=>?_)) (fun a y h=>?_)
      · obtain ⟨⟨ha,hk⟩,hy⟩:=h
        obtain ⟨r,k3,neq⟩:=a
        cases ha
        dsimp only at hk
        subst hk
        refine Uf.bind (fun _ (b:Bool)=>some b) _ (Uf.ltAt_ (i:=lo+k3) (j:=lo+k3 - 1) hy.1 (by omega) (by omega)) (fun b z e=>?_)
        subst e
        refine Uf.ite (fun _=>?_) (fun _=>?_)
        · refine Uf.ite (fun _=>?_) (fun _=>?_)
          · refine Uf.bind (fun _ u=>u) _ (Uf.rev_ hy.1 n0) (fun _ z h=>?_)
            exact Uf.ret' (.yield (none,k3+1,0)) (fun _=>rfl) ⟨⟨rfl,rfl⟩,h.1,h.2.trans hy.2⟩
          · exact Uf.ret' (.yield (none,k3+1,0)) (fun _=>rfl) ⟨⟨rfl,rfl⟩,hy⟩
        · refine Uf.bind (fun _ (b:Bool)=>some b) _ (Uf.ltAt_ (i:=lo+k3 - 1) (j:=lo+k3) hy.1 (by omega) (by omega)) (fun b z e=>?_)
          subst e
          refine Uf.ite (fun _=>?_) (fun _=>?_)
          · exact Uf.ret' (.done (none,k3,neq)) (fun _=>rfl) ⟨⟨rfl,by show 1≤k3; omega,by show k3≤nrem; omega⟩,hy⟩
          · exact Uf.ret' (.yield (none,k3+1,neq+1)) (fun _=>rfl) ⟨⟨rfl,rfl⟩,hy⟩
      · obtain ⟨⟨ha,hk⟩,hy⟩:=h
        exact ⟨⟨ha,by omega,by omega⟩,hy⟩
      obtain ⟨⟨ha,m1,m2⟩,hy⟩:=h
      obtain ⟨r,k4,neq⟩:=a
      cases ha
      dsimp only at m1 m2
      refine Uf.ite (fun _=>?_) (fun _=>?_)
      · refine Uf.bind (fun _ u=>u) _ (Uf.rev_ hy.1 n0) (fun _ z h=>?_)
        replace hy:BI n z∧z.2=x.2:=⟨h.1,h.2.trans hy.2⟩
        clear h
        refine Uf.bind (fun _ u=>u) _ (Uf.rev_ hy.1 n0) (fun _ z h=>?_)
        replace hy:BI n z∧z.2=x.2:=⟨h.1,h.2.trans hy.2⟩
        clear h
        refine Uf.bind (fun _ (a:Option (Option Nat)×Nat)=>a) (fun a y=>(a.1=none∧1≤a.2∧a.2≤nrem)∧BI n y∧y.2=x.2) (Uf.range_ (lo:=k4) (hi:=nrem) (fun _ (a:Option (Option Nat)×Nat)=>a) (fun i a y=>(a.1=none∧a.2=i)∧BI n y∧y.2=x.2) _ (none,k4) (fun _=>rfl) ⟨⟨rfl,rfl⟩,hy⟩ (fun i a y i1 i2 h=>?_) (fun a y h=>?_)) (fun a y h=>?_)
        · obtain ⟨⟨ha,hk⟩,hy⟩:=h
          obtain ⟨r,k⟩:=a
          cases ha
          dsimp only at hk
          subst hk
          refine Uf.bind (fun _ (b:Bool)=>some b) _ (Uf.ltAt_ (i:=lo+k) (j:=lo+k - 1) hy.1 (by omega) (by omega)) (fun b z e=>?_)
          subst e
          refine Uf.ite (fun _=>?_) (fun _=>?_)
          · exact Uf.ret' (.done (none,k)) (fun _=>rfl) ⟨⟨rfl,by show 1≤k; omega,by show k≤nrem; omega⟩,hy⟩
          · exact Uf.ret' (.yield (none,k+1)) (fun _=>rfl) ⟨⟨rfl,rfl⟩,hy⟩
        · obtain ⟨⟨ha,hk⟩,hy⟩:=h
          exact ⟨⟨ha,by omega,by omega⟩,hy⟩
        obtain ⟨⟨ha,k1,k2⟩,hy⟩:=h
        obtain ⟨r,k⟩:=a
        cases ha
        dsimp only at k1 k2
        exact Uf.ret' k (fun _=>rfl) ⟨⟨k1,k2⟩,hy⟩
      · skip
        refine Uf.bind (fun _ u=>u) _ (Uf.rev_ hy.1 n0) (fun _ z h=>?_)
        replace hy:BI n z∧z.2=x.2:=⟨h.1,h.2.trans hy.2⟩
        clear h
        refine Uf.bind (fun _ (a:Option (Option Nat)×Nat)=>a) (fun a y=>(a.1=none∧1≤a.2∧a.2≤nrem)∧BI n y∧y.2=x.2) (Uf.range_ (lo:=k4) (hi:=nrem) (fun _ (a:Option (Option Nat)×Nat)=>a) (fun i a y=>(a.1=none∧a.2=i)∧BI n y∧y.2=x.2) _ (none,k4) (fun _=>rfl) ⟨⟨rfl,rfl⟩,hy⟩ (fun i a y i1 i2 h=>?_) (fun a y h=>?_)) (fun a y h=>?_)
        · obtain ⟨⟨ha,hk⟩,hy⟩:=h
          obtain ⟨r,k⟩:=a
          cases ha
          dsimp only at hk
          subst hk
          refine Uf.bind (fun _ (b:Bool)=>some b) _ (Uf.ltAt_ (i:=lo+k) (j:=lo+k - 1) hy.1 (by omega) (by omega)) (fun b z e=>?_)
          subst e
          refine Uf.ite (fun _=>?_) (fun _=>?_)
          · exact Uf.ret' (.done (none,k)) (fun _=>rfl) ⟨⟨rfl,by show 1≤k; omega,by show k≤nrem; omega⟩,hy⟩
          · exact Uf.ret' (.yield (none,k+1)) (fun _=>rfl) ⟨⟨rfl,rfl⟩,hy⟩
        · obtain ⟨⟨ha,hk⟩,hy⟩:=h
          exact ⟨⟨ha,by omega,by omega⟩,hy⟩
        obtain ⟨⟨ha,k1,k2⟩,hy⟩:=h
        obtain ⟨r,k⟩:=a
        cases ha
        dsimp only at k1 k2
        exact Uf.ret' k (fun _=>rfl) ⟨⟨k1,k2⟩,hy⟩
  · skip
    refine Uf.bind (fun _ u=>u) (fun _ z=>z=y) (Uf.rule_ rfl) (fun _ z e=>?_)
    subst e
    refine Uf.bind (fun _ (a:Option (Option Nat)×Nat×Nat)=>a) (fun a y=>(a.1=none∧1≤a.2.1∧a.2.1≤nrem)∧BI n y∧y.2=x.2) (Uf.range_ (fun _ (a:Option (Option Nat)×Nat×Nat)=>a) (fun i a y=>(a.1=none∧a.2.1=i)∧BI n y∧y.2=x.2) _ (none,k+1,0) (fun _=>rfl) ⟨⟨rfl,rfl⟩,hy⟩ (fun i a y i1 i2 h=>?_) (fun a y h=>?_)) (fun a y h=>?_)
    · obtain ⟨⟨ha,hk⟩,hy⟩:=h
      obtain ⟨r,k3,neq⟩:=a
      cases ha
      dsimp only at hk
      subst hk
      refine Uf.bind (fun _ (b:Bool)=>some b) _ (Uf.ltAt_ (i:=lo+k3) (j:=lo+k3 - 1) hy.1 (by omega) (by omega)) (fun b z e=>?_)
      subst e
      refine Uf.ite (fun _=>?_) (fun _=>?_)
      · refine Uf.ite (fun _=>?_) (fun _=>?_)
        · refine Uf.bind (fun _ u=>u) _ (Uf.rev_ hy.1 n0) (fun _ z h=>?_)
          exact Uf.ret' (.yield (none,k3+1,0)) (fun _=>rfl) ⟨⟨rfl,rfl⟩,h.1,h.2.trans hy.2⟩
        · exact Uf.ret' (.yield (none,k3+1,0)) (fun _=>rfl) ⟨⟨rfl,rfl⟩,hy⟩
      · refine Uf.bind (fun _ (b:Bool)=>some b) _ (Uf.ltAt_ (i:=lo+k3 - 1) (j:=lo+k3) hy.1 (by omega) (by omega)) (fun b z e=>?_)
        subst e
        refine Uf.ite (fun _=>?_) (fun _=>?_)
        · exact Uf.ret' (.done (none,k3,neq)) (fun _=>rfl) ⟨⟨rfl,by show 1≤k3; omega,by show k3≤nrem; omega⟩,hy⟩
        · exact Uf.ret' (.yield (none,k3+1,neq+1)) (fun _=>rfl) ⟨⟨rfl,rfl⟩,hy⟩
    · obtain ⟨⟨ha,hk⟩,hy⟩:=h
      exact ⟨⟨ha,by omega,by omega⟩,hy⟩
    obtain ⟨⟨ha,m1,m2⟩,hy⟩:=h
    obtain ⟨r,k4,neq⟩:=a
    cases ha
    dsimp only at m1 m2
    refine Uf.ite (fun _=>?_) (fun _=>?_)
    · refine Uf.bind (fun _ u=>u) _ (Uf.rev_ hy.1 n0) (fun _ z h=>?_)
      replace hy:BI n z∧z.2=x.2:=⟨h.1,h.2.trans hy.2⟩
      clear h
      refine Uf.bind (fun _ u=>u) _ (Uf.rev_ hy.1 n0) (fun _ z h=>?_)
      replace hy:BI n z∧z.2=x.2:=⟨h.1,h.2.trans hy.2⟩
      clear h
      refine Uf.bind (fun _ (a:Option (Option Nat)×Nat)=>a) (fun a y=>(a.1=none∧1≤a.2∧a.2≤nrem)∧BI n y∧y.2=x.2) (Uf.range_ (lo:=k4) (hi:=nrem) (fun _ (a:Option (Option Nat)×Nat)=>a) (fun i a y=>(a.1=none∧a.2=i)∧BI n y∧y.2=x.2) _ (none,k4) (fun _=>rfl) ⟨⟨rfl,rfl⟩,hy⟩ (fun i a y i1 i2 h=>?_) (fun a y h=>?_)) (fun a y h=>?_)
      · obtain ⟨⟨ha,hk⟩,hy⟩:=h
        obtain ⟨r,k⟩:=a
        cases ha
        dsimp only at hk
        subst hk
        refine Uf.bind (fun _ (b:Bool)=>some b) _ (Uf.ltAt_ (i:=lo+k) (j:=lo+k - 1) hy.1 (by omega) (by omega)) (fun b z e=>?_)
        subst e
        refine Uf.ite (fun _=>?_) (fun _=>?_)
        · exact Uf.ret' (.done (none,k)) (fun _=>rfl) ⟨⟨rfl,by show 1≤k; omega,by show k≤nrem; omega⟩,hy⟩
        · exact Uf.ret' (.yield (none,k+1)) (fun _=>rfl) ⟨⟨rfl,rfl⟩,hy⟩
      · obtain ⟨⟨ha,hk⟩,hy⟩:=h
        exact ⟨⟨ha,by omega,by omega⟩,hy⟩
      obtain ⟨⟨ha,k1,k2⟩,hy⟩:=h
      obtain ⟨r,k⟩:=a
      cases ha
      dsimp only at k1 k2
      exact Uf.ret' k (fun _=>rfl) ⟨⟨k1,k2⟩,hy⟩
    · skip
      refine Uf.bind (fun _ u=>u) _ (Uf.rev_ hy.1 n0) (fun _ z h=>?_)
      replace hy:BI n z∧z.2=x.2:=⟨h.1,h.2.trans hy.2⟩
      clear h
      refine Uf.bind (fun _ (a:Option (Option Nat)×Nat)=>a) (fun a y=>(a.1=none∧1≤a.2∧a.2≤nrem)∧BI n y∧y.2=x.2) (Uf.range_ (lo:=k4) (hi:=nrem) (fun _ (a:Option (Option Nat)×Nat)=>a) (fun i a y=>(a.1=none∧a.2=i)∧BI n y∧y.2=x.2) _ (none,k4) (fun _=>rfl) ⟨⟨rfl,rfl⟩,hy⟩ (fun i a y i1 i2 h=>?_) (fun a y h=>?_)) (fun a y h=>?_)
      · obtain ⟨⟨ha,hk⟩,hy⟩:=h
        obtain ⟨r,k⟩:=a
        cases ha
        dsimp only at hk
        subst hk
        refine Uf.bind (fun _ (b:Bool)=>some b) _ (Uf.ltAt_ (i:=lo+k) (j:=lo+k - 1) hy.1 (by omega) (by omega)) (fun b z e=>?_)
        subst e
        refine Uf.ite (fun _=>?_) (fun _=>?_)
        · exact Uf.ret' (.done (none,k)) (fun _=>rfl) ⟨⟨rfl,by show 1≤k; omega,by show k≤nrem; omega⟩,hy⟩
        · exact Uf.ret' (.yield (none,k+1)) (fun _=>rfl) ⟨⟨rfl,rfl⟩,hy⟩
      · obtain ⟨⟨ha,hk⟩,hy⟩:=h
        exact ⟨⟨ha,by omega,by omega⟩,hy⟩
      obtain ⟨⟨ha,k1,k2⟩,hy⟩:=h
      obtain ⟨r,k⟩:=a
      cases ha
      dsimp only at k1 k2
      exact Uf.ret' k (fun _=>rfl) ⟨⟨k1,k2⟩,hy⟩
theorem Uf.bin_ {lo m ok:Nat} (hx:BI n x) (n0:0<n) (hn:lo+m≤n):Uf n c (fun _=>binarySort' lo m ok) (fun _ (b:Bool)=>b) x (fun b x'=>b=true∧BI n x'∧x'.2=x.2):=by
  refine Uf.bind (fun _ (a:Option Bool×Unit)=>a) (fun a y=>a.1=none∧BI n y∧y.2=x.2) (Uf.range_ (fun _ (a:Option Bool×Unit)=>a) (fun i a y=>a.1=none∧BI n y∧y.2=x.2) _ (none,()) (fun _=>rfl) ⟨rfl,hx,rfl⟩ (fun k a y k1 k2 h=>?_) (fun a y h=>h)) (fun a y h=>?_)
  · obtain ⟨_,hy⟩:=h
    refine Uf.bind (fun _ (a:Option Bool×Nat×Nat)=>a) (fun a z=>a.1=none∧z=y) (Uf.range_ (fun _ (a:Option Bool×Nat×Nat)=>a) (fun i a z=>(a.1=none∧a.2.2≤k)∧z=y) _ (none,0,k) (fun _=>rfl) ⟨⟨rfl,Nat.le_refl _⟩,rfl⟩ (fun i a z i1 i2 h=>?_) (fun a z h=>⟨h.1.1,h.2⟩)) (fun a z h=>?_)
    · obtain ⟨⟨ha,hr⟩,rfl⟩:=h
      obtain ⟨o,l,r⟩:=a
      cases ha
      dsimp only at hr
      refine Uf.ite (fun _=>?_) (fun no=>?_)
      · exact Uf.ret' (.done (none,l,r)) (fun _=>rfl) ⟨rfl,rfl⟩
      dsimp only at no
      refine Uf.bind (fun _ (b:Bool)=>some b) _ (Uf.ltAt_ (i:=lo+k) (j:=lo+(l+r) / 2) hy.1 (by omega) (by omega)) (fun b y2 e=>?_)
      subst e
      refine Uf.ite (fun _=>?_) (fun _=>?_)
      · exact Uf.ret' (.yield (none,l,(l+r) / 2)) (fun _=>rfl) ⟨⟨rfl,by dsimp only; omega⟩,rfl⟩
      · exact Uf.ret' (.yield (none,(l+r) / 2+1,r)) (fun _=>rfl) ⟨⟨rfl,hr⟩,rfl⟩
    · obtain ⟨ha,rfl⟩:=h
      obtain ⟨o,l,r⟩:=a
      cases ha
      refine Uf.bind (fun _ u=>u) _ (Uf.move_ hy.1 n0) (fun _ y3 h=>?_)
      exact Uf.ret' (.yield (none,())) (fun _=>rfl) ⟨rfl,h.1,h.2.trans hy.2⟩
  · obtain ⟨ha,hy⟩:=h
    obtain ⟨o,u⟩:=a
    cases ha
    exact Uf.ret' true (fun _=>rfl) ⟨rfl,hy⟩
end
end L2
namespace L2
open PySem PySem.Spec PySem.W PyProof.Rows
section
variable {n:Nat} {c:Nat→Nat→Bool} {x:Ix}
theorem SI.bi {hi:Nat} (h:SI n hi x):BI n x:=⟨h.low,h.size⟩
theorem BI.si {hi:Nat} (h:BI n x) (r:RunsL x.2.1.toList 0 hi):SI n hi x:=⟨h.low,h.size,r⟩
theorem SI.upd {hi:Nat} {y:Ix} (h:SI n hi x) (h':BI n y∧y.2=x.2):SI n hi y:=⟨h'.1.low,h'.1.size,by rw [h'.2]; exact h.runs⟩
theorem Uf.mAtD {i:Dt→Nat} {hi:Nat} (i0:Nat) (e:∀ d,i d=i0) (hx:SI n hi x) (hn:hi≤n) (h1:i0+1<x.2.1.size):Uf n c (fun d=>mergeAt' (i d)) (fun _ (b:Bool)=>b) x (fun b x'=>b=true∧SI n hi x'∧x'.2.1.size+1=x.2.1.size):=by
  rw [funext e]
  exact Uf.mAt_ hx hn h1
def nextI (p:Array (Nat×Nat×Nat)):Nat:=if Option.any (fun z=>decide (z<(p[p.size - 2+1]?).elim 0 fun z=>z.2.1)) (if p.size - 2 > 0 then (p[p.size - 2 - 1]?).map fun z=>z.2.1 else none)=true then p.size - 2 - 1 else p.size - 2
theorem nextI_lt {p:Array (Nat×Nat×Nat)} (h:¬ p.size≤1):nextI p+1<p.size:=by
  have two:∀ (b:Prop) [Decidable b],(if b then p.size - 2 - 1 else p.size - 2)+1<p.size:=fun b _=>by split <;> omega
  exact two _
theorem Uf.runs_ (hx:BI n x) (h0:x.2.1=#[]) (n0:1≤n):Uf n c (fun _=>sortRuns') (fun _ (u:Unit)=>u) x (fun _ x'=>BI n x'):=by
  have hs:=hx.size
  refine Uf.bind stI _ Uf.get_ (fun a x' h=>?_)
  obtain ⟨rfl,rfl⟩:=h
  dsimp only [stI,SortSt.mk']
  simp only [Array.size_map,hs]
  refine Uf.bind (fun _ (a:Option Unit×Nat)=>a) (fun a y=>a.1=none∧a.2≤n∧SI n a.2 y) (Uf.range_ (lo:=0) (hi:=n) (fun _ (a:Option Unit×Nat)=>a) (fun _ a y=>a.1=none∧a.2≤n∧SI n a.2 y) _ (none,0) (fun _=>rfl) ⟨rfl,Nat.zero_le _,hx.si (by rw [h0]; rfl)⟩ (fun i a y _ _ h=>?_) (fun a y h=>h)) (fun a y h=>?_)
  · obtain ⟨ha,hl,hy⟩:=h
    obtain ⟨r,lo⟩:=a
    cases ha
    dsimp only at hl hy
    refine Uf.ite (fun _=>?_) (fun no=>?_)
    · exact Uf.ret' (.done (none,lo)) (fun _=>rfl) ⟨rfl,hl,hy⟩
    dsimp only at no
    refine Uf.bind (fun _ (k:Nat)=>some k) _ (Uf.count_ (lo:=lo) (nrem:=n - lo) hy.bi (by omega) (by omega)) (fun k y1 h=>?_)
    obtain ⟨⟨k1,k2⟩,h1⟩:=h
    replace hy:=hy.upd h1
    clear h1
    refine Uf.ite (fun km=>?_) (fun _=>?_)
    · refine Uf.bind (fun _ u=>u) (fun _ z=>z=y1) (Uf.rule_ rfl) (fun _ z e=>?_)
      subst e
      generalize hfo:min (n - lo) _=fo
      have fo1:1≤fo:=by omega
      have fo2:fo≤n - lo:=by omega
      refine Uf.bind (fun _ (b:Bool)=>b) _ (Uf.bin_ (lo:=lo) (m:=fo) (ok:=k) hy.bi (by omega) (by omega)) (fun b y2 h=>?_)
      obtain ⟨rfl,h1⟩:=h
      replace hy:=hy.upd h1
      clear h1
      refine Uf.ite (fun h=>(by cases h)) (fun _=>?_)
      refine Uf.bind stI _ Uf.get_ (fun a4 y4 h=>?_)
      obtain ⟨rfl,rfl⟩:=h
      dsimp only [stI,SortSt.mk']
      cases hb:y4.2.1.back? with
      | none =>
        dsimp only
        obtain ⟨y5,e5⟩:∃ y5,y5=y4:=⟨_,rfl⟩
        rw [← e5] at hy ⊢
        refine Uf.bind (fun _ u=>u) _ (Uf.modify_ (R:=fun _ z=>z=(y5.1,y5.2.1.push (lo,fo,0),y5.2.2)) (y5.1,y5.2.1.push (lo,fo,0),y5.2.2) (fun d=>rfl) rfl) (fun _ y6 e=>?_)
        exact Uf.ret' (.yield (none,lo+fo)) (fun _=>rfl) ⟨rfl,by show lo+fo≤n; omega,by
          rw [e]
          exact ⟨hy.low,hy.size,by show RunsL (y5.2.1.push (lo,fo,0)).toList 0 (lo+fo); rw [Array.toList_push]; exact hy.runs.push (by omega)⟩⟩
      | some z =>
        obtain ⟨s1,n1,w1⟩:=z
        dsimp only
        generalize hpw:(sortPriv% PySem.Builtin.power) n (2 * s1+n1) (2 * s1+n1+n1+fo) n=pw
        refine Uf.bind (fun _ (a:Option Unit×Unit)=>a) (fun a y=>a.1=none∧SI n lo y) (Uf.range_ (lo:=0) (hi:=n) (fun _ (a:Option Unit×Unit)=>a) (fun _ a y=>a.1=none∧SI n lo y) _ (none,()) (fun _=>rfl) ⟨rfl,hy⟩ (fun i a y _ _ h=>?_) (fun a y h=>h)) (fun a y h=>?_)
        · obtain ⟨ha,hy⟩:=h
          refine Uf.bind stI _ Uf.get_ (fun a2 y2 h=>?_)
          obtain ⟨rfl,rfl⟩:=h
          by_cases hs2:y2.2.1.size > 1
          · obtain ⟨⟨u1,u2,older⟩,eo⟩:∃ z,y2.2.1[y2.2.1.size - 2]?=some z:=⟨y2.2.1[y2.2.1.size - 2],Array.getElem?_eq_getElem _⟩
            have e2:∀ d:Dt,(if (pendingOf (stI d y2)).size > 1 then (pendingOf (stI d y2))[(pendingOf (stI d y2)).size - 2]? else none)=some (u1,u2,older):=fun d=>(if_pos (show (pendingOf (stI d y2)).size > 1 from hs2)).trans eo
            simp only [e2]
            refine Uf.ite (fun _=>?_) (fun _=>?_)
            · exact Uf.ret' (.done (none,())) (fun _=>rfl) ⟨rfl,hy⟩
            refine Uf.bind (fun _ (b:Bool)=>b) _ (Uf.mAtD (y2.2.1.size - 2) (fun _=>rfl) hy hl (by omega)) (fun b y3 h=>?_)
            obtain ⟨rfl,hy3,_⟩:=h
            refine Uf.ite (fun h=>(by cases h)) (fun _=>?_)
            exact Uf.ret' (.yield (none,())) (fun _=>rfl) ⟨rfl,hy3⟩
          · have e2:∀ d:Dt,(if (pendingOf (stI d y2)).size > 1 then (pendingOf (stI d y2))[(pendingOf (stI d y2)).size - 2]? else none)=none:=fun d=>if_neg (show ¬ (pendingOf (stI d y2)).size > 1 from hs2)
            simp only [e2]
            exact Uf.ret' (.done (none,())) (fun _=>rfl) ⟨rfl,hy⟩
        · clear hy
          obtain ⟨ha,hy⟩:=h
          obtain ⟨r,u⟩:=a
          cases ha
          refine Uf.bind (fun _ u=>u) _ (Uf.modify_ (R:=fun _ z=>SI n lo z) (y.1,y.2.1.modify (y.2.1.size - 1) (fun z=>(z.1,z.2.1,pw)),y.2.2) (fun d=>rfl) ⟨hy.low,hy.size,by
            show RunsL (y.2.1.modify (y.2.1.size - 1) (fun z=>(z.1,z.2.1,pw))).toList 0 lo
            rw [Array.toList_modify]
            exact hy.runs.mod _ _⟩) (fun _ y5 hy=>?_)
          refine Uf.bind (fun _ u=>u) _ (Uf.modify_ (R:=fun _ z=>z=(y5.1,y5.2.1.push (lo,fo,0),y5.2.2)) (y5.1,y5.2.1.push (lo,fo,0),y5.2.2) (fun d=>rfl) rfl) (fun _ y6 e=>?_)
          exact Uf.ret' (.yield (none,lo+fo)) (fun _=>rfl) ⟨rfl,by show lo+fo≤n; omega,by
            rw [e]
            exact ⟨hy.low,hy.size,by show RunsL (y5.2.1.push (lo,fo,0)).toList 0 (lo+fo); rw [Array.toList_push]; exact hy.runs.push (by omega)⟩⟩
    · refine Uf.bind stI _ Uf.get_ (fun a4 y4 h=>?_)
      obtain ⟨rfl,rfl⟩:=h
      dsimp only [stI,SortSt.mk']
      cases hb:y4.2.1.back? with
      | none =>
        dsimp only
        obtain ⟨y5,e5⟩:∃ y5,y5=y4:=⟨_,rfl⟩
        rw [← e5] at hy ⊢
        refine Uf.bind (fun _ u=>u) _ (Uf.modify_ (R:=fun _ z=>z=(y5.1,y5.2.1.push (lo,k,0),y5.2.2)) (y5.1,y5.2.1.push (lo,k,0),y5.2.2) (fun d=>rfl) rfl) (fun _ y6 e=>?_)
        exact Uf.ret' (.yield (none,lo+k)) (fun _=>rfl) ⟨rfl,by show lo+k≤n; omega,by
          rw [e]
          exact ⟨hy.low,hy.size,by show RunsL (y5.2.1.push (lo,k,0)).toList 0 (lo+k); rw [Array.toList_push]; exact hy.runs.push (by omega)⟩⟩
      | some z =>
        obtain ⟨s1,n1,w1⟩:=z
        dsimp only
        generalize hpw:(sortPriv% PySem.Builtin.power) n (2 * s1+n1) (2 * s1+n1+n1+k) n=pw
        refine Uf.bind (fun _ (a:Option Unit×Unit)=>a) (fun a y=>a.1=none∧SI n lo y) (Uf.range_ (lo:=0) (hi:=n) (fun _ (a:Option Unit×Unit)=>a) (fun _ a y=>a.1=none∧SI n lo y) _ (none,()) (fun _=>rfl) ⟨rfl,hy⟩ (fun i a y _ _ h=>?_) (fun a y h=>h)) (fun a y h=>?_)
        · obtain ⟨ha,hy⟩:=h
          refine Uf.bind stI _ Uf.get_ (fun a2 y2 h=>?_)
          obtain ⟨rfl,rfl⟩:=h
          by_cases hs2:y2.2.1.size > 1
          · obtain ⟨⟨u1,u2,older⟩,eo⟩:∃ z,y2.2.1[y2.2.1.size - 2]?=some z:=⟨y2.2.1[y2.2.1.size - 2],Array.getElem?_eq_getElem _⟩
            have e2:∀ d:Dt,(if (pendingOf (stI d y2)).size > 1 then (pendingOf (stI d y2))[(pendingOf (stI d y2)).size - 2]? else none)=some (u1,u2,older):=fun d=>(if_pos (show (pendingOf (stI d y2)).size > 1 from hs2)).trans eo
            simp only [e2]
            refine Uf.ite (fun _=>?_) (fun _=>?_)
            · exact Uf.ret' (.done (none,())) (fun _=>rfl) ⟨rfl,hy⟩
            refine Uf.bind (fun _ (b:Bool)=>b) _ (Uf.mAtD (y2.2.1.size - 2) (fun _=>rfl) hy hl (by omega)) (fun b y3 h=>?_)
            obtain ⟨rfl,hy3,_⟩:=h
            refine Uf.ite (fun h=>(by cases h)) (fun _=>?_)
            exact Uf.ret' (.yield (none,())) (fun _=>rfl) ⟨rfl,hy3⟩
          · have e2:∀ d:Dt,(if (pendingOf (stI d y2)).size > 1 then (pendingOf (stI d y2))[(pendingOf (stI d y2)).size - 2]? else none)=none:=fun d=>if_neg (show ¬ (pendingOf (stI d y2)).size > 1 from hs2)
            simp only [e2]
            exact Uf.ret' (.done (none,())) (fun _=>rfl) ⟨rfl,hy⟩
        · clear hy
          obtain ⟨ha,hy⟩:=h
          obtain ⟨r,u⟩:=a
          cases ha
          refine Uf.bind (fun _ u=>u) _ (Uf.modify_ (R:=fun _ z=>SI n lo z) (y.1,y.2.1.modify (y.2.1.size - 1) (fun z=>(z.1,z.2.1,pw)),y.2.2) (fun d=>rfl) ⟨hy.low,hy.size,by
            show RunsL (y.2.1.modify (y.2.1.size - 1) (fun z=>(z.1,z.2.1,pw))).toList 0 lo
            rw [Array.toList_modify]
            exact hy.runs.mod _ _⟩) (fun _ y5 hy=>?_)
          refine Uf.bind (fun _ u=>u) _ (Uf.modify_ (R:=fun _ z=>z=(y5.1,y5.2.1.push (lo,k,0),y5.2.2)) (y5.1,y5.2.1.push (lo,k,0),y5.2.2) (fun d=>rfl) rfl) (fun _ y6 e=>?_)
          exact Uf.ret' (.yield (none,lo+k)) (fun _=>rfl) ⟨rfl,by show lo+k≤n; omega,by
            rw [e]
            exact ⟨hy.low,hy.size,by show RunsL (y5.2.1.push (lo,k,0)).toList 0 (lo+k); rw [Array.toList_push]; exact hy.runs.push (by omega)⟩⟩
  · obtain ⟨ha,hl,hy⟩:=h
    obtain ⟨r,lo⟩:=a
    cases ha
    dsimp only at hl hy
    refine Uf.bind (fun _ (a:Option Unit×Unit)=>a) (fun a y=>a.1=none∧SI n lo y) (Uf.range_ (lo:=0) (hi:=n) (fun _ (a:Option Unit×Unit)=>a) (fun _ a y=>a.1=none∧SI n lo y) _ (none,()) (fun _=>rfl) ⟨rfl,hy⟩ (fun i a y _ _ h=>?_) (fun a y h=>h)) (fun a y h=>?_)
    · obtain ⟨ha,hy⟩:=h
      refine Uf.bind stI _ Uf.get_ (fun a2 y2 h=>?_)
      obtain ⟨rfl,rfl⟩:=h
      refine Uf.iteD (y2.2.1.size≤1) (fun _=>Iff.rfl) (fun _=>?_) (fun no=>?_)
      · exact Uf.ret' (.done (none,())) (fun _=>rfl) ⟨rfl,hy⟩
      refine Uf.bind (fun _ (b:Bool)=>b) _ (Uf.mAtD (nextI y2.2.1) (fun _=>rfl) hy hl (nextI_lt no)) (fun b y3 h=>?_)
      obtain ⟨rfl,hy3,_⟩:=h
      refine Uf.ite (fun h=>(by cases h)) (fun _=>?_)
      exact Uf.ret' (.yield (none,())) (fun _=>rfl) ⟨rfl,hy3⟩
    · obtain ⟨ha,hy⟩:=h
      obtain ⟨r,u⟩:=a
      cases ha
      exact Uf.ret' () (fun _=>rfl) hy.bi
end
end L2
namespace L2
open PySem PySem.Spec PyProof.Rows
theorem runs_ex (n:Nat) (c:Nat→Nat→Bool) (h:1≤n):∃ p:Array Nat,(LowP n p∧p.size=n)∧∀ (prog:Program) (w:World) (A:Around) (E:Value→Shared→Prop) (d:Dt) (Q:Unit→SortSt→Shared→Prop) (s:Shared),Asks prog w A d n c s→(∀ r,Q () (stI d (p,r)) s)→W.kasC (model prog w) A E sortRuns' Q (stI d ((List.range n).toArray,#[],7)) s:=by
  have hx:BI n ((List.range n).toArray,#[],7):=⟨fun v hv=>by simpa using hv,by simp⟩
  obtain ⟨u,x',h1,h2⟩:=Uf.runs_ (c:=c) hx rfl h
  exact ⟨x'.1,⟨h1.low,h1.size⟩,fun prog w A E d Q s hs q=>h2 prog w A E d Q s hs (q x'.2)⟩
noncomputable def bigP (n:Nat) (c:Nat→Nat→Bool):Array Nat:=if h:1≤n then Classical.choose (runs_ex n c h) else #[]
theorem bigP_spec {n:Nat} {c:Nat→Nat→Bool} (h:1≤n):(LowP n (bigP n c)∧(bigP n c).size=n)∧∀ (prog:Program) (w:World) (A:Around) (E:Value→Shared→Prop) (d:Dt) (Q:Unit→SortSt→Shared→Prop) (s:Shared),Asks prog w A d n c s→(∀ r,Q () (stI d (bigP n c,r)) s)→W.kasC (model prog w) A E sortRuns' Q (stI d ((List.range n).toArray,#[],7)) s:=by
  have e:bigP n c=Classical.choose (runs_ex n c h):=dif_pos h
  rw [e]
  exact Classical.choose_spec (runs_ex n c h)
theorem bigP_low {n:Nat} {c:Nat→Nat→Bool} (h:1≤n):LowP n (bigP n c)∧(bigP n c).size=n:=(bigP_spec h).1
section
variable {prog:Program} {w:World} {A:Around} {E:Value→Shared→Prop} {s:Shared}
theorem bat_run {κ:SortKind} {vs:List Value} {c:Nat→Nat→Bool} {Q:SortSt→Shared→Prop} (h2:1≤vs.length) (ask:∀ i j (C:Bool→Shared→Prop),i<vs.length→j<vs.length→C (c i j) s→W.kas_ask prog w A κ vs i j C s)
    (hQ:∀ st',arrOf st'=(bigP vs.length c).map (W.kas_item (vs.toArray.zip vs.toArray))→failedOf st'=none→Q st' s):wpAny (model prog w) A (sortRuns'.run (SortSt.mk' κ (vs.toArray.zip vs.toArray) #[] 7 none)) (fun r s'=>Q r.2 s') E s:=by
  have zs:(vs.toArray.zip vs.toArray).size=vs.length:=by simp
  have hA:Asks prog w A (κ,vs.toArray.zip vs.toArray) vs.length c s:=⟨zs,fun i j C hi hj q=>by
    have:=ask i j C hi hj q
    rw [W.kat_ask_eq (ks:=vs) (vs:=vs) rfl] at this
    exact this⟩
  have run:=(bigP_spec (c:=c) h2).2 prog w A E (κ,vs.toArray.zip vs.toArray) (fun _ st' s'=>Q st' s') s hA (fun r=>hQ _ rfl rfl)
  have est:SortSt.mk' κ (vs.toArray.zip vs.toArray) #[] 7 none=stI (κ,vs.toArray.zip vs.toArray) ((List.range vs.length).toArray,#[],7):=by
    have e:=W.kas_range (vs.toArray.zip vs.toArray)
    rw [zs] at e
    show SortSt.mk' κ (vs.toArray.zip vs.toArray) #[] 7 none=SortSt.mk' κ ((List.toArray (List.range vs.length)).map (W.kas_item (vs.toArray.zip vs.toArray))) #[] 7 none
    rw [e]
  rw [est]
  exact run
structure SortToB (prog:Program) (w:World) (A:Around) (a:Addr) (vs out:List Value) (h:Heap):Prop where
  few:vs.length<2→out=vs
  many:2≤vs.length→∀ s1:Shared,(∀ b o,b≠a→h.get? b=some o→s1.heap.get? b=some o)→∃ (κ:SortKind) (c:Nat→Nat→Bool),(∀ (Q:SortKind→Shared→Prop) (E:Value→Shared→Prop),Q κ s1→wpAny (model prog w) A (keyKind' vs.toArray) Q E s1)∧
    (∀ i j (C:Bool→Shared→Prop),i<vs.length→j<vs.length→C (c i j) s1→W.kas_ask prog w A κ vs i j C s1)∧out=(bigP vs.length c).toList.map fun i=>vs.getD i .none
theorem sort_heapB {a:Addr} {vs out:List Value} {n:Nat} {P:Fin→Shared→Prop} (h:s.heap.get? a=some (seqObj "list" vs.toArray n)) (h64:vs.length≤3000) (x:SortToB prog w A a vs out s.heap)
    (k:P (Fin.done (Flow.ret Value.none)) { s with heap:=sortedHeap s.heap a vs out.toArray }):wpAny (model prog w) A (Builtin.«list.sort» { pos:=[Value.ref a] }) P E s:=by
  rw [list_sort_plain]
  have hz:vs.length≤sizeLine:=by rw [sizeLine_eq]; omega
  refine wpAny_bind (listItems_at h rfl ?_)
  refine wpAny_bind (listUpdate_at h rfl ?_ (by simpa using hz) (Nat.zero_le _))
  have e1:=get?_update_seq h (fun _=>#[])
  have alt:a<s.heap.objs.size:=Heap.lt_size h
  refine wpAny_bind (seqEpoch_at e1 rfl ?_)
  refine wpAny_bind (wpAny_newTuple ?_ (by simpa using hz))
  refine wpAny_bind (wpAny_newList ?_)
  refine wpAny_holding ?_
  generalize eep:(if (Array.size (#[]:Array Value) == vs.toArray.size)=true then n else n+1)=ep at e1 ⊢
  have e2:(((s.heap.update a (Obj.mapSeq fun _=>#[])).push (seqObj "tuple" vs.toArray 0)).push (seqObj "list" #[] 0)).get? a=some (seqObj "list" #[] ep):=Heap.get?_push_of_some _ (Heap.get?_push_of_some _ e1)
  show wpAny _ _ _ _ _ { s with heap:=((s.heap.update a (Obj.mapSeq fun _=>#[])).push (seqObj "tuple" vs.toArray 0)).push (seqObj "list" #[] 0) }
  have k':P (Fin.done (Flow.ret Value.none)) { s with heap:=(((s.heap.update a (Obj.mapSeq fun _=>#[])).push (seqObj "tuple" vs.toArray 0)).push (seqObj "list" #[] 0)).update a (Obj.mapSeq fun _=>out.toArray) }:=k
  have old:∀ b o,b≠a→s.heap.get? b=some o→(((s.heap.update a (Obj.mapSeq fun _=>#[])).push (seqObj "tuple" vs.toArray 0)).push (seqObj "list" #[] 0)).get? b=some o:=fun b o hb e=>Heap.get?_push_of_some _ (Heap.get?_push_of_some _ (((Heap.SameBut.update s.heap a _).2 b hb).trans e))
  generalize ((s.heap.update a (Obj.mapSeq fun _=>#[])).push (seqObj "tuple" vs.toArray 0)).push (seqObj "list" #[] 0)=h3 at e2 k' old ⊢
  have ol:out.length≤3000:=by
    by_cases h2:vs.length<2
    · rw [x.few h2]
      omega
    · obtain ⟨κ,c,_,_,eo⟩:=x.many (by omega) { s with heap:=h3 } old
      rw [eo,List.length_map,Array.length_toList,(bigP_low (n:=vs.length) (c:=c) (by omega)).2]
      omega
  have tl:∀ st:SortSt,Array.map (fun y=>y.snd) (arrOf st)=out.toArray→failedOf st=none→wpAny (model prog w) A (do
      let __do_lift ← seqEpoch a
      have touched:Bool:=__do_lift != ep
      Builtin.List.listUpdate (Value.ref a) fun _=>Array.map (fun y=>y.snd) (arrOf st)
      have __do_jp:Unit→Sem PySem.Fin:=fun __r =>
        have __do_jp:=fun __r=>ret Value.none
        if touched=true then do
          rule "list.sort.modified"
          let __r ← raiseErrorWords "ValueError" "list modified during sort"
          __do_jp __r
        else __do_jp ()
      match failedOf st with
        | some e=>do
          rule "list.sort.comparison-raised"
          let __r ← throw e
          __do_jp __r
        | _=>__do_jp ()) P E { s with heap:=h3 }:=fun st es ef=>by
    rw [es,ef]
    refine wpAny_bind (seqEpoch_at e2 rfl ?_)
    refine wpAny_bind (listUpdate_at e2 rfl ?_ (Nat.zero_le _) (by rw [sizeLine_eq]; simp; omega))
    show wpAny _ _ (if (ep != ep)=true then _ else _) _ _ _
    rw [if_neg (by simp)]
    exact wpAny_pure k'
  show wpAny _ _ (if vs.toArray.size<2 then _ else _) _ _ _
  by_cases h2:vs.length<2
  · rw [if_pos (by simpa using h2)]
    refine wpAny_bind (wpAny_pure ?_)
    rw [if_pos (by simpa using h2)]
    refine wpAny_bind (wpAny_pure ?_)
    refine tl _ ?_ rfl
    rw [x.few h2]
    show Array.map (fun y=>y.snd) (vs.toArray.zip vs.toArray)=vs.toArray
    apply Array.ext
    · simp
    · intro i h1 h2
      simp
  · rw [if_neg (by simpa using h2)]
    obtain ⟨κ,c,hk,hc,eo⟩:=x.many (by omega) { s with heap:=h3 } old
    refine wpAny_bind (hk _ _ ?_)
    rw [if_neg (by simpa using h2)]
    refine wpAny_bind (wpAny_mono (bat_run (Q:=fun st' s'=>Array.map (fun y=>y.snd) (arrOf st')=out.toArray∧failedOf st'=none∧s'={ s with heap:=h3 }) (by omega) hc (fun st' ha hf=>?_)) (fun r s' hq=>?_) fun _ _ z=>z)
    · refine ⟨?_,hf,rfl⟩
      rw [ha,eo]
      apply Array.ext
      · simp
      · intro i h1 h2
        simp only [Array.getElem_map,W.kat_item rfl]
        simp
    · obtain ⟨q1,q2,rfl⟩:=hq
      exact tl r.2 q1 q2
theorem sorted_heapB {l:Addr} {vs out:List Value} {Q:Value→Shared→Prop} (h:s.heap.IsList l vs.toArray) (h64:vs.length≤3000) (x:∀ hh:Heap,(∀ b o,s.heap.get? b=some o→hh.get? b=some o)→SortToB prog w A.in1.in1 (s.heap.objs.size+1) vs out hh)
    (k:Q (Value.ref (s.heap.objs.size+1)) { s with heap:=sortedAll s.heap vs out.toArray }):wpAny (model prog w) A (call (Value.builtin "sorted") [Value.ref l]) Q E s:=by
  have hz:vs.length≤sizeLine:=by rw [sizeLine_eq]; omega
  refine Calls.call_function_entry kind_sorted plain_sorted entry_sorted (args_sorted1 _) ?_
  show wpAny _ _ (checkCount "sorted" 1 1 1 >>= _) _ _ _
  refine wpAny_bind (wpAny_pure ?_)
  refine wpAny_bind (collect_list h ?_ hz)
  refine wpAny_bind (wpAny_newList ?_ hz)
  have sz:((s.heap.push (seqObj "list" #[] 0)).update s.heap.objs.size (Obj.mapSeq fun x=>x++vs.toArray)).objs.size=s.heap.objs.size+1:=by rw [Heap.size_update,Heap.size_push]
  have e:(((s.heap.push (seqObj "list" #[] 0)).update s.heap.objs.size (Obj.mapSeq fun x=>x++vs.toArray)).push (seqObj "list" vs.toArray 0)).get? (s.heap.objs.size+1)=some (seqObj "list" vs.toArray 0):=by
    rw [← sz]
    exact Heap.get?_push_size _ rfl
  show wpAny _ _ (holding [Value.ref ((s.heap.push (seqObj "list" #[] 0)).update s.heap.objs.size (Obj.mapSeq fun x=>x++vs.toArray)).objs.size] _ >>= _) _ _ _
  rw [sz]
  refine wpAny_bind (wpAny_holding (wpAny_call_entry slot_list_sort ⟨_,e,rfl⟩ entry_list_sort (sort_heapB e h64 (x _ fun b o ho=>?_) ⟨_,rfl,wpAny_pure ⟨_,rfl,k⟩⟩) (args_list_sort _)))
  have hb:b≠s.heap.objs.size:=Nat.ne_of_lt (Heap.lt_size ho)
  exact Heap.get?_push_of_some _ (((Heap.SameBut.update _ _ _).2 b hb).trans (Heap.get?_push_of_some _ ho))
end
noncomputable def d3OrdB (ds:List D3):List Nat:=(bigP ds.length (fun i j=>d3Lt (ds.getD i d0) (ds.getD j d0))).toList
noncomputable def sortB (ds:List D3):List D3:=if ds.length<2 then ds else (d3OrdB ds).map fun i=>ds.getD i d0
theorem d3OrdB_len {ds:List D3} (h:0<ds.length):(d3OrdB ds).length=ds.length:=by
  unfold d3OrdB
  rw [Array.length_toList]
  exact (bigP_low h).2
theorem d3OrdB_lt {ds:List D3} (h:0<ds.length):∀ i∈d3OrdB ds,i<ds.length:=fun i hi=>by
  unfold d3OrdB at hi
  exact (bigP_low h).1 i (Array.mem_toList_iff.mp hi)
theorem sortB_len (ds:List D3):(sortB ds).length=ds.length:=by
  unfold sortB
  split
  · rfl
  · rw [List.length_map,d3OrdB_len (by omega)]
section
variable {prog:Program} {w:World} {A:Around} {s:Shared}
theorem sort3B {a:Addr} {vs:List Value} {ds:List D3} {h:Heap} (p:Paired (Raw3 h) vs ds) (ha:∀ v∈vs,v≠.ref a):SortToB prog w A a vs (if vs.length<2 then vs else (d3OrdB ds).map fun i=>vs.getD i .none) h:=by
  refine ⟨fun h2=>if_pos h2,fun h2 s1 k=>?_⟩
  have pl:vs.length=ds.length:=by
    clear ha h2 k
    induction p with
    | nil=>rfl
    | cons _ _ ih=>exact congrArg (·+1) ih
  have p1:Paired (Raw3 s1.heap) vs ds:=by
    clear pl h2
    induction p with
    | nil=>exact .nil
    | cons r _ ih =>
      refine .cons ?_ (ih fun v hv=>ha v (List.mem_cons_of_mem _ hv))
      obtain ⟨b,o,n,i,t,x,u,j,r,rfl,g,c⟩:=r
      have hb:b≠a:=fun e=>ha _ List.mem_cons_self (by rw [e])
      exact ⟨b,o,n,i,t,x,u,j,r,rfl,k _ _ hb g,c⟩
  have at_:∀ i,i<vs.length→Raw3 s1.heap (vs.getD i .none) (ds.getD i d0):=by
    clear pl h2 p ha k
    intro i hi
    induction p1 generalizing i with
    | nil=>exact absurd hi (Nat.not_lt_zero _)
    | cons r _ ih =>
      cases i with
      | zero=>exact r
      | succ i=>exact ih i (Nat.lt_of_succ_lt_succ hi)
  refine ⟨tuples' true,fun i j=>d3Lt (ds.getD i d0) (ds.getD j d0),fun Q E q=>raw3_kind p1 (by omega) q,fun i j C hi hj q=>raw3_lt (at_ i hi) (at_ j hj) q,?_⟩
  rw [if_neg (by omega)]
  unfold d3OrdB
  rw [pl]
end
section
variable {X:Cx}
theorem call_sortedB:CallR X (.builtin "sorted") (fun xs H Q=>∃ (p:Addr) (vs:List V) (ds:List D3),xs=[.ref p]∧SqL X.K H p vs∧Paired (D3At H) vs ds∧ds.length≤3000∧∀ (l:Addr) (vs':List V),H l=none→Paired (D3At H) vs' (sortB ds)→Q (.ref l) (upd H l (.lst vs'))):=by
  intro pins s σ H xs us Q I r h
  obtain ⟨p,vs,ds,rfl,hp,pd,h64,q⟩:=h
  obtain ⟨u,rfl,ru⟩:=vals1 r
  cases ru
  obtain ⟨its,rv,pl,hz⟩:=I.list hp
  have raws:∀ {vs:List V} {ds:List D3} {its:List Value},Paired (D3At H) vs ds→Vals vs its→Paired (Raw3 s.heap) its ds∧∀ v∈its,v≠.ref (s.heap.objs.size+1):=by
    intro vs ds its pd
    induction pd generalizing its with
    | nil=>intro rv; cases rv; exact ⟨.nil,fun _ h=>(nomatch h)⟩
    | cons r _ ih =>
      intro rv
      obtain ⟨a,rfl,ha⟩:=r
      cases rv with
      | cons r1 rv =>
        cases r1
        obtain ⟨g1,g2⟩:=ih rv
        obtain ⟨us,r2,pt,_⟩:=I.tuple (SqT.of ha)
        obtain ⟨i,t,x,u,j,r',rfl,rfl⟩:=vals_d3 r2
        obtain ⟨o,e1,e2,n,e3⟩:=IsTup.tup pt
        refine ⟨.cons ⟨a,o,n,i,t,x,u,j,r',rfl,e1,e2,e3,rfl⟩ g1,fun v hv=>?_⟩
        rcases List.mem_cons.mp hv with rfl | h
        · have:=Heap.lt_size e1
          intro e
          have e':a=s.heap.objs.size+1:=Value.ref.inj e
          rw [e'] at this
          exact absurd this (Nat.not_lt_of_le (Nat.le_succ _))
        · exact g2 v h
  obtain ⟨pr,hne⟩:=raws pd rv
  have lv:=rv.length
  have ld:=pd_len pd
  refine sorted_heapB pl.isList (by omega) (fun hh kp=>sort3B (pd_imp (fun _ _ x=>x.keep kp) pr) hne) ?_
  have vv:Vals (if vs.length<2 then vs else (d3OrdB ds).map fun i=>vs.getD i .non) (if its.length<2 then its else (d3OrdB ds).map fun i=>its.getD i .none):=by
    rw [lv]
    split
    · exact rv
    · exact vals_pick rv _ fun i hi=>by
        have:=d3OrdB_lt (ds:=ds) (by omega) i hi
        omega
  have pv:Paired (D3At H) (if vs.length<2 then vs else (d3OrdB ds).map fun i=>vs.getD i .non) (sortB ds):=by
    unfold sortB
    rw [ld]
    split
    · exact pd
    · exact pd_pick pd _ fun i hi=>by
        have:=d3OrdB_lt (ds:=ds) (by omega) i hi
        omega
  have hn:H (s.heap.objs.size+1)=none:=I.hok.fresh (Nat.le_succ _)
  have lo:=pd_len pv
  rw [sortB_len] at lo
  generalize (if vs.length<2 then vs else (d3OrdB ds).map fun i=>vs.getD i .non)=vs' at vv pv lo
  generalize (if its.length<2 then its else (d3OrdB ds).map fun i=>its.getD i .none)=out at vv
  obtain ⟨e,he⟩:=sortedAll_at s.heap its out.toArray
  exact ⟨.ref (s.heap.objs.size+1),_,I.laid (t':=s.toks) (o:=.lst vs') (fun _ _=>sortedAll_old) (Nat.le_succ _) ⟨by rw [lo]; exact (by rw [sizeLine_eq]; omega),out,e,vv,he⟩,rfl,q _ vs' hn pv⟩
end
end L2
namespace K62
open PySem L2
def top (i:Nat):Stmt:=PySem.Challenge.pw_earbells_k62_later_strokes.main.body.getD i (.Pass ⟨0,0,0,0⟩)
abbrev s_is_whole:Stmt:=top 14
abbrev s_is_whole_within:Stmt:=top 15
abbrev s_Rinit:Stmt:=inClass (top 17) 0
abbrev s_falls:Stmt:=inClass (top 17) 2
abbrev s_Ainit:Stmt:=inClass (top 18) 0
abbrev s_Yinit:Stmt:=inClass (top 19) 0
abbrev s_Sinit:Stmt:=inClass (top 20) 0
abbrev s_rule_of:Stmt:=top 21
abbrev s_text:Stmt:=top 22
abbrev s_rule_of_bell:Stmt:=top 25
abbrev s_comes:Stmt:=top 27
abbrev s_found:Stmt:=top 28
abbrev s_behind:Stmt:=top 29
abbrev s_strokes:Stmt:=top 30
abbrev s_with_other:Stmt:=top 32
abbrev s_refuse_beyond:Stmt:=top 33
abbrev s_made_slower:Stmt:=top 34
abbrev s_later_strokes:Stmt:=top 35
abbrev s_cell:Stmt:=top 37
abbrev s_blended:Stmt:=top 38
abbrev s_figures:Stmt:=top 39
abbrev s_part:Stmt:=top 40
abbrev s_names:Stmt:=top 41
abbrev s_bell:Stmt:=top 42
abbrev s_choir:Stmt:=top 43
abbrev s_only:Stmt:=top 44
abbrev s_same:Stmt:=top 45
abbrev s_lcomes:Stmt:=top 46
abbrev s_going:Stmt:=top 47
abbrev s_lslower:Stmt:=top 48
abbrev s_due:Stmt:=top 49
abbrev s_refused:Stmt:=top 50
abbrev s_odd:Stmt:=top 51
abbrev s_law:Stmt:=top 52
inductive InR:List Int→List Int→Prop where
  | nil:InR [] []
  | cons {n m:Int} {ns ms:List Int} (h0:0≤n) (h1:n<m) (t:InR ns ms):InR (n::ns) (m::ms)
theorem InR.snoc {n m:Int} (h0:0≤n) (h1:n<m):∀ {ns ms:List Int},InR ns ms→InR (ns++[n]) (ms++[m])
  | _,_,.nil=>.cons h0 h1 .nil
  | _,_,.cons a b t=>.cons a b (InR.snoc h0 h1 t)
theorem InR.length:∀ {ns ms:List Int},InR ns ms→ns.length=ms.length
  | _,_,.nil=>rfl
  | _,_,.cons _ _ t=>congrArg (·+1) (InR.length t)
theorem InR.at:∀ {ns ms:List Int} {i:Nat} {m:Int},InR ns ms→ms[i]?=some m→∃ n,ns[i]?=some n∧0≤n∧n<m
  | _,_,0,_,.cons a b _,e=>by simp at e; subst e; exact ⟨_,rfl,a,b⟩
  | _,_,i+1,_,.cons _ _ t,e=>by
    obtain ⟨n,h1,h2⟩:=InR.at (i:=i) t (by simpa using e)
    exact ⟨n,by simpa using h1,h2⟩
  | _,_,_,_,.nil,e=>by simp at e
theorem take_snoc {α:Type} {l:List α} {i:Nat} {x:α} (h:l[i]?=some x):l.take (i+1)=l.take i++[x]:=by
  rw [List.take_succ,h]
  rfl
theorem map_at {ns:List Int} {i:Nat} {y:V} (h:(ns.map V.int)[i]?=some y):∃ z,y=V.int z∧ns[i]?=some z:=by
  rw [List.getElem?_map] at h
  cases e:ns[i]? with
  | none=>rw [e] at h; cases h
  | some z=>rw [e] at h; exact ⟨z,(Option.some.inj h).symm,rfl⟩
theorem at_map {ns:List Int} {i:Nat} {z:Int} (h:ns[i]?=some z):atI (ns.map V.int) (i:Int)=some (V.int z):=atI_nat (by rw [List.getElem?_map,h]; rfl)
structure Blt (mg:Str→Option Value):Prop where
  all_:mg "all"=none
  any_:mg "any"=none
  bool_:mg "bool"=none
  divmod_:mg "divmod"=none
  enumerate_:mg "enumerate"=none
  int_:mg "int"=none
  isinstance_:mg "isinstance"=none
  len_:mg "len"=none
  list_:mg "list"=none
  max_:mg "max"=none
  min_:mg "min"=none
  range_:mg "range"=none
  set_:mg "set"=none
  sorted_:mg "sorted"=none
  str_:mg "str"=none
  sum_:mg "sum"=none
  tuple_:mg "tuple"=none
  zip_:mg "zip"=none
  ValueError_:mg "ValueError"=none
  abs_:mg "abs"=none
theorem blt_mk {K:PySem.W.Frag} {h:Heap} {mg:Str→Option Value} (X:K.In h) (G:h.Ns mainGlobals mg) (z1:PySem.W.nsIn K mainGlobals "all"=some none) (z2:PySem.W.nsIn K mainGlobals "any"=some none) (z3:PySem.W.nsIn K mainGlobals "bool"=some none) (z4:PySem.W.nsIn K mainGlobals "divmod"=some none)
    (z5:PySem.W.nsIn K mainGlobals "enumerate"=some none) (z6:PySem.W.nsIn K mainGlobals "int"=some none) (z7:PySem.W.nsIn K mainGlobals "isinstance"=some none) (z8:PySem.W.nsIn K mainGlobals "len"=some none) (z9:PySem.W.nsIn K mainGlobals "list"=some none) (z10:PySem.W.nsIn K mainGlobals "max"=some none)
    (z11:PySem.W.nsIn K mainGlobals "min"=some none) (z12:PySem.W.nsIn K mainGlobals "range"=some none) (z13:PySem.W.nsIn K mainGlobals "set"=some none) (z14:PySem.W.nsIn K mainGlobals "sorted"=some none) (z15:PySem.W.nsIn K mainGlobals "str"=some none) (z16:PySem.W.nsIn K mainGlobals "sum"=some none)
    (z17:PySem.W.nsIn K mainGlobals "tuple"=some none) (z18:PySem.W.nsIn K mainGlobals "zip"=some none) (z19:PySem.W.nsIn K mainGlobals "ValueError"=some none) (z20:PySem.W.nsIn K mainGlobals "abs"=some none):Blt mg :=
  ⟨PySem.W.mg_none_of X G z1,PySem.W.mg_none_of X G z2,PySem.W.mg_none_of X G z3,PySem.W.mg_none_of X G z4,PySem.W.mg_none_of X G z5,PySem.W.mg_none_of X G z6,PySem.W.mg_none_of X G z7,PySem.W.mg_none_of X G z8,PySem.W.mg_none_of X G z9,PySem.W.mg_none_of X G z10,PySem.W.mg_none_of X G z11,
    PySem.W.mg_none_of X G z12,PySem.W.mg_none_of X G z13,PySem.W.mg_none_of X G z14,PySem.W.mg_none_of X G z15,PySem.W.mg_none_of X G z16,PySem.W.mg_none_of X G z17,PySem.W.mg_none_of X G z18,PySem.W.mg_none_of X G z19,PySem.W.mg_none_of X G z20⟩
theorem kit_ii (K:PySem.W.Frag):PySem.W.kitOne K (.type "int") (.type "int")=some true:=by kernel_rfl
theorem kit_ib (K:PySem.W.Frag):PySem.W.kitOne K (.type "int") (.type "bool")=some false:=by kernel_rfl
theorem kit_ss (K:PySem.W.Frag):PySem.W.kitOne K (.type "str") (.type "str")=some true:=by kernel_rfl
theorem kit_is (K:PySem.W.Frag):PySem.W.kitOne K (.type "int") (.type "str")=some false:=by kernel_rfl
theorem kit_bs (K:PySem.W.Frag):PySem.W.kitOne K (.type "bool") (.type "str")=some false:=by kernel_rfl
theorem kit_bi (K:PySem.W.Frag):PySem.W.kitOne K (.type "bool") (.type "int")=some true:=by kernel_rfl
theorem kit_bb (K:PySem.W.Frag):PySem.W.kitOne K (.type "bool") (.type "bool")=some true:=by kernel_rfl
theorem kit_ns (K:PySem.W.Frag):PySem.W.kitOne K (.type "NoneType") (.type "str")=some false:=by kernel_rfl
theorem kit_ni (K:PySem.W.Frag):PySem.W.kitOne K (.type "NoneType") (.type "int")=some false:=by kernel_rfl
theorem kit_si (K:PySem.W.Frag):PySem.W.kitOne K (.type "str") (.type "int")=some false:=by kernel_rfl
end K62
namespace K62
open PySem L2
section
variable {P:Program} {w:World} {K:PySem.W.Frag} {mg:Str→Option Value} {base:Heap} {f:Addr} {fd:FuncData}
def sp_cell (K:PySem.W.Frag):Sp:=fun vs H Q _=>∃ (a:Addr) (ns:List Int) (k:Nat),vs=[.ref a,.int k]∧SqL K H a (ns.map V.int)∧∀ z,Q (.int z) H
theorem sc_cell:FnScope ["_law_script","_law_k"] ["_law_script","_law_k"] (defScope s_cell):=⟨rfl,rfl,rfl,by decide +kernel,rfl,by decide +kernel,by decide +kernel⟩
theorem ok_cell (F:Fun K "_law_cell" "_law_cell" s_cell f fd) (B:Blt mg):FnOk P w K mg base CX0 1 f fd ["_law_script","_law_k"] (sp_cell K):=by
  refine F.ok sc_cell (fun vs H Q E h=>?_) (fun cdv A outer s H vs Q E hr h=>?_)
  · obtain ⟨a,ns,k,rfl,_⟩:=h
    rfl
  obtain ⟨a,ns,k,rfl,hS,q⟩:=h
  refine ⟨_,(pss_cons (ps_if (pt_cmpR op_lt (pv 1) (pe_callB call_len_seq rfl B.len_ PySem.boot_len (pa_cons (pv 0) pa_nil)) (nomark _))
    (pss_one (ps_ret (pe_ix ix_list (pv 0) (pv 1) (fun _ _=>rfl))))
    pss_nil)
    (pss_one (ps_ret pe_int))),?_⟩
  refine ⟨_,rfl,_,rfl,a,_,rfl,.inl hS,_,_,rfl,rfl,_,rfl,?_⟩
  refine ite2 (fun c=>?_) (fun c=>?_)
  · have c':(k:Int)<(((ns.map V.int).length:Nat):Int):=of_decide_eq_true c
    rw [List.length_map] at c'
    have hk:k<ns.length:=by omega
    refine ⟨_,rfl,_,rfl,a,_,_,_,rfl,rfl,hS,at_map (List.getElem?_eq_getElem hk),?_⟩
    exact q _
  · exact q _
def sp_blended (K:PySem.W.Frag):Sp:=fun vs H Q _=>∃ (c:Int) (a:Addr) (ms:List Int),vs=[.int c,.ref a]∧SqL K H a (ms.map V.int)∧ms.length≤1000∧(∀ m∈ms,1≤m)∧
  ∀ r H' ns,H r=none→Same H H'→H' r=some (.lst (ns.map V.int))→InR ns ms→Q (.ref r) H'
theorem sc_blended:FnScope ["_law_cell_here","_law_ranges","_law_answer","_law_ball","_law_k","_law_many","_law_other"] ["_law_cell_here","_law_ranges"] (defScope s_blended):=⟨rfl,rfl,rfl,by decide +kernel,rfl,by decide +kernel,by decide +kernel⟩
theorem ok_blended (F:Fun K "_law_blended" "_law_blended" s_blended f fd) (B:Blt mg):FnOk P w K mg base CX0 1 f fd ["_law_cell_here","_law_ranges"] (sp_blended K):=by
  refine F.ok sc_blended (fun vs H Q E h=>?_) (fun cdv A outer s H vs Q E hr h=>?_)
  · obtain ⟨c,a,ms,rfl,_⟩:=h
    rfl
  obtain ⟨c,a,ms,rfl,hS,hl,hm,q⟩:=h
  refine ⟨_,(pss_cons (ps_set (i:=2) sc_blended.nd rfl (Or.inl rfl) (pe_lst pa_nil))
    (pss_cons (ps_set (i:=3) sc_blended.nd rfl (Or.inl rfl) (pe_op op_add (pe_op op_mod (pv 0) pe_int) pe_int))
    (pss_cons (ps_for PassesOwn.never rfl (pi_enum rfl B.enumerate_ (pa_cons (pv 1) pa_nil)) (pg_tup rfl (pgs_cons (pg_name (i:=4) sc_blended.nd rfl (Or.inl rfl)) (pgs_cons (pg_name (i:=5) sc_blended.nd rfl (Or.inl rfl)) pgs_nil)))
    (pss_cons (ps_set (i:=3) sc_blended.nd rfl (Or.inl rfl) (pe_op op_mod (pe_op op_add (pe_op op_add (pe_op op_mul (pv 3) pe_int) (pe_op op_mul (pe_op op_mul pe_int (pv 4)) (pv 4))) pe_int) pe_int))
    (pss_cons (ps_set (i:=6) sc_blended.nd rfl (Or.inl rfl) (pe_op op_mod (pe_op op_mul (pv 3) (pe_op op_add (pe_op op_fdiv (pv 3) pe_int) pe_int)) pe_int))
    (pss_one (ps_expr (pe_bm PySem.F.plainAttrs_list PySem.F.slot_list_append PySem.F.type_list_append mt_append (pv 2) (pa_cons (pe_op op_mod (pe_op op_mod (pe_op op_add (pe_op op_mul (pv 6) (pv 6)) (pv 3)) pe_int) (pv 5)) pa_nil)))))))
    (pss_one (ps_ret (pv 2)))))),?_⟩
  refine ⟨(by show 0≤sizeLine; decide),fun p hp=>?_⟩
  refine ⟨_,rfl,_,_,rfl,rfl,(show (0:Int)<1000000093 by decide),_,_,rfl,rfl,?_⟩
  have hlm:(ms.map V.int).length=ms.length:=List.length_map _
  refine ⟨_,rfl,a,rfl,⟨_,(same_new hp _).seq hS⟩,for_enum (K:=K) (a:=a) (xs:=ms.map V.int) (fun i σ H2=>∃ (ball:Int) (ns:List Int) (o1 o2 o3:Option V),
      σ=[some (.int c),some (.ref a),some (.ref p),some (.int ball),o1,o2,o3]∧0≤ball∧ball<2000000000∧Same H H2∧H2 p=some (.lst (ns.map V.int))∧InR ns (ms.take i))
    ⟨c % 1000000093+12,[],none,none,none,rfl,by omega,by omega,same_new hp _,upd_same,.nil⟩ (fun i σ H2 _ ⟨_,_,_,_,_,_,_,_,s2,_,_⟩=>s2.seq hS) ?_ ?_⟩
  · rintro i y σ H2 T hi ⟨ball,ns,o1,o2,o3,rfl,b0,b1,s2,hp2,hin⟩ hT
    obtain ⟨m,rfl,hmi⟩:=map_at hi
    have hil:i<ms.length:=(List.getElem?_eq_some_iff.mp hmi).1
    have hm1:1≤m:=hm m (List.mem_of_getElem? hmi)
    have hpT:p≠T:=ne_of_none hp2 hT
    have hp3:(upd H2 T (.tup [.int (i:Int),.int m])) p=some (.lst (ns.map V.int)):=by rw [upd_ne hpT]; exact hp2
    have nT:H T=none:=s2.free hT
    refine ⟨T,_,rfl,SqT.of upd_same,rfl,_,_,rfl,_,_,rfl,rfl,?_⟩
    refine ⟨_,rfl,_,_,rfl,rfl,.inr ⟨by decide,by decide⟩,_,rfl,_,_,rfl,rfl,.inl ⟨by decide,by decide⟩,_,rfl,_,_,rfl,rfl,.inr ⟨by omega,by omega⟩,_,_,rfl,rfl,_,_,rfl,rfl,_,_,rfl,rfl,(show (0:Int)<1000000093 by decide),?_⟩
    generalize eb:(ball * 48817+65029 * (i:Int) * (i:Int)+501) % 1000000093=ball2
    have c0:0≤ball2:=by omega
    have c1:ball2<1000000093:=by omega
    refine ⟨_,rfl,_,rfl,_,_,rfl,rfl,⟨by decide,by decide⟩,_,_,rfl,rfl,_,_,rfl,rfl,.inl ⟨by omega,by omega⟩,_,_,rfl,rfl,(show (0:Int)<998244353 by decide),?_⟩
    generalize eo:ball2 * (ball2 / 2053+613) % 998244353=oth
    have d0:0≤oth:=by omega
    have d1:oth<998244353:=by omega
    refine ⟨_,rfl,.inl ⟨rfl,_,SqL.of hp3⟩,_,rfl,_,rfl,_,_,rfl,rfl,.inl ⟨by omega,by omega⟩,_,rfl,_,_,rfl,rfl,_,_,rfl,rfl,(show (0:Int)<1000000087 by decide),_,rfl,_,_,rfl,rfl,(show (0:Int)<m by omega),p,_,_,rfl,rfl,hp3,?_,?_⟩
    · rw [List.length_map,hin.length,List.length_take]
      exact small1000 (by omega)
    · generalize ez:(oth * oth+ball2) % 1000000087=z
      refine ⟨ball2,ns++[z % m],some (.int (i:Int)),some (.int m),some (.int oth),(by subst eo; subst eb; rfl),c0,by omega,(s2.upd nT _).upd hp _,?_,?_⟩
      · subst ez
        subst eo
        subst eb
        rw [upd_same,List.map_append]
        rfl
      · rw [take_snoc hmi]
        exact hin.snoc (Int.emod_nonneg _ (by omega)) (Int.emod_lt_of_pos _ (by omega))
  · rintro σ H2 ⟨ball,ns,o1,o2,o3,rfl,b0,b1,s2,hp2,hin⟩
    refine ⟨_,rfl,?_⟩
    rw [hlm,List.take_length] at hin
    exact q p H2 ns hp s2 hp2 hin
def sp_figures (K:PySem.W.Frag):Sp:=fun vs H Q _=>∃ (c:Int) (a b:Addr) (ms ss:List Int),vs=[.int c,.ref a,.ref b]∧SqL K H a (ms.map V.int)∧SqL K H b (ss.map V.int)∧ms.length≤1000∧(∀ m∈ms,1≤m∧Big m)∧InR ss ms∧
  ∀ r H' ns,H r=none→Same H H'→H' r=some (.lst (ns.map V.int))→InR ns ms→Q (.ref r) H'
theorem sc_figures:FnScope ["_law_cell_here","_law_ranges","_law_spare","_law_answer","_law_k","_law_many"] ["_law_cell_here","_law_ranges","_law_spare"] (defScope s_figures):=⟨rfl,rfl,rfl,by decide +kernel,rfl,by decide +kernel,by decide +kernel⟩
theorem ok_figures (F:Fun K "_law_figures" "_law_figures" s_figures f fd) (B:Blt mg):FnOk P w K mg base CX0 1 f fd ["_law_cell_here","_law_ranges","_law_spare"] (sp_figures K):=by
  refine F.ok sc_figures (fun vs H Q E h=>?_) (fun cdv A outer s H vs Q E hr h=>?_)
  · obtain ⟨c,a,b,ms,ss,rfl,_⟩:=h
    rfl
  obtain ⟨c,a,b,ms,ss,rfl,hS,hSS,hl,hm,hin0,q⟩:=h
  refine ⟨_,(pss_cons (ps_set (i:=3) sc_figures.nd rfl (Or.inl rfl) (pe_lst pa_nil))
    (pss_cons (ps_for PassesOwn.never rfl (pi_enum rfl B.enumerate_ (pa_cons (pv 1) pa_nil)) (pg_tup rfl (pgs_cons (pg_name (i:=4) sc_figures.nd rfl (Or.inl rfl)) (pgs_cons (pg_name (i:=5) sc_figures.nd rfl (Or.inl rfl)) pgs_nil)))
    (pss_cons (ps_if (PW.pt (pw_or (pt_cmpR op_eq (pv 0) pe_int (nomark _)) (pw_or1 (pt_cmpR op_eq (pv 0) (pe_op op_sub pe_int pe_int) (nomark _)))))
    (pss_one (ps_expr (pe_bm PySem.F.plainAttrs_list PySem.F.slot_list_append PySem.F.type_list_append mt_append (pv 3) (pa_cons (pe_ix ix_list (pv 2) (pv 4) (fun _ _=>rfl)) pa_nil))))
    (pss_one (ps_expr (pe_bm PySem.F.plainAttrs_list PySem.F.slot_list_append PySem.F.type_list_append mt_append (pv 3) (pa_cons (pe_op op_mod (pv 0) (pv 5)) pa_nil)))))
    (pss_one (ps_set (i:=0) sc_figures.nd rfl (Or.inl rfl) (pe_op op_fdivB (pv 0) (pv 5))))))
    (pss_one (ps_ret (pv 3))))),?_⟩
  refine ⟨(by show 0≤sizeLine; decide),fun p hp=>?_⟩
  have hlm:(ms.map V.int).length=ms.length:=List.length_map _
  refine ⟨_,rfl,a,rfl,⟨_,(same_new hp _).seq hS⟩,for_enum (K:=K) (a:=a) (xs:=ms.map V.int) (fun i σ H2=>∃ (cc:Int) (ns:List Int) (o1 o2:Option V),
      σ=[some (.int cc),some (.ref a),some (.ref b),some (.ref p),o1,o2]∧Same H H2∧H2 p=some (.lst (ns.map V.int))∧InR ns (ms.take i))
    ⟨c,[],none,none,rfl,same_new hp _,upd_same,.nil⟩ (fun i σ H2 _ ⟨_,_,_,_,_,s2,_,_⟩=>s2.seq hS) ?_ ?_⟩
  · rintro i y σ H2 T hi ⟨cc,ns,o1,o2,rfl,s2,hp2,hin⟩ hT
    obtain ⟨m,rfl,hmi⟩:=map_at hi
    have hil:i<ms.length:=(List.getElem?_eq_some_iff.mp hmi).1
    obtain ⟨hm1,hmB⟩:=hm m (List.mem_of_getElem? hmi)
    have hpT:p≠T:=ne_of_none hp2 hT
    have hp3:(upd H2 T (.tup [.int (i:Int),.int m])) p=some (.lst (ns.map V.int)):=by rw [upd_ne hpT]; exact hp2
    have nT:H T=none:=s2.free hT
    have s3:Same H (upd H2 T (.tup [.int (i:Int),.int m])):=s2.upd nT _
    have hlen:(ns.map V.int).length<sizeLine:=by
      rw [List.length_map,hin.length,List.length_take]
      exact small1000 (by omega)
    obtain ⟨z0,hz0,z1,z2⟩:=hin0.at hmi
    refine ⟨T,_,rfl,SqT.of upd_same,rfl,_,_,rfl,_,_,rfl,rfl,?_⟩
    have fin:∀ z:Int,0≤z→z<m→∃ (cc':Int) (ns':List Int) (o1' o2':Option V),
        [some (V.int (cc / m)),some (V.ref a),some (V.ref b),some (V.ref p),some (V.int (i:Int)),some (V.int m)]=[some (.int cc'),some (.ref a),some (.ref b),some (.ref p),o1',o2']∧
        Same H (upd (upd H2 T (.tup [.int (i:Int),.int m])) p (.lst (ns.map V.int++[V.int z])))∧(upd (upd H2 T (.tup [.int (i:Int),.int m])) p (.lst (ns.map V.int++[V.int z]))) p=some (.lst (ns'.map V.int))∧InR ns' (ms.take (i+1)):=fun z h0 h1=>by
      refine ⟨cc / m,ns++[z],_,_,rfl,s3.upd hp _,?_,?_⟩
      · rw [upd_same,List.map_append]
        rfl
      · rw [take_snoc hmi]
        exact hin.snoc h0 h1
    refine ⟨_,rfl,rfl,_,rfl,?_⟩
    refine ite2 (fun _=>?_) (fun _=>⟨_,rfl,_,_,rfl,rfl,rfl,_,rfl,?_⟩)
    · refine iteT ⟨_,rfl,.inl ⟨rfl,_,SqL.of hp3⟩,_,rfl,_,rfl,b,_,_,_,rfl,rfl,s3.seq hSS,at_map hz0,p,_,_,rfl,rfl,hp3,hlen,?_⟩
      exact ⟨_,rfl,_,rfl,_,_,rfl,rfl,⟨by omega,hmB⟩,fin z0 z1 z2⟩
    · refine ite2 (fun _=>?_) (fun _=>?_)
      · refine ⟨_,rfl,.inl ⟨rfl,_,SqL.of hp3⟩,_,rfl,_,rfl,b,_,_,_,rfl,rfl,s3.seq hSS,at_map hz0,p,_,_,rfl,rfl,hp3,hlen,?_⟩
        exact ⟨_,rfl,_,rfl,_,_,rfl,rfl,⟨by omega,hmB⟩,fin z0 z1 z2⟩
      · refine ⟨_,rfl,.inl ⟨rfl,_,SqL.of hp3⟩,_,rfl,_,rfl,_,_,rfl,rfl,(show (0:Int)<m by omega),p,_,_,rfl,rfl,hp3,hlen,?_⟩
        exact ⟨_,rfl,_,rfl,_,_,rfl,rfl,⟨by omega,hmB⟩,fin (cc % m) (Int.emod_nonneg _ (by omega)) (Int.emod_lt_of_pos _ (by omega))⟩
  · rintro σ H2 ⟨cc,ns,o1,o2,rfl,s2,hp2,hin⟩
    refine ⟨_,rfl,?_⟩
    rw [hlm,List.take_length] at hin
    exact q p H2 ns hp s2 hp2 hin
def sp_part (K:PySem.W.Frag):Sp:=fun vs H Q _=>∃ (a:Addr) (ns:List Int) (k:Nat) (b:Addr) (ms:List Int),vs=[.ref a,.int k,.ref b]∧SqL K H a (ns.map V.int)∧k≤1000∧SqL K H b (ms.map V.int)∧ms.length≤1000∧(∀ m∈ms,1≤m∧Big m)∧
  ∀ r H' ns,H r=none→Same H H'→H' r=some (.lst (ns.map V.int))→InR ns ms→Q (.ref r) H'
theorem sc_part:FnScope ["_law_script","_law_k","_law_ranges","_law_cell_here","_law_spare"] ["_law_script","_law_k","_law_ranges"] (defScope s_part):=⟨rfl,rfl,rfl,by decide +kernel,rfl,by decide +kernel,by decide +kernel⟩
theorem ok_part (F:Fun K "_law_part" "_law_part" s_part f fd) (C_cell:Cal P w K mg base 1 "_law_cell" ["_law_script","_law_k"] (sp_cell K)) (C_blended:Cal P w K mg base 1 "_law_blended" ["_law_cell_here","_law_ranges"] (sp_blended K))
    (C_figures:Cal P w K mg base 1 "_law_figures" ["_law_cell_here","_law_ranges","_law_spare"] (sp_figures K)):FnOk P w K mg base CX0 2 f fd ["_law_script","_law_k","_law_ranges"] (sp_part K):=by
  refine F.ok sc_part (fun vs H Q E h=>?_) (fun cdv A outer s H vs Q E hr h=>?_)
  · obtain ⟨a,ns,k,b,ms,rfl,_⟩:=h
    rfl
  obtain ⟨a,ns,k,b,ms,rfl,hS,hk,hB,hl,hm,q⟩:=h
  refine ⟨_,(pss_cons (ps_set (i:=3) sc_part.nd rfl (Or.inl rfl) (pe_fn C_cell hr (by decide) rfl (pa_cons (pv 0) (pa_cons (pv 1) pa_nil))))
    (pss_cons (ps_set (i:=4) sc_part.nd rfl (Or.inl rfl) (pe_fn C_blended hr (by decide) rfl (pa_cons (pe_op op_add (pv 3) (pe_op op_mul (pe_op op_mul pe_int (pv 1)) (pv 1))) (pa_cons (pv 2) pa_nil))))
    (pss_cons (ps_if (pt_cmpR op_eq (pe_op op_mod (pe_fn C_cell hr (by decide) rfl (pa_cons (pv 0) (pa_cons pe_int pa_nil))) pe_int) pe_int (nomark _))
    (pss_one (ps_ret (pe_fn C_figures hr (by decide) rfl (pa_cons (pv 3) (pa_cons (pv 2) (pa_cons (pv 4) pa_nil))))))
    pss_nil)
    (pss_one (ps_ret (pv 4)))))),?_⟩
  refine ⟨_,rfl,_,rfl,a,ns,k,rfl,hS,fun z=>?_⟩
  refine ⟨_,rfl,_,rfl,_,_,rfl,rfl,.inl ⟨by decide,by decide⟩,_,rfl,_,_,rfl,rfl,.inr ⟨by omega,by omega⟩,_,_,rfl,rfl,_,rfl,_,b,ms,rfl,hB,hl,fun m h=>(hm m h).1,fun r H1 ss hr1 s1 h1 hin=>?_⟩
  refine ⟨_,rfl,a,ns,0,rfl,s1.seq hS,fun z'=>?_⟩
  refine ⟨_,_,rfl,rfl,(show (0:Int)<2 by decide),rfl,_,rfl,?_⟩
  refine ite2 (fun _=>?_) (fun _=>?_)
  · refine ⟨_,rfl,_,rfl,_,rfl,_,b,r,ms,ss,rfl,s1.seq hB,SqL.of h1,hl,hm,hin,fun r2 H2 ns2 hr2 s2 h2 hin2=>?_⟩
    exact q r2 H2 ns2 (s1.free hr2) (s1.trans s2) h2 hin2
  · refine ⟨_,rfl,?_⟩
    exact q r H1 ss hr1 s1 h1 hin
end
end K62
namespace K62
open PySem L2
structure Ten where
  (c0 c1 c2 c3 c4 c5 c6 c7 c8 c9 cB:Addr)
structure TenOk (mg:Str→Option Value) (t:Ten):Prop where
  m0:mg "NoRule"=some (.ref t.c0)
  m1:mg "NoChoir"=some (.ref t.c1)
  m2:mg "NoText"=some (.ref t.c2)
  m3:mg "Waiting"=some (.ref t.c3)
  m4:mg "Mixed"=some (.ref t.c4)
  m5:mg "NoName"=some (.ref t.c5)
  m6:mg "NoRound"=some (.ref t.c6)
  m7:mg "NoListening"=some (.ref t.c7)
  m8:mg "NoRow"=some (.ref t.c8)
  m9:mg "NoStand"=some (.ref t.c9)
  mB:mg "BellError"=some (.ref t.cB)
def isAt (at_:Int) (i:Nat):Bool:=decide (V.int (0+(i:Int))=V.int at_)
structure OnlyF (K:PySem.W.Frag) (C:Addr) (at_:Int) (t:Ten):Prop where
  k0:PySem.W.kitOne K (.ref C) (.ref t.c0)=some (isAt at_ 0)
  k1:PySem.W.kitOne K (.ref C) (.ref t.c1)=some (isAt at_ 1)
  k2:PySem.W.kitOne K (.ref C) (.ref t.c2)=some (isAt at_ 2)
  k3:PySem.W.kitOne K (.ref C) (.ref t.c3)=some (isAt at_ 3)
  k4:PySem.W.kitOne K (.ref C) (.ref t.c4)=some (isAt at_ 4)
  k5:PySem.W.kitOne K (.ref C) (.ref t.c5)=some (isAt at_ 5)
  k6:PySem.W.kitOne K (.ref C) (.ref t.c6)=some (isAt at_ 6)
  k7:PySem.W.kitOne K (.ref C) (.ref t.c7)=some (isAt at_ 7)
  k8:PySem.W.kitOne K (.ref C) (.ref t.c8)=some (isAt at_ 8)
  k9:PySem.W.kitOne K (.ref C) (.ref t.c9)=some (isAt at_ 9)
  kB:PySem.W.kitOne K (.ref C) (.ref t.cB)=some true
  kV:PySem.W.kitOne K (.ref C) (.type "ValueError")=some true
  xc:XCls K C
theorem boot_VE:bootBuiltins "ValueError"=some (.type "ValueError"):=by decide +kernel
theorem eqL_bls:∀ l:List Bool,eqL (l.map V.bl) (l.map V.bl)=true
  | []=>rfl
  | b::r=>by
    show (eqV (.bl b) (.bl b) && eqL (r.map V.bl) (r.map V.bl))=true
    rw [eqL_bls r]
    cases b <;> rfl
theorem flat_bls (l:List Bool):(l.map V.bl).all flatV=true:=by
  rw [List.all_eq_true]
  intro x hx
  obtain ⟨o,_,rfl⟩:=List.mem_map.mp hx
  rfl
theorem XDict.same {H H':Hp} {d:Option Addr} (h:XDict H d) (s:Same H H'):XDict H' d:=by
  rcases h with z | ⟨dx,fs,e,q⟩
  · exact .inl z
  · exact .inr ⟨dx,fs,e,s _ _ q⟩
section
variable {P:Program} {w:World} {K:PySem.W.Frag} {mg:Str→Option Value} {base:Heap} {f:Addr} {fd:FuncData}
def sp_only (C:Addr) (at_:Int):Sp:=fun vs H Q _=>∃ (a:Addr) (d:Option Addr),vs=[.ref a,.int at_]∧H a=some (ExO a C d)∧XDict H d∧∀ H',Same H H'→Q (.bl true) H'
theorem sc_only:FnScope ["_law_error","_law_at","_law_some"] ["_law_error","_law_at"] (defScope s_only):=⟨rfl,rfl,rfl,by decide +kernel,rfl,by decide +kernel,by decide +kernel⟩
theorem ok_only {t:Ten} {C:Addr} {at_:Int} (F:Fun K "_law_only" "_law_only" s_only f fd) (B:Blt mg) (T:TenOk mg t) (O:OnlyF K C at_ t):FnOk P w K mg base CX0 1 f fd ["_law_error","_law_at"] (sp_only C at_):=by
  refine F.ok sc_only (fun vs H Q E h=>?_) (fun cdv A outer s H vs Q E hr h=>?_)
  · obtain ⟨a,d,rfl,_⟩:=h
    rfl
  obtain ⟨a,d,rfl,ha,hd,q⟩:=h
  refine ⟨_,(pss_cons (ps_set (i:=2) sc_only.nd rfl (Or.inl rfl) (pe_lst (pa_cons (pe_callB call_isX rfl B.isinstance_ PyProof.Rows.boot_isinstance (pa_cons (pv 0) (pa_cons (pe_glob (v:=.ref t.c0) rfl T.m0 rfl) pa_nil))) (pa_cons (pe_callB call_isX rfl B.isinstance_ PyProof.Rows.boot_isinstance (pa_cons (pv 0) (pa_cons (pe_glob (v:=.ref t.c1) rfl T.m1 rfl) pa_nil))) (pa_cons (pe_callB call_isX rfl B.isinstance_ PyProof.Rows.boot_isinstance (pa_cons (pv 0) (pa_cons (pe_glob (v:=.ref t.c2) rfl T.m2 rfl) pa_nil))) pa_nil)))))
    (pss_cons (ps_set (i:=2) sc_only.nd rfl (Or.inl rfl) (pe_op op_cat (pv 2) (pe_lst (pa_cons (pe_callB call_isX rfl B.isinstance_ PyProof.Rows.boot_isinstance (pa_cons (pv 0) (pa_cons (pe_glob (v:=.ref t.c3) rfl T.m3 rfl) pa_nil))) (pa_cons (pe_callB call_isX rfl B.isinstance_ PyProof.Rows.boot_isinstance (pa_cons (pv 0) (pa_cons (pe_glob (v:=.ref t.c4) rfl T.m4 rfl) pa_nil))) (pa_cons (pe_callB call_isX rfl B.isinstance_ PyProof.Rows.boot_isinstance (pa_cons (pv 0) (pa_cons (pe_glob (v:=.ref t.c5) rfl T.m5 rfl) pa_nil))) pa_nil))))))
    (pss_cons (ps_set (i:=2) sc_only.nd rfl (Or.inl rfl) (pe_op op_cat (pv 2) (pe_lst (pa_cons (pe_callB call_isX rfl B.isinstance_ PyProof.Rows.boot_isinstance (pa_cons (pv 0) (pa_cons (pe_glob (v:=.ref t.c6) rfl T.m6 rfl) pa_nil))) (pa_cons (pe_callB call_isX rfl B.isinstance_ PyProof.Rows.boot_isinstance (pa_cons (pv 0) (pa_cons (pe_glob (v:=.ref t.c7) rfl T.m7 rfl) pa_nil))) (pa_cons (pe_callB call_isX rfl B.isinstance_ PyProof.Rows.boot_isinstance (pa_cons (pv 0) (pa_cons (pe_glob (v:=.ref t.c8) rfl T.m8 rfl) pa_nil))) pa_nil))))))
    (pss_cons (ps_expr (pe_bm PySem.F.plainAttrs_list PySem.F.slot_list_append PySem.F.type_list_append mt_append (pv 2) (pa_cons (pe_callB call_isX rfl B.isinstance_ PyProof.Rows.boot_isinstance (pa_cons (pv 0) (pa_cons (pe_glob (v:=.ref t.c9) rfl T.m9 rfl) pa_nil))) pa_nil)))
    (pss_cons (ps_if (PW.pt (pw_or (pt_not (pt_val (pe_callB call_isX rfl B.isinstance_ PyProof.Rows.boot_isinstance (pa_cons (pv 0) (pa_cons (pe_glob (v:=.ref t.cB) rfl T.mB rfl) pa_nil))))) (pw_or1 (pt_not (pt_val (pe_callB call_isX rfl B.isinstance_ PyProof.Rows.boot_isinstance (pa_cons (pv 0) (pa_cons (pe_bltn (v:=.ty "ValueError") rfl B.ValueError_ boot_VE rfl) pa_nil))))))))
    (pss_one (ps_ret pe_bl))
    pss_nil)
    (pss_one (ps_ret (pe_cmpR (op_eqL hr.units0) (pv 2) (pe_comp ["_law_k"] ["_law_at"] [1] rfl (pi_range1 rfl B.range_ (pa_cons pe_int pa_nil)) (fun _ _ _ _ _=>pg_name (i:=0) (show List.Nodup [("_law_k":Str),("_law_at":Str)] by decide +kernel) rfl (Or.inl rfl)) (fun _ _ _ _ _=>pts_nil) (fun _ _ _ _ _=>pe_cmpR op_eq (pv 0) (pv 1) (nomark _))) (nomark _))))))))),?_⟩
  refine ⟨_,rfl,a,C,d,_,_,_,rfl,ha,hd,O.xc,(fun _ z=>z),O.k0,_,rfl,a,C,d,_,_,_,rfl,ha,hd,O.xc,(fun _ z=>z),O.k1,_,rfl,a,C,d,_,_,_,rfl,ha,hd,O.xc,(fun _ z=>z),O.k2,(by show 3≤sizeLine; decide),fun l1 n1=>?_⟩
  have s1:Same H (upd H l1 (.lst [.bl (isAt at_ 0),.bl (isAt at_ 1),.bl (isAt at_ 2)])):=same_new n1 _
  have ha1:=s1 _ _ ha
  have hd1:=XDict.same hd s1
  refine ⟨_,rfl,_,rfl,a,C,d,_,_,_,rfl,ha1,hd1,O.xc,(fun _ z=>z),O.k3,_,rfl,a,C,d,_,_,_,rfl,ha1,hd1,O.xc,(fun _ z=>z),O.k4,_,rfl,a,C,d,_,_,_,rfl,ha1,hd1,O.xc,(fun _ z=>z),O.k5,(by show 3≤sizeLine; decide),fun l2 n2=>?_⟩
  refine ⟨l1,l2,_,_,rfl,rfl,(same_new n2 _) _ _ upd_same,upd_same,(by show 3+3≤sizeLine; decide),fun l3 n3=>?_⟩
  have s2:=s1.trans ((same_new n2 (.lst [.bl (isAt at_ 3),.bl (isAt at_ 4),.bl (isAt at_ 5)])).trans (same_new n3 (.lst ([.bl (isAt at_ 0),.bl (isAt at_ 1),.bl (isAt at_ 2)]++[.bl (isAt at_ 3),.bl (isAt at_ 4),.bl (isAt at_ 5)]))))
  generalize hH3:upd (upd (upd H l1 _) l2 _) l3 _=H3 at s2 ⊢
  have h3:H3 l3=some (.lst ([.bl (isAt at_ 0),.bl (isAt at_ 1),.bl (isAt at_ 2)]++[.bl (isAt at_ 3),.bl (isAt at_ 4),.bl (isAt at_ 5)])):=by rw [← hH3]; exact upd_same
  clear hH3
  have ha3:=s2 _ _ ha
  have hd3:=XDict.same hd s2
  refine ⟨_,rfl,_,rfl,a,C,d,_,_,_,rfl,ha3,hd3,O.xc,(fun _ z=>z),O.k6,_,rfl,a,C,d,_,_,_,rfl,ha3,hd3,O.xc,(fun _ z=>z),O.k7,_,rfl,a,C,d,_,_,_,rfl,ha3,hd3,O.xc,(fun _ z=>z),O.k8,(by show 3≤sizeLine; decide),fun l4 n4=>?_⟩
  refine ⟨l3,l4,_,_,rfl,rfl,(same_new n4 _) _ _ h3,upd_same,(by show 6+3≤sizeLine; decide),fun l5 n5=>?_⟩
  have s3:=s2.trans ((same_new n4 (.lst [.bl (isAt at_ 6),.bl (isAt at_ 7),.bl (isAt at_ 8)])).trans (same_new n5 (.lst (([.bl (isAt at_ 0),.bl (isAt at_ 1),.bl (isAt at_ 2)]++[.bl (isAt at_ 3),.bl (isAt at_ 4),.bl (isAt at_ 5)])++[.bl (isAt at_ 6),.bl (isAt at_ 7),.bl (isAt at_ 8)]))))
  have nH5:H l5=none:=(s2.trans (same_new n4 (.lst [.bl (isAt at_ 6),.bl (isAt at_ 7),.bl (isAt at_ 8)]))).free n5
  generalize hH5:upd (upd H3 l4 _) l5 _=H5 at s3 ⊢
  have h5:H5 l5=some (.lst (([.bl (isAt at_ 0),.bl (isAt at_ 1),.bl (isAt at_ 2)]++[.bl (isAt at_ 3),.bl (isAt at_ 4),.bl (isAt at_ 5)])++[.bl (isAt at_ 6),.bl (isAt at_ 7),.bl (isAt at_ 8)])):=by rw [← hH5]; exact upd_same
  clear hH5
  have ha5:=s3 _ _ ha
  have hd5:=XDict.same hd s3
  refine ⟨_,rfl,.inl ⟨rfl,_,SqL.of h5⟩,_,rfl,a,C,d,_,_,_,rfl,ha5,hd5,O.xc,(fun _ z=>z),O.k9,l5,_,_,rfl,rfl,h5,(by show 9<sizeLine; decide),?_⟩
  have s4:=s3.upd nH5 (.lst ((([.bl (isAt at_ 0),.bl (isAt at_ 1),.bl (isAt at_ 2)]++[.bl (isAt at_ 3),.bl (isAt at_ 4),.bl (isAt at_ 5)])++[.bl (isAt at_ 6),.bl (isAt at_ 7),.bl (isAt at_ 8)])++[.bl (isAt at_ 9)]))
  generalize hH6:upd H5 l5 _=H6 at s4 ⊢
  have h6:H6 l5=some (.lst (((List.range 10).map (isAt at_)).map V.bl)):=by rw [← hH6]; exact upd_same
  clear hH6
  have ha6:=s4 _ _ ha
  have hd6:=XDict.same hd s4
  refine ⟨_,rfl,a,C,d,_,_,_,rfl,ha6,hd6,O.xc,(fun _ z=>z),O.kB,_,rfl,iteF ?_⟩
  refine ⟨_,rfl,a,C,d,_,_,_,rfl,ha6,hd6,O.xc,(fun _ z=>z),O.kV,_,rfl,iteF ?_⟩
  refine ⟨_,rfl,10,rfl,by decide,by decide,fun D hD=>?_⟩
  refine comp_range (fun i ys H2=>Same H6 H2∧ys=((List.range i).map (isAt at_)).map V.bl) ⟨same_new hD _,rfl⟩ ?_ ?_
  · rintro i ys H2 hi ⟨s7,rfl⟩ hD7
    refine ⟨rfl,tTrue_ite ?_⟩
    refine ⟨_,rfl,_,rfl,rfl,_,hD7,?_,_,⟨s7.upd hD _,rfl⟩,?_⟩
    · rw [List.length_map,List.length_map,List.length_range]
      exact small1000 (by omega)
    · rw [List.range_succ,List.map_append,List.map_append]
      exact upd_same
  · rintro ys H2 ⟨s7,rfl⟩ hD7
    refine ⟨l5,D,_,_,rfl,rfl,SqL.of (s7 _ _ h6),SqL.of hD7,flat_bls _,flat_bls _,?_⟩
    have e:eqL (((List.range 10).map (isAt at_)).map V.bl) (((List.range (Int.toNat 10)).map (isAt at_)).map V.bl)=true:=eqL_bls _
    show Q (.bl (eqL _ _)) H2
    rw [e]
    exact q _ (s4.trans s7)
end
end K62
namespace K62
open PySem L2
structure Lis where
  (whom:Nat) (beats:Int) (back:Bool)
inductive RW where
  | all | any | num (n:Int)
structure Bell where
  (name:Str) (start:Int) (rule:RW) (lis:List Lis)
def lisV (l:Lis):List V:=[.int l.whom,.int l.beats,.int (if l.back then 1 else 0)]
def rwV:RW→V
  | .all=>.str "all"
  | .any=>.str "any"
  | .num n=>.int n
def LisAt (H:Hp) (v:V) (l:Lis):Prop:=∃ a,v=.ref a∧H a=some (.tup (lisV l))
def BellAt (H:Hp) (v:V) (b:Bell):Prop:=∃ a t ls,v=.ref a∧H a=some (.tup [.str b.name,.int b.start,rwV b.rule,.ref t])∧H t=some (.tup ls)∧Paired (LisAt H) ls b.lis
def ChoirAt (H:Hp) (v:V) (c:List Bell):Prop:=∃ a vs,v=.ref a∧H a=some (.tup vs)∧Paired (BellAt H) vs c
def TupS (H H':Hp):Prop:=∀ b xs,H b=some (.tup xs)→H' b=some (.tup xs)
theorem TupS.trans {H H1 H2:Hp} (a:TupS H H1) (b:TupS H1 H2):TupS H H2:=fun c xs e=>b c xs (a c xs e)
theorem Same.tup {H H':Hp} (s:Same H H'):TupS H H':=fun b xs e=>s b _ e
theorem tup_upd {H:Hp} {p:Addr} {o:HO} (h:∀ xs,H p≠some (.tup xs)):TupS H (upd H p o):=fun b xs e=>by
  have hb:b≠p:=fun z=>h xs (by rw [← z]; exact e)
  rw [upd_ne hb]
  exact e
theorem paired_imp {α β:Type} {F G:α→β→Prop} (f:∀ a b,F a b→G a b):∀ {xs:List α} {ys:List β},Paired F xs ys→Paired G xs ys
  | _,_,.nil=>.nil
  | _,_,.cons r t=>.cons (f _ _ r) (paired_imp f t)
theorem paired_len {α β:Type} {F:α→β→Prop}:∀ {xs:List α} {ys:List β},Paired F xs ys→xs.length=ys.length
  | _,_,.nil=>rfl
  | _,_,.cons _ t=>congrArg (·+1) (paired_len t)
theorem paired_at {α β:Type} {F:α→β→Prop}:∀ {xs:List α} {ys:List β} {i:Nat} {x:α},Paired F xs ys→xs[i]?=some x→∃ y,ys[i]?=some y∧F x y
  | _,_,0,_,.cons r _,e=>by simp at e; subst e; exact ⟨_,rfl,r⟩
  | _,_,i+1,_,.cons _ t,e=>by
    obtain ⟨y,h1,h2⟩:=paired_at (i:=i) t (by simpa using e)
    exact ⟨y,by simpa using h1,h2⟩
theorem paired_at' {α β:Type} {F:α→β→Prop}:∀ {xs:List α} {ys:List β} {i:Nat} {y:β},Paired F xs ys→ys[i]?=some y→∃ x,xs[i]?=some x∧F x y
  | _,_,0,_,.cons r _,e=>by simp at e; subst e; exact ⟨_,rfl,r⟩
  | _,_,i+1,_,.cons _ t,e=>by
    obtain ⟨y,h1,h2⟩:=paired_at' (i:=i) t (by simpa using e)
    exact ⟨y,by simpa using h1,h2⟩
theorem paired_snoc {α β:Type} {F:α→β→Prop} {x:α} {y:β} (h:F x y):∀ {xs:List α} {ys:List β},Paired F xs ys→Paired F (xs++[x]) (ys++[y])
  | _,_,.nil=>.cons h .nil
  | _,_,.cons r t=>.cons r (paired_snoc h t)
theorem LisAt.mono {H H':Hp} (s:TupS H H') {v:V} {l:Lis} (h:LisAt H v l):LisAt H' v l:=by
  obtain ⟨a,e,q⟩:=h
  exact ⟨a,e,s _ _ q⟩
theorem BellAt.mono {H H':Hp} (s:TupS H H') {v:V} {b:Bell} (h:BellAt H v b):BellAt H' v b:=by
  obtain ⟨a,t,ls,e,q1,q2,q3⟩:=h
  exact ⟨a,t,ls,e,s _ _ q1,s _ _ q2,paired_imp (fun _ _ z=>z.mono s) q3⟩
theorem ChoirAt.mono {H H':Hp} (s:TupS H H') {v:V} {c:List Bell} (h:ChoirAt H v c):ChoirAt H' v c:=by
  obtain ⟨a,vs,e,q1,q2⟩:=h
  exact ⟨a,vs,e,s _ _ q1,paired_imp (fun _ _ z=>z.mono s) q2⟩
def GoodR (n:Nat):RW→Prop
  | .num i=>1≤i∧i≤n
  | _=>True
def GoodL (m k:Nat) (waits:Bool) (l:Lis):Prop:=l.whom<m∧1≤l.beats∧l.beats≤1000∧(waits=false→l.back=false→l.whom<k)
structure GoodB (m k:Nat) (waits:Bool) (b:Bell):Prop where
  n1:1≤b.lis.length
  n6:b.lis.length≤6
  s0:0≤b.start
  s1:b.start≤1000
  r:GoodR b.lis.length b.rule
  l:∀ l∈b.lis,GoodL m k waits l
end K62
namespace K62
open PySem L2
section
variable {P:Program} {w:World} {K:PySem.W.Frag} {mg:Str→Option Value} {base:Heap} {f:Addr} {fd:FuncData}
theorem ntake_snoc {α:Type} {l:List α} {i:Nat} {x:α} (h:l[i]?=some x):l.take (i+1)=l.take i++[x]:=by
  obtain ⟨hi,e⟩:=List.getElem?_eq_some_iff.mp h
  rw [List.take_succ_eq_append_getElem hi,e]
structure Kind (K:PySem.W.Frag) (H:Hp) (v:V) (isS isW:Bool):Prop where
  ex:∃ (t:Value) (bi bb:Bool),TyOf K H v t∧PySem.W.kitOne K t (.type "str")=some isS∧PySem.W.kitOne K t (.type "int")=some bi∧(bi=true→PySem.W.kitOne K t (.type "bool")=some bb)∧isW=(bi && !bb)
theorem kind_int (H:Hp) (i:Int):Kind K H (.int i) false true:=⟨_,true,false,.int i,kit_is K,kit_ii K,fun _=>kit_ib K,rfl⟩
theorem kind_bl (H:Hp) (b:Bool):Kind K H (.bl b) false false:=⟨_,true,true,.bl b,kit_bs K,kit_bi K,fun _=>kit_bb K,rfl⟩
theorem kind_non (H:Hp):Kind K H .non false false:=⟨_,false,false,.non,kit_ns K,kit_ni K,(fun z=>nomatch z),rfl⟩
theorem kind_str (H:Hp) (x:Str):Kind K H (.str x) true false:=⟨_,false,false,.str x,kit_ss K,kit_si K,(fun z=>nomatch z),rfl⟩
def sp_whole (K:PySem.W.Frag):Sp:=fun vs H Q _=>∃ (v:V) (isS isW:Bool),vs=[v]∧Kind K H v isS isW∧Q (.bl isW) H
theorem sc_is_whole:FnScope ["thing"] ["thing"] (defScope s_is_whole):=⟨rfl,rfl,rfl,by decide +kernel,rfl,by decide +kernel,by decide +kernel⟩
theorem ok_is_whole (F:Fun K "is_whole" "is_whole" s_is_whole f fd) (B:Blt mg):FnOk P w K mg base CX0 1 f fd ["thing"] (sp_whole K):=by
  refine F.ok sc_is_whole (fun vs H Q E h=>?_) (fun cdv A outer s H vs Q E hr h=>?_)
  · obtain ⟨v,isS,isW,rfl,_⟩:=h
    rfl
  obtain ⟨v,isS,isW,rfl,kd,q⟩:=h
  obtain ⟨t,bi,bb,ty,k1,k2,k3,k4⟩:=kd.ex
  refine ⟨_,(pss_one (ps_ret (pe_and (pe_callB (call_isT "int") rfl B.isinstance_ PyProof.Rows.boot_isinstance (pa_cons (pv 0) (pa_cons (pe_bltn (v:=.ty "int") rfl B.int_ PyProof.Rows.boot_int rfl) pa_nil))) (pe_one (pe_not (pe_callB (call_isT "bool") rfl B.isinstance_ PyProof.Rows.boot_isinstance (pa_cons (pv 0) (pa_cons (pe_bltn (v:=.ty "bool") rfl B.bool_ PyProof.Rows.boot_bool rfl) pa_nil)))))))),?_⟩
  refine ⟨_,rfl,_,_,_,rfl,ty,k2,_,rfl,?_⟩
  subst k4
  cases bi with
  | false=>exact iteF q
  | true =>
    refine iteT ?_
    refine ⟨_,rfl,_,_,_,rfl,ty,k3 rfl,_,rfl,?_⟩
    exact q
inductive Fl:V→Prop where
  | int (i:Int):Fl (.int i)
  | bl (b:Bool):Fl (.bl b)
  | non:Fl .non
  | str (z:Str):Fl (.str z)
theorem Fl.kind {H:Hp} {v:V} (h:Fl v):∃ isS isW,Kind K H v isS isW∧(isW=true→∃ i:Int,v=.int i)∧(isW=false→∀ i:Int,v≠.int i):=by
  cases h with
  | int i=>exact ⟨_,_,kind_int H i,fun _=>⟨i,rfl⟩,fun e=>(nomatch e)⟩
  | bl b=>exact ⟨_,_,kind_bl H b,fun e=>(nomatch e),fun _ i e=>(nomatch e)⟩
  | non=>exact ⟨_,_,kind_non H,fun e=>(nomatch e),fun _ i e=>(nomatch e)⟩
  | str z=>exact ⟨_,_,kind_str H z,fun e=>(nomatch e),fun _ i e=>(nomatch e)⟩
def inW:V→Int→Int→Bool
  | .int i,lo,hi=>decide (lo≤i) && decide (i≤hi)
  | _,_,_=>false
theorem inW_of {v:V} {lo hi:Int} (h:inW v lo hi=true):∃ i:Int,v=.int i∧lo≤i∧i≤hi:=by
  cases v with
  | int i =>
    have h':(decide (lo≤i) && decide (i≤hi))=true:=h
    rw [Bool.and_eq_true] at h'
    exact ⟨i,rfl,of_decide_eq_true h'.1,of_decide_eq_true h'.2⟩
  | _=>cases h
theorem inW_no {v:V} {i lo hi:Int} (h:inW v lo hi=false) (e:v=.int i) (h1:lo≤i) (h2:i≤hi):False:=by
  subst e
  have h':(decide (lo≤i) && decide (i≤hi))=false:=h
  rw [decide_eq_true h1,decide_eq_true h2] at h'
  cases h'
def sp_within:Sp:=fun vs H Q _=>∃ (v:V) (lo hi:Int),vs=[v,.int lo,.int hi]∧Fl v∧Q (.bl (inW v lo hi)) H
theorem sc_within:FnScope ["thing","least","most"] ["thing","least","most"] (defScope s_is_whole_within):=⟨rfl,rfl,rfl,by decide +kernel,rfl,by decide +kernel,by decide +kernel⟩
theorem ok_within (F:Fun K "is_whole_within" "is_whole_within" s_is_whole_within f fd) (C_whole:Cal P w K mg base 1 "is_whole" ["thing"] (sp_whole K)):FnOk P w K mg base CX0 2 f fd ["thing","least","most"] sp_within:=by
  refine F.ok sc_within (fun vs H Q E h=>?_) (fun cdv A outer s H vs Q E hr h=>?_)
  · obtain ⟨v,lo,hi,rfl,_⟩:=h
    rfl
  obtain ⟨v,lo,hi,rfl,fl,q⟩:=h
  refine ⟨_,(pss_one (ps_ret (pe_and (pe_fn C_whole hr (by decide) rfl (pa_cons (pv 0) pa_nil)) (pe_one (pe_chain op_le op_le (pv 1) (pv 0) (pv 2)))))),?_⟩
  obtain ⟨isS,isW,kd,h1,h2⟩:=fl.kind (K:=K) (H:=H)
  refine ⟨_,rfl,v,isS,isW,rfl,kd,_,rfl,?_⟩
  cases isW with
  | false =>
    have e:inW v lo hi=false:=by
      cases fl with
      | int i=>exact absurd rfl (h2 rfl i)
      | bl b=>rfl
      | non=>rfl
      | str z=>rfl
    rw [e] at q
    exact iteF q
  | true =>
    obtain ⟨i,rfl⟩:=h1 rfl
    refine iteT ?_
    refine ⟨_,rfl,_,rfl,_,_,rfl,rfl,_,rfl,?_⟩
    refine ite2 (fun c=>?_) (fun c=>?_)
    · have e:inW (.int i) lo hi=decide (i≤hi):=by
        show (decide (lo≤i) && decide (i≤hi))=_
        rw [show decide (lo≤i)=true from c]
        rfl
      rw [e] at q
      exact ⟨_,rfl,_,_,rfl,rfl,q⟩
    · have e:inW (.int i) lo hi=false:=by
        show (decide (lo≤i) && decide (i≤hi))=_
        rw [show decide (lo≤i)=false from Bool.eq_false_iff.mpr c]
        rfl
      rw [e] at q
      exact q
def sp_beyond (N:Addr):Sp:=fun vs H Q E=>∃ (v:V) (m:Int),vs=[v,.int m]∧Fl v∧(inW v 0 m=true→Q .non H)∧(inW v 0 m=false→E (.ref N) none H)
theorem sc_beyond:FnScope ["number","most"] ["number","most"] (defScope s_refuse_beyond):=⟨rfl,rfl,rfl,by decide +kernel,rfl,by decide +kernel,by decide +kernel⟩
theorem ok_beyond {N:Addr} (F:Fun K "refuse_beyond" "refuse_beyond" s_refuse_beyond f fd) (mN:mg "NoListening"=some (.ref N)) (xN:ExcC K N) (C_within:Cal P w K mg base 2 "is_whole_within" ["thing","least","most"] sp_within):FnOk P w K mg base (CXE P w) 3 f fd ["number","most"] (sp_beyond N):=by
  refine F.okX sc_beyond (fun vs H Q E h=>?_) (fun cdv A outer s H vs Q E hr h=>?_)
  · obtain ⟨v,m,rfl,_⟩:=h
    rfl
  obtain ⟨v,m,rfl,fl,q1,q2⟩:=h
  refine ⟨_,(pss_one (ps_if (pt_not (pt_val (pe_fn C_within hr (by decide) rfl (pa_cons (pv 0) (pa_cons pe_int (pa_cons (pv 1) pa_nil))))))
    (pss_one (ps_raise0 starts_cx rfl rfl mN xN))
    pss_nil)),?_⟩
  refine ⟨_,rfl,_,rfl,v,0,m,rfl,fl,_,rfl,?_⟩
  cases e:inW v 0 m with
  | true=>exact iteF (q1 e)
  | false=>exact iteT (q2 e)
theorem cut_to {xs:List V} {p:Nat} (h:p≤xs.length):cutV xs none (some (p:Int))=xs.take p:=by
  unfold cutV
  rw [HT.sIx_none,HT.sIx_nat,Nat.min_eq_left h,List.drop_zero,Nat.sub_zero]
theorem cut_on {xs:List V} {p:Nat} (h:p≤xs.length):cutV xs (some (p:Int)) none=xs.drop p:=by
  unfold cutV
  rw [HT.sIx_none,HT.sIx_nat,Nat.min_eq_left h]
  exact List.take_of_length_le (by rw [List.length_drop]; omega)
theorem set_cat {xs:List V} {p:Nat} {x:V} (h:p<xs.length):xs.take p++[x]++xs.drop (p+1)=xs.set p x:=by
  rw [List.set_eq_take_append_cons_drop,if_pos h,List.append_assoc]
  rfl
def sp_other:Sp:=fun vs H Q _=>∃ (a:Addr) (xs:List V) (p:Nat) (x:V),vs=[.ref a,.int p,x]∧H a=some (.tup xs)∧p<xs.length∧xs.length≤6∧∀ r H',Same H H'→H' r=some (.tup (xs.set p x))→Q (.ref r) H'
theorem sc_other:FnScope ["things","place","thing"] ["things","place","thing"] (defScope s_with_other):=⟨rfl,rfl,rfl,by decide +kernel,rfl,by decide +kernel,by decide +kernel⟩
theorem ok_other (F:Fun K "with_other" "with_other" s_with_other f fd):FnOk P w K mg base CX0 1 f fd ["things","place","thing"] sp_other:=by
  refine F.ok sc_other (fun vs H Q E h=>?_) (fun cdv A outer s H vs Q E hr h=>?_)
  · obtain ⟨a,xs,p,x,rfl,_⟩:=h
    rfl
  obtain ⟨a,xs,p,x,rfl,ha,hp,h6,q⟩:=h
  refine ⟨_,(pss_one (ps_ret (pe_op op_catA (pe_op op_catA (pe_slice sl_tupS (pv 0) po_none (po_some (pv 1))) (pe_tup (pa_cons (pv 2) pa_nil))) (pe_slice sl_tupS (pv 0) (po_some (pe_op op_add (pv 1) pe_int)) po_none)))),?_⟩
  refine ⟨_,rfl,_,rfl,_,rfl,a,xs,rfl,ha,fun p1 H1 s1 hp1=>?_⟩
  rw [cut_to (Nat.le_of_lt hp)] at hp1
  refine ⟨_,rfl,(by show 1≤sizeLine; decide),fun t1 ht1=>?_⟩
  have v1:=same_new ht1 (.tup [x])
  refine ⟨p1,t1,_,_,rfl,rfl,v1 _ _ hp1,upd_same,(by rw [List.length_take,sizeLine_eq]; show _+1≤_; omega),fun p2 H2 s2 hp2=>?_⟩
  have s02:=s1.trans (v1.trans s2)
  refine ⟨_,rfl,_,rfl,_,_,rfl,rfl,_,rfl,a,xs,rfl,s02 _ _ ha,fun p3 H3 s3 hp3=>?_⟩
  rw [show (p:Int)+1=((p+1:Nat):Int) by omega,cut_on hp] at hp3
  refine ⟨p2,p3,_,_,rfl,rfl,s3 _ _ hp2,hp3,(by rw [List.length_append,List.length_take,List.length_drop,sizeLine_eq]; show _+1+_≤_; omega),fun p4 H4 s4 hp4=>?_⟩
  rw [set_cat hp] at hp4
  exact q p4 H4 (s02.trans (s3.trans s4)) hp4
end
end K62
namespace K62
open PySem L2
structure Slow (c:List Bell) (x y z:V) (b p:Nat) (m:Int) (bl:Bell) (l:Lis):Prop where
  hx:x=.int b
  hb:c[b]?=some bl
  hy:y=.int p
  hp:bl.lis[p]?=some l
  hz:z=.int m
  m0:0≤m
  m1:l.beats+m≤1000
def slowL (l:Lis) (m:Int):Lis:=⟨l.whom,l.beats+m,l.back⟩
def slowB (bl:Bell) (p:Nat) (l:Lis) (m:Int):Bell:=⟨bl.name,bl.start,bl.rule,bl.lis.set p (slowL l m)⟩
def slower (c:List Bell) (b p:Nat) (m:Int) (bl:Bell) (l:Lis):List Bell:=c.set b (slowB bl p l m)
theorem paired_set {α β:Type} {F:α→β→Prop} {x:α} {y:β} (h:F x y):∀ {xs:List α} {ys:List β} (i:Nat),Paired F xs ys→Paired F (xs.set i x) (ys.set i y)
  | _,_,_,.nil=>.nil
  | _,_,0,.cons _ t=>.cons h t
  | _,_,i+1,.cons r t=>.cons r (paired_set h i t)
section
variable {P:Program} {w:World} {K:PySem.W.Frag} {mg:Str→Option Value} {base:Heap} {f:Addr} {fd:FuncData}
def sp_slower (N:Addr):Sp:=fun vs H Q E=>∃ (ch:V) (c:List Bell) (x y z:V),vs=[ch,x,y,z]∧ChoirAt H ch c∧c.length≤6∧(∀ bl∈c,bl.lis.length≤6)∧Fl x∧Fl y∧Fl z∧
  (∀ b p m bl l,Slow c x y z b p m bl l→∀ v H',Same H H'→ChoirAt H' v (slower c b p m bl l)→Q v H')∧((∀ b p m bl l,¬ Slow c x y z b p m bl l)→E (.ref N) none H)
theorem sc_slower:FnScope ["choir","bell","place","more","listenings","listening","slower"] ["choir","bell","place","more"] (defScope s_made_slower):=⟨rfl,rfl,rfl,by decide +kernel,rfl,by decide +kernel,by decide +kernel⟩
theorem ok_slower {N:Addr} {tM:Tok} (F:Fun K "made_slower" "made_slower" s_made_slower f fd) (B:Blt mg) (mM:mg "MOST_BEATS"=some (.int 1000 tM)) (C_beyond:CalX P w K mg base 3 "refuse_beyond" ["number","most"] (sp_beyond N)) (C_other:Cal P w K mg base 1 "with_other" ["things","place","thing"] sp_other) :
    FnOk P w K mg base (CXE P w) 4 f fd ["choir","bell","place","more"] (sp_slower N):=by
  refine F.okX sc_slower (fun vs H Q E h=>?_) (fun cdv A outer s H vs Q E hr h=>?_)
  · obtain ⟨ch,c,x,y,z,rfl,_⟩:=h
    rfl
  obtain ⟨ch,c,x,y,z,rfl,⟨a,vs,rfl,ha,pr⟩,c6,l6,fx,fy,fz,q,qE⟩:=h
  refine ⟨_,(pss_cons (ps_expr (pe_fnX C_beyond passes_cx hr (by decide) rfl (pa_cons (pv 1) (pa_cons (pe_op op_sub (pe_callB call_len_seq rfl B.len_ PySem.boot_len (pa_cons (pv 0) pa_nil)) pe_int) pa_nil))))
    (pss_cons (ps_set (i:=4) sc_slower.nd rfl (Or.inl rfl) (pe_ix ix_tup (pe_ix ix_tup (pv 0) (pv 1) (fun _ _=>rfl)) pe_int (fun _ _=>rfl)))
    (pss_cons (ps_expr (pe_fnX C_beyond passes_cx hr (by decide) rfl (pa_cons (pv 2) (pa_cons (pe_op op_sub (pe_callB call_len_seq rfl B.len_ PySem.boot_len (pa_cons (pv 4) pa_nil)) pe_int) pa_nil))))
    (pss_cons (ps_set (i:=5) sc_slower.nd rfl (Or.inl rfl) (pe_ix ix_tup (pv 4) (pv 2) (fun _ _=>rfl)))
    (pss_cons (ps_expr (pe_fnX C_beyond passes_cx hr (by decide) rfl (pa_cons (pv 3) (pa_cons (pe_op op_sub (pe_glob (v:=.int 1000) rfl mM ⟨tM,rfl⟩) (pe_ix ix_tup (pv 5) pe_int (fun _ _=>rfl))) pa_nil))))
    (pss_cons (ps_set (i:=6) sc_slower.nd rfl (Or.inl rfl) (pe_tup (pa_cons (pe_ix ix_tup (pv 5) pe_int (fun _ _=>rfl)) (pa_cons (pe_op op_add (pe_ix ix_tup (pv 5) pe_int (fun _ _=>rfl)) (pv 3)) (pa_cons (pe_ix ix_tup (pv 5) pe_int (fun _ _=>rfl)) pa_nil)))))
    (pss_one (ps_ret (pe_fn C_other hr (by decide) rfl (pa_cons (pv 0) (pa_cons (pv 1) (pa_cons (pe_fn C_other hr (by decide) rfl (pa_cons (pe_ix ix_tup (pv 0) (pv 1) (fun _ _=>rfl)) (pa_cons pe_int (pa_cons (pe_fn C_other hr (by decide) rfl (pa_cons (pv 4) (pa_cons (pv 2) (pa_cons (pv 6) pa_nil)))) pa_nil)))) pa_nil)))))))))))),?_⟩
  have hvl:=paired_len pr
  refine ⟨_,rfl,_,rfl,a,_,rfl,.inr (SqT.of ha),_,_,rfl,rfl,x,_,rfl,fx,fun e1=>?_,fun e1=>qE fun b p m bl l S=>?_⟩
  rotate_left
  · have:=(List.getElem?_eq_some_iff.mp S.hb).1
    exact inW_no e1 S.hx (by omega) (by omega)
  obtain ⟨i,rfl,i0,i1⟩:=inW_of e1
  obtain ⟨b,rfl⟩:∃ b:Nat,i=(b:Int):=⟨i.toNat,by omega⟩
  have hbv:b<vs.length:=by omega
  obtain ⟨bl,hb,⟨ba,t,ls,ev,hba,ht,prl⟩⟩:=paired_at pr (List.getElem?_eq_getElem hbv)
  have hv:vs[b]?=some (.ref ba):=by rw [List.getElem?_eq_getElem hbv,ev]
  have hll:=paired_len prl
  have hbl6:=l6 bl (List.mem_of_getElem? hb)
  refine ⟨_,rfl,_,rfl,a,_,_,_,rfl,rfl,SqT.of ha,atI_nat hv,ba,_,_,_,rfl,rfl,SqT.of hba,rfl,?_⟩
  refine ⟨_,rfl,_,rfl,t,_,rfl,.inr (SqT.of ht),_,_,rfl,rfl,y,_,rfl,fy,fun e2=>?_,fun e2=>qE fun b' p m bl' l S=>?_⟩
  rotate_left
  · have eb:b=b':=by have:=V.int.inj S.hx; omega
    subst eb
    have ebl:bl=bl':=Option.some.inj (hb.symm.trans S.hb)
    subst ebl
    have:=(List.getElem?_eq_some_iff.mp S.hp).1
    exact inW_no e2 S.hy (by omega) (by omega)
  obtain ⟨i2,rfl,i20,i21⟩:=inW_of e2
  obtain ⟨p,rfl⟩:∃ p:Nat,i2=(p:Int):=⟨i2.toNat,by omega⟩
  have hpv:p<ls.length:=by omega
  obtain ⟨l,hl,⟨la,el,hla⟩⟩:=paired_at prl (List.getElem?_eq_getElem hpv)
  have hlv:ls[p]?=some (.ref la):=by rw [List.getElem?_eq_getElem hpv,el]
  refine ⟨_,rfl,_,rfl,t,_,_,_,rfl,rfl,SqT.of ht,atI_nat hlv,?_⟩
  refine ⟨_,rfl,_,rfl,la,_,_,_,rfl,rfl,SqT.of hla,rfl,_,_,rfl,rfl,z,_,rfl,fz,fun e3=>?_,fun e3=>qE fun b' p' m bl' l' S=>?_⟩
  rotate_left
  · have eb:b=b':=by have:=V.int.inj S.hx; omega
    subst eb
    have ebl:bl=bl':=Option.some.inj (hb.symm.trans S.hb)
    subst ebl
    have ep:p=p':=by have:=V.int.inj S.hy; omega
    subst ep
    have ell:l=l':=Option.some.inj (hl.symm.trans S.hp)
    subst ell
    have:=S.m1
    exact inW_no e3 S.hz S.m0 (by omega)
  obtain ⟨m,rfl,m0,m1⟩:=inW_of e3
  refine ⟨_,rfl,la,_,_,_,rfl,rfl,SqT.of hla,rfl,_,rfl,la,_,_,_,rfl,rfl,SqT.of hla,rfl,_,rfl,_,_,rfl,rfl,_,rfl,la,_,_,_,rfl,rfl,SqT.of hla,rfl,(by show 3≤sizeLine; decide),fun sl hsl=>?_⟩
  have hsl1:(upd H sl (.tup [.int l.whom,.int (l.beats+m),.int (if l.back then 1 else 0)])) sl=some (.tup (lisV (slowL l m))):=upd_same
  have s1:=same_new hsl (.tup [.int l.whom,.int (l.beats+m),.int (if l.back then 1 else 0)])
  refine ⟨_,rfl,_,rfl,_,rfl,_,rfl,a,_,_,_,rfl,rfl,SqT.of (s1 _ _ ha),atI_nat hv,_,rfl,_,rfl,_,rfl,t,ls,p,_,rfl,s1 _ _ ht,hpv,by omega,fun r1 H1 s2 hr1=>?_⟩
  have s02:=s1.trans s2
  refine ⟨ba,_,3,_,rfl,s02 _ _ hba,(by show 3<4; decide),(by show 4≤6; decide),fun r2 H2 s3 hr2=>?_⟩
  have s03:=s02.trans s3
  refine ⟨a,vs,b,_,rfl,s03 _ _ ha,hbv,by omega,fun r3 H3 s4 hr3=>?_⟩
  have s04:=s03.trans s4
  refine q b p m bl l ⟨rfl,hb,rfl,hl,rfl,m0,by omega⟩ _ H3 s04 ⟨r3,vs.set b (.ref r2),rfl,hr3,paired_set ?_ b (paired_imp (fun _ _ x=>x.mono (Same.tup s04)) pr)⟩
  refine ⟨r2,r1,ls.set p (.ref sl),rfl,s4 _ _ hr2,(s3.trans s4) _ _ hr1,paired_set ?_ p (paired_imp (fun _ _ x=>x.mono (Same.tup s04)) prl)⟩
  exact ⟨sl,rfl,(s2.trans (s3.trans s4)) _ _ hsl1⟩
end
end K62
namespace K62
open PySem L2
def Lk:Nat→Hp→V→V→Prop
  | 0,_,_,_=>False
  | n+1,H,x,y=>(∃ a,x=.str a∧y=.str a)∨(∃ i:Int,x=.int i∧y=.int i)∨
    (∃ p q xs ys,x=.ref p∧y=.ref q∧H p=some (.tup xs)∧H q=some (.tup ys)∧xs.length=ys.length∧ys.length≤900∧∀ (i:Nat) u v,xs[i]?=some u→ys[i]?=some v→Lk n H u v)
theorem Lk.same:∀ {n:Nat} {H H':Hp} {x y:V},Same H H'→Lk n H x y→Lk n H' x y
  | 0,_,_,_,_,_,h=>h.elim
  | n+1,_,_,_,_,s,h=>by
    rcases h with h | h | ⟨p,q,xs,ys,e1,e2,hp,hq,hl,h6,h⟩
    · exact .inl h
    · exact .inr (.inl h)
    · exact .inr (.inr ⟨p,q,xs,ys,e1,e2,s _ _ hp,s _ _ hq,hl,h6,fun i u v h1 h2=>(h i u v h1 h2).same s⟩)
theorem lk_int {n:Nat} {H:Hp} (i:Int):Lk (n+1) H (.int i) (.int i):=.inr (.inl ⟨i,rfl,rfl⟩)
theorem lk_str {n:Nat} {H:Hp} (a:Str):Lk (n+1) H (.str a) (.str a):=.inl ⟨a,rfl,rfl⟩
theorem d3_like {H:Hp} {v v':V} {d:D3} (h:D3At H v d) (h':D3At H v' d):Lk 2 H v v':=by
  obtain ⟨a,rfl,ha⟩:=h
  obtain ⟨a',rfl,ha'⟩:=h'
  refine .inr (.inr ⟨a,a',_,_,rfl,rfl,ha,ha',rfl,(by show 3≤900; decide),fun i u v eu ev=>?_⟩)
  rw [eu] at ev
  cases ev
  have eu':u=.int d.1∨u=.str d.2.1∨u=.int d.2.2:=by
    have:=List.mem_of_getElem? eu
    simpa [d3V] using this
  rcases eu' with rfl | rfl | rfl
  · exact lk_int _
  · exact lk_str _
  · exact lk_int _
theorem d3s_like {H:Hp} {p q:Addr} {xs ys:List V} {ds:List D3} (hp:H p=some (.tup xs)) (hq:H q=some (.tup ys)) (px:Paired (D3At H) xs ds) (py:Paired (D3At H) ys ds) (hl:ds.length≤900):Lk 3 H (.ref p) (.ref q):=by
  have l1:=paired_len px
  have l2:=paired_len py
  refine .inr (.inr ⟨p,q,xs,ys,rfl,rfl,hp,hq,by omega,by omega,fun i u v eu ev=>?_⟩)
  obtain ⟨d,ed,h⟩:=paired_at px eu
  obtain ⟨d',ed',h'⟩:=paired_at py ev
  rw [ed] at ed'
  cases ed'
  exact d3_like h h'
section
variable {P:Program} {w:World} {K:PySem.W.Frag} {mg:Str→Option Value} {base:Heap} {f:Addr} {fd:FuncData}
theorem kit_tt (K:PySem.W.Frag):PySem.W.kitOne K (.type "tuple") (.type "tuple")=some true:=by kernel_rfl
theorem kit_st (K:PySem.W.Frag):PySem.W.kitOne K (.type "str") (.type "tuple")=some false:=by kernel_rfl
theorem kit_it (K:PySem.W.Frag):PySem.W.kitOne K (.type "int") (.type "tuple")=some false:=by kernel_rfl
def sp_like (n:Nat):Sp:=fun vs H Q _=>∃ x y,vs=[x,y]∧Lk n H x y∧∀ H',Same H H'→Q (.bl true) H'
theorem sc_same:FnScope ["_law_answer","_law_due_here"] ["_law_answer","_law_due_here"] (defScope s_same):=⟨rfl,rfl,rfl,by decide +kernel,rfl,by decide +kernel,by decide +kernel⟩
theorem ok_like0 (F:Fun K "_law_same" "_law_same" s_same f fd):FnOk P w K mg base CX0 1 f fd ["_law_answer","_law_due_here"] (sp_like 0) :=
  F.ok sc_same (fun _ _ _ _ ⟨_,_,_,h,_⟩=>h.elim) (fun _ _ _ _ _ _ _ _ _ ⟨_,_,_,h,_⟩=>h.elim)
theorem ok_like {n:Nat} (F:Fun K "_law_same" "_law_same" s_same f fd) (B:Blt mg) (C_same:Cal P w K mg base (n+1) "_law_same" ["_law_answer","_law_due_here"] (sp_like n)):FnOk P w K mg base CX0 (n+1+1) f fd ["_law_answer","_law_due_here"] (sp_like (n+1)):=by
  refine F.ok sc_same (fun vs H Q E h=>?_) (fun cdv A outer s H vs Q E hr h=>?_)
  · obtain ⟨x,y,rfl,_⟩:=h
    rfl
  obtain ⟨x,y,rfl,h,q⟩:=h
  refine ⟨_,(pss_cons (ps_if (pt_val (pe_callB (call_isT "tuple") rfl B.isinstance_ PyProof.Rows.boot_isinstance (pa_cons (pv 1) (pa_cons (pe_bltn (v:=.ty "tuple") rfl B.tuple_ PyProof.Rows.boot_tuple rfl) pa_nil))))
    (pss_cons (ps_if (PW.pt (pw_or (pt_not (pt_val (pe_callB (call_isT "tuple") rfl B.isinstance_ PyProof.Rows.boot_isinstance (pa_cons (pv 0) (pa_cons (pe_bltn (v:=.ty "tuple") rfl B.tuple_ PyProof.Rows.boot_tuple rfl) pa_nil))))) (pw_or1 (pt_cmpR op_ne (pe_callB call_len_seq rfl B.len_ PySem.boot_len (pa_cons (pv 0) pa_nil)) (pe_callB call_len_seq rfl B.len_ PySem.boot_len (pa_cons (pv 1) pa_nil)) (nomark _)))))
    (pss_one (ps_ret pe_bl))
    pss_nil)
    (pss_one (ps_ret (pe_callB (call_all rfl) rfl B.all_ PyProof.Rows.boot_all (pa_cons (pe_comp ["_law_k"] ["_law_answer","_law_due_here"] [0,1] rfl (pi_range1 rfl B.range_ (pa_cons (pe_callB call_len_seq rfl B.len_ PySem.boot_len (pa_cons (pv 1) pa_nil)) pa_nil)) (fun _ _ _ _ _=>(pg_name (i:=0) (show List.Nodup [("_law_k":Str),("_law_answer":Str),("_law_due_here":Str)] by decide +kernel) rfl (Or.inl rfl))) (fun _ _ _ _ _=>pts_nil) (fun _ _ _ _ _=>(pe_fn C_same hr (Nat.le_refl _) rfl (pa_cons (pe_ix (ix_tupC (K:=K) rfl) (pv 1) (pv 0) (fun _ _=>rfl)) (pa_cons (pe_ix (ix_tupC (K:=K) rfl) (pv 2) (pv 0) (fun _ _=>rfl)) pa_nil))))) pa_nil)))))
    pss_nil)
    (pss_cons (ps_if (pt_val (pe_callB (call_isT "str") rfl B.isinstance_ PyProof.Rows.boot_isinstance (pa_cons (pv 1) (pa_cons (pe_bltn (v:=.ty "str") rfl B.str_ PyProof.Rows.boot_str rfl) pa_nil))))
    (pss_one (ps_ret (pe_and (pe_callB (call_isT "str") rfl B.isinstance_ PyProof.Rows.boot_isinstance (pa_cons (pv 0) (pa_cons (pe_bltn (v:=.ty "str") rfl B.str_ PyProof.Rows.boot_str rfl) pa_nil))) (pe_one (pe_cmpR op_eq (pv 0) (pv 1) (nomark _))))))
    pss_nil)
    (pss_one (ps_ret (pe_and (pe_callB (call_isT "int") rfl B.isinstance_ PyProof.Rows.boot_isinstance (pa_cons (pv 0) (pa_cons (pe_bltn (v:=.ty "int") rfl B.int_ PyProof.Rows.boot_int rfl) pa_nil))) (pe_and (pe_not (pe_callB (call_isT "bool") rfl B.isinstance_ PyProof.Rows.boot_isinstance (pa_cons (pv 0) (pa_cons (pe_bltn (v:=.ty "bool") rfl B.bool_ PyProof.Rows.boot_bool rfl) pa_nil)))) (pe_one (pe_cmpR op_eq (pv 0) (pv 1) (nomark _))))))))),?_⟩
  rcases h with ⟨a,rfl,rfl⟩ | ⟨i,rfl,rfl⟩ | ⟨p,p2,xs,ys,rfl,rfl,hp,hp2,hxy,h6,hS⟩
  · refine ⟨_,rfl,_,_,_,rfl,.str a,kit_st K,_,rfl,iteF ?_⟩
    refine ⟨_,rfl,_,_,_,rfl,.str a,kit_ss K,_,rfl,iteT ?_⟩
    refine ⟨_,rfl,_,_,_,rfl,.str a,kit_ss K,_,rfl,iteT ?_⟩
    refine ⟨_,rfl,_,rfl,rfl,?_⟩
    rw [decide_eq_true rfl]
    exact q H (.refl H)
  · refine ⟨_,rfl,_,_,_,rfl,.int i,kit_it K,_,rfl,iteF ?_⟩
    refine ⟨_,rfl,_,_,_,rfl,.int i,kit_is K,_,rfl,iteF ?_⟩
    refine ⟨_,rfl,_,_,_,rfl,.int i,kit_ii K,_,rfl,iteT ?_⟩
    refine ⟨_,rfl,_,_,_,rfl,.int i,kit_ib K,_,rfl,_,rfl,iteT ?_⟩
    refine ⟨_,rfl,_,rfl,rfl,?_⟩
    rw [decide_eq_true rfl]
    exact q H (.refl H)
  · refine ⟨_,rfl,_,_,_,rfl,.tup hp2,kit_tt K,_,rfl,iteT ?_⟩
    refine ⟨_,rfl,_,_,_,rfl,.tup hp,kit_tt K,_,rfl,iteF ?_⟩
    refine ⟨_,rfl,p,_,rfl,.inr (SqT.of hp),_,rfl,p2,_,rfl,.inr (SqT.of hp2),rfl,_,rfl,?_⟩
    refine ite2 (fun cc=>?_) (fun _=>?_)
    · exact absurd cc (by rw [hxy]; simp)
    refine ⟨_,rfl,p2,_,rfl,.inr (SqT.of hp2),((ys.length:Nat):Int),rfl,by omega,by omega,fun D hD=>?_⟩
    refine comp_range (fun j zs H3=>Same H H3∧zs=(List.replicate j true).map V.bl) ⟨same_new hD _,rfl⟩ ?_ ?_
    · rintro j zs H3 hj ⟨s3,rfl⟩ hD3
      have hj':j<ys.length:=by omega
      have ex:=List.getElem?_eq_getElem (show j<xs.length by omega)
      have ey:=List.getElem?_eq_getElem hj'
      rw [Int.zero_add]
      refine ⟨rfl,tTrue_ite ?_⟩
      refine ⟨_,rfl,_,rfl,p,_,_,_,rfl,rfl,SqT.of (s3 _ _ hp),atI_nat ex,_,rfl,_,rfl,p2,_,_,_,rfl,rfl,SqT.of (s3 _ _ hp2),atI_nat ey,?_⟩
      refine ⟨_,_,rfl,(hS j _ _ ex ey).same s3,fun H4 s4=>?_⟩
      refine ⟨_,s4 _ _ hD3,by rw [List.length_map,List.length_replicate]; exact small1000 (by omega),_,⟨(s3.trans s4).upd hD _,rfl⟩,?_⟩
      rw [upd_same,List.replicate_succ',List.map_append]
      rfl
    rintro zs H3 ⟨s3,rfl⟩ hD3
    refine ⟨D,_,rfl,SqL.of hD3,?_⟩
    have hall:∀ m:Nat,(List.replicate m true).all id=true:=fun m=>by rw [List.all_eq_true]; intro x hx; exact (List.mem_replicate.mp hx).2
    rw [hall]
    exact q H3 s3
end
end K62
namespace K62
open PySem L2
theorem drop_at {α:Type} {xs:List α} {i:Nat} {a:α} (h:xs[i]?=some a):xs.drop i=a::xs.drop (i+1):=by
  obtain ⟨hi,e⟩:=List.getElem?_eq_some_iff.mp h
  rw [List.drop_eq_getElem_cons hi,e]
theorem cut_three {xs:List V} {j:Nat} {a b c:V} (ha:xs[3+3 * j]?=some a) (hb:xs[3+3 * j+1]?=some b) (hc:xs[3+3 * j+1+1]?=some c):cutV xs (some (3+3 * (j:Int))) (some (6+3 * (j:Int)))=[a,b,c]:=by
  unfold cutV
  have h4:3+3 * j+1+1<xs.length:=(List.getElem?_eq_some_iff.mp hc).1
  have e1:(3+3 * (j:Int))=((3+3 * j:Nat):Int):=by omega
  have e2:(6+3 * (j:Int))=((6+3 * j:Nat):Int):=by omega
  rw [e1,e2,HT.sIx_nat,HT.sIx_nat]
  have e3:min (3+3 * j) xs.length=3+3 * j:=by omega
  have e4:min (6+3 * j) xs.length - (3+3 * j)=3:=by omega
  rw [e3,e4,drop_at ha,drop_at hb,drop_at hc]
  rfl
section
variable {P:Program} {w:World} {K:PySem.W.Frag} {mg:Str→Option Value} {base:Heap} {f:Addr} {fd:FuncData}
def sp_bell:Sp:=fun vs H Q _=>∃ (r:Addr) (ns:List Int) (z:Str) (m sc:Nat),vs=[.ref r,.str z,.int m,.int sc]∧H r=some (.lst (ns.map V.int))∧ns.length=21∧(∀ n∈ns,0≤n)∧(∃ n2:Int,ns[2]?=some n2∧n2<6)∧1≤m∧1≤sc∧sc≤1000∧
  ∀ (H':Hp) (v:V) (b:Bell),Same H H'→BellAt H' v b→b.name=z→GoodB m 0 true b→Q v H'
theorem sc_bell:FnScope ["_law_numbers","_law_name","_law_many","_law_scale","_law_count","_law_listenings","_law_k","_law_rule","_law_whom","_law_beats","_law_back"] ["_law_numbers","_law_name","_law_many","_law_scale"] (defScope s_bell):=⟨rfl,rfl,rfl,by decide +kernel,rfl,by decide +kernel,by decide +kernel⟩
theorem ok_bell (F:Fun K "_law_bell" "_law_bell" s_bell f fd) (B:Blt mg):FnOk P w K mg base CX0 1 f fd ["_law_numbers","_law_name","_law_many","_law_scale"] sp_bell:=by
  refine F.ok sc_bell (fun vs H Q E h=>?_) (fun cdv A outer s H vs Q E hr h=>?_)
  · obtain ⟨r,ns,z,m,sc,rfl,_⟩:=h
    rfl
  obtain ⟨r,ns,z,m,sc,rfl,hr0,hl,pos,⟨n2,hn2,n26⟩,m1,sc1,scM,q⟩:=h
  refine ⟨_,(pss_cons (ps_set (i:=4) sc_bell.nd rfl (Or.inl rfl) (pe_ix ix_list (pv 0) pe_int (fun _ _=>rfl)))
    (pss_cons (ps_set (i:=5) sc_bell.nd rfl (Or.inl rfl) (pe_lst pa_nil))
    (pss_cons (ps_for PassesOwn.never rfl (pi_range1 rfl B.range_ (pa_cons (pe_op op_add (pv 4) pe_int) pa_nil)) (pg_name (i:=6) sc_bell.nd rfl (Or.inl rfl))
    (pss_cons (ps_asg (pe_slice sl_list (pv 0) (po_some (pe_op op_add pe_int (pe_op op_mul pe_int (pv 6)))) (po_some (pe_op op_add pe_int (pe_op op_mul pe_int (pv 6))))) (pg_tupL rfl (pgs_cons (pg_name (i:=8) sc_bell.nd rfl (Or.inl rfl)) (pgs_cons (pg_name (i:=9) sc_bell.nd rfl (Or.inl rfl)) (pgs_cons (pg_name (i:=10) sc_bell.nd rfl (Or.inl rfl)) pgs_nil)))))
    (pss_one (ps_expr (pe_bm PySem.F.plainAttrs_list PySem.F.slot_list_append PySem.F.type_list_append mt_append (pv 5) (pa_cons (pe_tup (pa_cons (pe_op op_mod (pv 8) (pv 2)) (pa_cons (pe_op op_add pe_int (pe_op op_mod (pv 9) (pv 3))) (pa_cons (pe_callTy call_int1 rfl B.int_ PyProof.Rows.boot_int (pa_cons (pe_cmpR op_gt (pv 10) pe_int (nomark _)) pa_nil)) pa_nil)))) pa_nil))))))
    (pss_cons (ps_set (i:=7) sc_bell.nd rfl (Or.inl rfl) pe_str)
    (pss_join (ps_if (pt_cmpR op_gt (pe_ix ix_list (pv 0) pe_int (fun _ _=>rfl)) pe_int (nomark _))
    (pss_one (ps_set (i:=7) sc_bell.nd rfl (Or.inl rfl) pe_str))
    pss_nil)
    (pss_join (ps_if (pt_cmpR op_gt (pe_ix ix_list (pv 0) pe_int (fun _ _=>rfl)) pe_int (nomark _))
    (pss_one (ps_set (i:=7) sc_bell.nd rfl (Or.inl rfl) (pe_op op_add pe_int (pe_op op_mod (pe_op op_sub (pe_ix ix_list (pv 0) pe_int (fun _ _=>rfl)) pe_int) (pe_callB call_len_seq rfl B.len_ PySem.boot_len (pa_cons (pv 5) pa_nil))))))
    pss_nil)
    (pss_one (ps_ret (pe_tup (pa_cons (pv 1) (pa_cons (pe_op op_mod (pe_ix ix_list (pv 0) pe_int (fun _ _=>rfl)) (pe_op op_add (pv 3) pe_int)) (pa_cons (pv 7) (pa_cons (pe_callTy call_tuple_of rfl B.tuple_ PyProof.Rows.boot_tuple (pa_cons (pv 5) pa_nil)) pa_nil))))))))))))),?_⟩
  have at_map:∀ {i:Nat} {n:Int},ns[i]?=some n→atI (ns.map V.int) (i:Int)=some (.int n):=fun {i n} e=>atI_nat (by rw [List.getElem?_map,e]; rfl)
  refine ⟨_,rfl,r,_,_,_,rfl,rfl,SqL.of hr0,at_map hn2,?_⟩
  refine ⟨(by show 0≤sizeLine; decide),fun l hl0=>?_⟩
  have nrl:r≠l:=ne_of_none hr0 hl0
  obtain ⟨c,rfl⟩:∃ c:Nat,n2=(c:Int):=⟨n2.toNat,by have:=pos n2 (List.mem_of_getElem? hn2); omega⟩
  refine ⟨_,rfl,_,_,rfl,rfl,(c:Int)+1,rfl,by omega,by omega,?_⟩
  refine for_range (lo:=0) (n:=((c:Int)+1).toNat) (fun j σ H3=>∃ (vs:List V) (ls:List Lis) (o6 o8 o9 o10:Option V),σ=[some (.ref r),some (.str z),some (.int m),some (.int sc),some (.int c),some (.ref l),o6,none,o8,o9,o10]∧
      ls.length=j∧H3 l=some (.lst vs)∧Paired (LisAt H3) vs ls∧(∀ x∈ls,GoodL m 0 true x)∧Same H H3)
    ⟨[],[],none,none,none,none,rfl,rfl,upd_same,.nil,fun _ h=>(nomatch h),same_new hl0 _⟩ ?_ ?_
  · rintro j σ H3 hj ⟨vs,ls,o6,o8,o9,o10,rfl,hls,hl3,pr,gl,s3⟩
    have hj6:j<6:=by omega
    obtain ⟨a,ha⟩:∃ a,ns[3+3 * j]?=some a:=⟨_,List.getElem?_eq_getElem (by omega)⟩
    obtain ⟨b,hb⟩:∃ b,ns[3+3 * j+1]?=some b:=⟨_,List.getElem?_eq_getElem (by omega)⟩
    obtain ⟨d,hd⟩:∃ d,ns[3+3 * j+1+1]?=some d:=⟨_,List.getElem?_eq_getElem (by omega)⟩
    refine ⟨_,rfl,_,rfl,_,_,rfl,rfl,.inl ⟨by decide,by decide⟩,_,_,rfl,rfl,_,rfl,_,rfl,_,_,rfl,rfl,.inl ⟨by decide,by decide⟩,_,_,rfl,rfl,_,rfl,r,_,rfl,SqL.of (s3 _ _ hr0),fun lc hlc=>?_⟩
    have ec:cutV (ns.map V.int) (some (3+3 * (0+(j:Int)))) (some (6+3 * (0+(j:Int))))=[.int a,.int b,.int d]:=by
      rw [Int.zero_add]
      exact cut_three (by rw [List.getElem?_map,ha]; rfl) (by rw [List.getElem?_map,hb]; rfl) (by rw [List.getElem?_map,hd]; rfl)
    rw [ec]
    have v1:=same_new hlc (.lst [.int a,.int b,.int d])
    refine ⟨lc,_,rfl,SqL.of upd_same,rfl,_,_,rfl,_,_,rfl,_,_,rfl,rfl,?_⟩
    refine ⟨_,rfl,.inl ⟨rfl,_,SqL.of (v1 _ _ hl3)⟩,_,rfl,_,rfl,_,_,rfl,rfl,(show (0:Int)<m by omega),_,rfl,_,rfl,_,_,rfl,rfl,(show (0:Int)<sc by omega),_,_,rfl,rfl,_,rfl,_,_,rfl,rfl,.inr ⟨_,rfl,?_⟩⟩
    refine ⟨(by show 3≤sizeLine; decide),fun lt hlt=>?_⟩
    have em:a % (m:Int)=(((a % (m:Int)).toNat:Nat):Int):=by
      have:=Int.emod_nonneg a (show (m:Int)≠0 by omega)
      omega
    have et:(HO.tup [.int (a % (m:Int)),.int (1+b % (sc:Int)),.int (if decide (0<d)=true then 1 else 0)])=.tup (lisV ⟨(a % (m:Int)).toNat,1+b % (sc:Int),decide (0<d)⟩):=by
      show _=HO.tup [.int (((a % (m:Int)).toNat:Nat):Int),_,_]
      rw [← em]
    have v2:=v1.trans (same_new hlt (.tup [.int (a % (m:Int)),.int (1+b % (sc:Int)),.int (if decide (0<d)=true then 1 else 0)]))
    have elt:(upd (upd H3 lc (.lst [.int a,.int b,.int d])) lt (.tup [.int (a % (m:Int)),.int (1+b % (sc:Int)),.int (if decide (0<d)=true then 1 else 0)])) lt=some (.tup (lisV ⟨(a % (m:Int)).toNat,1+b % (sc:Int),decide (0<d)⟩)):=upd_same.trans (congrArg some et)
    have nlt:lt≠l:=fun e=>by rw [e,v1 _ _ hl3] at hlt; cases hlt
    have vl:vs.length=j:=(paired_len pr).trans hls
    refine ⟨l,_,_,rfl,rfl,v2 _ _ hl3,small1000 (by omega),?_⟩
    have tS:TupS H3 (upd (upd (upd H3 lc (.lst [.int a,.int b,.int d])) lt (.tup [.int (a % (m:Int)),.int (1+b % (sc:Int)),.int (if decide (0<d)=true then 1 else 0)])) l (.lst (vs++[.ref lt]))) :=
      (Same.tup v2).trans (tup_upd fun xs e=>by rw [v2 _ _ hl3] at e; cases e)
    refine ⟨vs++[.ref lt],ls++[⟨(a % (m:Int)).toNat,1+b % (sc:Int),decide (0<d)⟩],_,_,_,_,rfl,by rw [List.length_append,hls]; rfl,upd_same,paired_snoc ⟨lt,rfl,by rw [upd_ne nlt]; exact elt⟩ (paired_imp (fun _ _ x=>x.mono tS) pr),fun x hx=>?_,(s3.trans v2).upd hl0 _⟩
    rcases List.mem_append.mp hx with hx | hx
    · exact gl x hx
    · rw [List.mem_singleton] at hx
      subst hx
      have g1:=Int.emod_nonneg a (show (m:Int)≠0 by omega)
      have g2:=Int.emod_lt_of_pos a (show (0:Int)<m by omega)
      have g3:=Int.emod_nonneg b (show (sc:Int)≠0 by omega)
      have g4:=Int.emod_lt_of_pos b (show (0:Int)<sc by omega)
      exact ⟨by show (a % (m:Int)).toNat<m; omega,by show 1≤1+b % (sc:Int); omega,by show 1+b % (sc:Int)≤1000; omega,fun h=>(nomatch h)⟩
  rintro σ H3 ⟨vs,ls,o6,o8,o9,o10,rfl,hls,hl3,pr,gl,s3⟩
  have hls':ls.length=c+1:=by omega
  obtain ⟨n0,hn0⟩:∃ n,ns[0]?=some n:=⟨_,List.getElem?_eq_getElem (by omega)⟩
  obtain ⟨n1,hn1⟩:∃ n,ns[1]?=some n:=⟨_,List.getElem?_eq_getElem (by omega)⟩
  have hr3:=s3 _ _ hr0
  have vl:vs.length=c+1:=by
    have:=paired_len pr
    omega
  refine ⟨fun σ H4=>∃ w:RW,σ=[some (.ref r),some (.str z),some (.int m),some (.int sc),some (.int c),some (.ref l),o6,some (rwV w),o8,o9,o10]∧GoodR ls.length w∧H4=H3,?_,?_⟩
  · exact ⟨_,rfl,r,_,_,_,rfl,rfl,SqL.of hr3,at_map hn1,_,_,rfl,rfl,_,rfl,ite2 (fun _=>⟨.any,rfl,trivial,rfl⟩) (fun _=>⟨.all,rfl,trivial,rfl⟩)⟩
  rintro σ H4 ⟨w0,rfl,gw0,rfl⟩
  refine ⟨fun σ H5=>∃ w:RW,σ=[some (.ref r),some (.str z),some (.int m),some (.int sc),some (.int c),some (.ref l),o6,some (rwV w),o8,o9,o10]∧GoodR ls.length w∧H5=H4,?_,?_⟩
  · refine ⟨_,rfl,r,_,_,_,rfl,rfl,SqL.of hr3,at_map hn1,_,_,rfl,rfl,_,rfl,ite2 (fun _=>?_) (fun _=>⟨w0,rfl,gw0,rfl⟩)⟩
    exact ⟨_,rfl,r,_,_,_,rfl,rfl,SqL.of hr3,at_map hn1,_,_,rfl,rfl,_,rfl,l,_,rfl,.inl (SqL.of hl3),_,_,rfl,rfl,(show (0:Int)<((vs.length:Nat):Int) by omega),_,_,rfl,rfl,.num (1+(n1 - 6) % ((vs.length:Nat):Int)),rfl,⟨by have:=Int.emod_nonneg (n1 - 6) (show ((vs.length:Nat):Int)≠0 by omega); omega,by have:=Int.emod_lt_of_pos (n1 - 6) (show (0:Int)<((vs.length:Nat):Int) by omega); omega⟩,rfl⟩
  rintro σ H5 ⟨w1,rfl,gw1,rfl⟩
  refine ⟨_,rfl,_,rfl,r,_,_,_,rfl,rfl,SqL.of hr3,at_map hn0,_,rfl,_,_,rfl,rfl,_,_,rfl,rfl,(show (0:Int)<(sc:Int)+1 by omega),_,rfl,_,rfl,l,_,rfl,.inl ⟨SqL.of hl3,fun t ht=>?_⟩⟩
  refine ⟨(by show 4≤sizeLine; decide),fun x hx=>?_⟩
  have s4:=same_new ht (.tup vs)
  have s5:=same_new hx (.tup [.str z,.int (n0 % ((sc:Int)+1)),rwV w1,.ref t])
  have s45:=s4.trans s5
  exact q _ _ ⟨z,n0 % ((sc:Int)+1),w1,ls⟩ (s3.trans s45) ⟨x,t,vs,rfl,upd_same,s5 _ _ upd_same,paired_imp (fun _ _ y=>y.mono (Same.tup s45)) pr⟩ rfl ⟨by show 1≤ls.length; omega,by show ls.length≤6; omega,Int.emod_nonneg _ (by omega),by have:=Int.emod_lt_of_pos n0 (show (0:Int)<(sc:Int)+1 by omega); show n0 % ((sc:Int)+1)≤1000; omega,gw1,gl⟩
end
end K62
namespace K62
open PySem L2
def rngB:List Int:=[1001,12,6]++(List.replicate (Int.toNat 6) [6,1000,4]).flatten
theorem rngB_ok:∀ m∈rngB,1≤m∧Big m:=by
  unfold Big
  decide +kernel
theorem rngB_len:rngB.length=21:=by decide
theorem rngH_ok:∀ m∈[(6:Int),4],1≤m∧Big m:=by
  unfold Big
  decide +kernel
theorem inR_pos {ns ms:List Int} (h:InR ns ms):∀ n∈ns,0≤n:=by
  induction h with
  | nil=>intro n hn; cases hn
  | cons a b t ih =>
    intro n hn
    rcases List.mem_cons.mp hn with rfl | hn
    · exact a
    · exact ih n hn
section
variable {P:Program} {w:World} {K:PySem.W.Frag} {mg:Str→Option Value} {base:Heap} {f:Addr} {fd:FuncData}
def sp_choir (K:PySem.W.Frag):Sp:=fun vs H Q _=>∃ (a:Addr) (ns:List Int) (k:Nat) (nl:Addr) (names:List Str),vs=[.ref a,.int k,.ref nl]∧SqL K H a (ns.map V.int)∧k≤900∧H nl=some (.lst (names.map V.str))∧names.length=6∧
  ∀ (H':Hp) (v:V) (c:List Bell),Same H H'→ChoirAt H' v c→1≤c.length→c.length≤6→c.map (·.name)=names.take c.length→(∀ b∈c,GoodB c.length 0 true b)→Q v H'
theorem sc_choir:FnScope ["_law_script","_law_at","_law_names_here","_law_head","_law_many","_law_scale","_law_bells","_law_k","_law_numbers"] ["_law_script","_law_at","_law_names_here"] (defScope s_choir):=⟨rfl,rfl,rfl,by decide +kernel,rfl,by decide +kernel,by decide +kernel⟩
theorem ok_choir (F:Fun K "_law_choir" "_law_choir" s_choir f fd) (B:Blt mg) (C_cell:Cal P w K mg base 1 "_law_cell" ["_law_script","_law_k"] (sp_cell K)) (C_part:Cal P w K mg base 2 "_law_part" ["_law_script","_law_k","_law_ranges"] (sp_part K))
    (C_bell:Cal P w K mg base 1 "_law_bell" ["_law_numbers","_law_name","_law_many","_law_scale"] sp_bell):FnOk P w K mg base CX0 3 f fd ["_law_script","_law_at","_law_names_here"] (sp_choir K):=by
  refine F.ok sc_choir (fun vs H Q E h=>?_) (fun cdv A outer s H vs Q E hr h=>?_)
  · obtain ⟨a,ns,k,nl,names,rfl,_⟩:=h
    rfl
  obtain ⟨a,ns,k,nl,names,rfl,hS,hk,hnl,hn6,q⟩:=h
  refine ⟨_,(pss_cons (ps_set (i:=3) sc_choir.nd rfl (Or.inl rfl) (pe_fn C_part hr (by decide) rfl (pa_cons (pv 0) (pa_cons (pv 1) (pa_cons (pe_lst (pa_cons pe_int (pa_cons pe_int pa_nil))) pa_nil)))))
    (pss_cons (ps_set (i:=4) sc_choir.nd rfl (Or.inl rfl) (pe_op op_add pe_int (pe_ix ix_list (pv 3) pe_int (fun _ _=>rfl))))
    (pss_cons (ps_set (i:=5) sc_choir.nd rfl (Or.inl rfl) pe_int)
    (pss_join (ps_if (pt_cmpR op_eq (pe_op op_mod (pe_fn C_cell hr (by decide) rfl (pa_cons (pv 0) (pa_cons pe_int pa_nil))) pe_int) pe_int (nomark _))
    (pss_one (ps_set (i:=5) sc_choir.nd rfl (Or.inl rfl) (pe_ix ix_list (pe_lst (pa_cons pe_int (pa_cons pe_int (pa_cons pe_int (pa_cons pe_int pa_nil))))) (pe_ix ix_list (pv 3) pe_int (fun _ _=>rfl)) (fun _ _=>rfl))))
    pss_nil)
    (pss_cons (ps_set (i:=6) sc_choir.nd rfl (Or.inl rfl) (pe_lst pa_nil))
    (pss_cons (ps_for PassesOwn.never rfl (pi_range1 rfl B.range_ (pa_cons (pv 4) pa_nil)) (pg_name (i:=7) sc_choir.nd rfl (Or.inl rfl))
    (pss_cons (ps_set (i:=8) sc_choir.nd rfl (Or.inl rfl) (pe_fn C_part hr (by decide) rfl (pa_cons (pv 0) (pa_cons (pe_op op_add (pe_op op_add (pv 1) pe_int) (pv 7)) (pa_cons (pe_op op_cat (pe_lst (pa_cons pe_int (pa_cons pe_int (pa_cons pe_int pa_nil)))) (pe_op op_rep (pe_lst (pa_cons pe_int (pa_cons pe_int (pa_cons pe_int pa_nil)))) pe_int)) pa_nil)))))
    (pss_one (ps_expr (pe_bm PySem.F.plainAttrs_list PySem.F.slot_list_append PySem.F.type_list_append mt_append (pv 6) (pa_cons (pe_fn C_bell hr (by decide) rfl (pa_cons (pv 8) (pa_cons (pe_ix ix_list (pv 2) (pv 7) (fun _ _=>rfl)) (pa_cons (pv 4) (pa_cons (pv 5) pa_nil))))) pa_nil))))))
    (pss_one (ps_ret (pe_callTy call_tuple_of rfl B.tuple_ PyProof.Rows.boot_tuple (pa_cons (pv 6) pa_nil)))))))))),?_⟩
  refine ⟨_,rfl,_,rfl,(by show 2≤sizeLine; decide),fun b hb=>?_⟩
  refine ⟨a,ns,k,b,[6,4],rfl,(same_new hb _).seq hS,by omega,SqL.of upd_same,by decide,rngH_ok,fun r H1 hd _ s1 hr1 hin=>?_⟩
  have s01:=(same_new hb _).trans s1
  obtain ⟨n0,hn0,a0,b0⟩:=hin.at (i:=0) (m:=6) (by decide)
  obtain ⟨n1,hn1,a1,b1⟩:=hin.at (i:=1) (m:=4) (by decide)
  refine ⟨_,rfl,r,_,_,_,rfl,rfl,SqL.of hr1,at_map hn0,_,_,rfl,rfl,?_⟩
  obtain ⟨m,hm⟩:∃ m:Nat,1+n0=(m:Int):=⟨(1+n0).toNat,by omega⟩
  dsimp only
  rw [hm]
  have m1:1≤m:=by omega
  have m6:m≤6:=by omega
  refine ⟨fun σ H4=>∃ sc:Nat,σ=[some (.ref a),some (.int k),some (.ref nl),some (.ref r),some (.int m),some (.int sc),none,none,none]∧1≤sc∧sc≤1000∧Same H1 H4,?_,?_⟩
  · refine ⟨_,rfl,a,ns,0,rfl,s01.seq hS,fun zc=>?_⟩
    refine ⟨_,_,rfl,rfl,(show (0:Int)<2 by decide),rfl,_,rfl,ite2 (fun _=>?_) (fun _=>⟨1000,rfl,by decide,by decide,.refl H1⟩)⟩
    refine ⟨(by show 4≤sizeLine; decide),fun l4 hl4=>?_⟩
    obtain ⟨sc,hsc,sc1,scM⟩:∃ sc:Nat,atI [V.int 3,V.int 12,V.int 1000,V.int 5] n1=some (.int sc)∧1≤sc∧sc≤1000:=by
      have hc:n1=0∨n1=1∨n1=2∨n1=3:=by omega
      rcases hc with rfl | rfl | rfl | rfl
      · exact ⟨3,rfl,by decide,by decide⟩
      · exact ⟨12,rfl,by decide,by decide⟩
      · exact ⟨1000,rfl,by decide,by decide⟩
      · exact ⟨5,rfl,by decide,by decide⟩
    have s4:=same_new hl4 (.lst [.int 3,.int 12,.int 1000,.int 5])
    exact ⟨_,rfl,r,_,_,_,rfl,rfl,SqL.of (s4 _ _ hr1),at_map hn1,l4,_,_,_,rfl,rfl,SqL.of upd_same,hsc,sc,rfl,sc1,scM,s4⟩
  rintro σ H4 ⟨sc,rfl,sc1,scM,s14⟩
  have s04:=s01.trans s14
  refine ⟨(by show 0≤sizeLine; decide),fun l hl=>?_⟩
  have l0:H l=none:=s04.free hl
  refine ⟨_,rfl,(m:Int),rfl,by omega,by omega,?_⟩
  refine for_range (lo:=0) (n:=((m:Nat):Int).toNat) (fun j σ H5=>∃ (vs:List V) (c:List Bell) (o7 o8:Option V),σ=[some (.ref a),some (.int k),some (.ref nl),some (.ref r),some (.int m),some (.int sc),some (.ref l),o7,o8]∧
      c.length=j∧c.map (·.name)=names.take j∧(∀ b∈c,GoodB m 0 true b)∧H5 l=some (.lst vs)∧Paired (BellAt H5) vs c∧Same H H5)
    ⟨[],[],none,none,rfl,rfl,rfl,fun _ h=>(nomatch h),upd_same,.nil,s04.trans (same_new hl _)⟩ ?_ ?_
  · rintro j σ H5 hj ⟨vs,c,o7,o8,rfl,hc,hcn,gc,hl5,pr,s5⟩
    have hjm:j<m:=by omega
    rw [Int.zero_add]
    refine ⟨_,rfl,_,rfl,_,_,rfl,rfl,_,rfl,_,_,rfl,rfl,(by show 3≤sizeLine; decide),fun l1 hl1=>?_⟩
    refine ⟨(by show 3≤sizeLine; decide),fun l2 hl2=>?_⟩
    refine ⟨l2,6,_,rfl,rfl,upd_same,by decide,by decide,(by show 3 * 6≤sizeLine; decide),fun l3 hl3=>?_⟩
    refine ⟨l1,l3,_,_,rfl,rfl,(same_new hl3 _) _ _ ((same_new hl2 _) _ _ upd_same),upd_same,(by show 3+18≤sizeLine; decide),fun lr hlr=>?_⟩
    have v1:=(same_new hl1 (.lst [.int 1001,.int 12,.int 6])).trans ((same_new hl2 _).trans ((same_new hl3 _).trans (same_new hlr (.lst (rngB.map V.int)))))
    refine ⟨a,ns,k+1+j,lr,rngB,congrArg (fun z=>[V.ref a,V.int z,V.ref lr]) (show (k:Int)+1+(j:Int)=((k+1+j:Nat):Int) by omega),(s5.trans v1).seq hS,by omega,SqL.of upd_same,by rw [rngB_len]; decide,rngB_ok,fun rb H6 nums hrb s6 hrb6 hinb=>?_⟩
    have s56:=v1.trans s6
    obtain ⟨n2,hn2,_,c2⟩:=hinb.at (i:=2) (m:=6) (by decide)
    have ez:=List.getElem?_eq_getElem (show j<names.length by omega)
    refine ⟨_,rfl,.inl ⟨rfl,_,SqL.of (s56 _ _ hl5)⟩,_,rfl,_,rfl,_,rfl,nl,_,_,_,rfl,rfl,SqL.of ((s5.trans s56) _ _ hnl),atI_nat (v:=V.str names[j]) (by rw [List.getElem?_map,ez]; rfl),_,rfl,_,rfl,rb,nums,names[j],m,sc,rfl,hrb6,by rw [hinb.length,rngB_len],inR_pos hinb,⟨n2,hn2,c2⟩,m1,sc1,scM,fun H7 v b s7 hv hbn gb=>?_⟩
    have s57:=s56.trans s7
    have vl:vs.length=j:=(paired_len pr).trans hc
    refine ⟨l,_,_,rfl,rfl,s57 _ _ hl5,small1000 (by omega),?_⟩
    have tU:TupS H7 (upd H7 l (.lst (vs++[v]))):=tup_upd fun xs e=>by rw [s57 _ _ hl5] at e; cases e
    have tS:TupS H5 (upd H7 l (.lst (vs++[v]))):=(Same.tup s57).trans tU
    refine ⟨vs++[v],c++[b],_,_,rfl,by rw [List.length_append,hc]; rfl,?_,?_,upd_same,paired_snoc (hv.mono tU) (paired_imp (fun _ _ x=>x.mono tS) pr),(s5.trans s57).upd l0 _⟩
    · rw [List.map_append,hcn,ntake_snoc ez]
      show _++[b.name]=_
      rw [hbn]
    · intro x hx
      rcases List.mem_append.mp hx with hx | hx
      · exact gc x hx
      · rw [List.mem_singleton] at hx
        subst hx
        exact gb
  rintro σ H5 ⟨vs,c,o7,o8,rfl,hc,hcn,gc,hl5,pr,s5⟩
  refine ⟨_,rfl,l,_,rfl,.inl ⟨SqL.of hl5,fun t ht=>?_⟩⟩
  have s6:=same_new ht (.tup vs)
  have hcm:c.length=m:=by omega
  refine q _ _ c (s5.trans s6) ⟨t,vs,rfl,upd_same,paired_imp (fun _ _ x=>x.mono (Same.tup s6)) pr⟩ (by omega) (by omega) ?_ (by rw [hcm]; exact gc)
  rw [hcn,hc]
end
end K62
namespace K62
open PySem L2
def letters:Str:="abcdefghijklmnopqrstuvwxyz"
theorem letters_len:letters.cps.toList.length=26:=by decide +kernel
theorem letters_size:letters.length=26:=by decide +kernel
theorem letters_nodup:letters.cps.toList.Nodup:=by decide +kernel
def four:List Str:=["all","any","bell","none"]
def candP (pre:Str) (c:Nat):Str:=pre++(⟨#[c]⟩:Str)
theorem candP_len (pre:Str) (c:Nat):(candP pre c).length=pre.length+1:=by
  unfold candP
  rw [str_app_len]
  rfl
theorem str_app_cps (a b:Str):(a++b).cps.toList=a.cps.toList++b.cps.toList:=by
  show (a.cps++b.cps).toList=_
  rw [Array.toList_append]
theorem candP_inj {pre:Str} {c d:Nat} (h:candP pre c=candP pre d):c=d:=by
  have e:=congrArg (fun x:Str=>x.cps.toList) h
  dsimp only [candP] at e
  rw [str_app_cps,str_app_cps] at e
  exact List.head_eq_of_cons_eq (List.append_cancel_left e)
theorem candP_nodup (pre:Str):∀ {l:List Nat},l.Nodup→(l.map (candP pre)).Nodup
  | [],_=>.nil
  | c::l,h=>by
    rw [List.map_cons,List.nodup_cons]
    rw [List.nodup_cons] at h
    refine ⟨fun hm=>?_,candP_nodup pre h.2⟩
    obtain ⟨d,hd,e⟩:=List.mem_map.mp hm
    exact h.1 (candP_inj e▸hd)
def lowS (z:Str):Prop:=∀ c∈z.cps.toList,c∈letters.cps.toList
theorem lowS_app {a b:Str} (ha:lowS a) (hb:lowS b):lowS (a++b):=fun c hc=>by
  rw [str_app_cps] at hc
  rcases List.mem_append.mp hc with h | h
  · exact ha c h
  · exact hb c h
theorem lowS_one {c:Nat} (h:c∈letters.cps.toList):lowS ⟨#[c]⟩:=fun d hd=>by
  have e:d=c:=List.mem_singleton.mp hd
  rw [e]
  exact h
theorem lowS_slice {x:Str} (h:lowS x) (lo hi:Option Int):lowS (Txt.slice x lo hi):=fun c hc=>by
  rw [slice_txt] at hc
  unfold cutN at hc
  exact h c (List.mem_of_mem_drop (List.mem_of_mem_take hc))
theorem candP_first (pre:Str) (known:List Str) (h:known.length≤25):∃ z rest,((letters.cps.toList.map (candP pre)).filter (fun x=>decide (x∉known))).map V.str=V.str z::rest∧z∉known∧z.length=pre.length+1∧(lowS pre→lowS z):=by
  have hex:∃ x∈letters.cps.toList.map (candP pre),x∉known:=by
    refine Classical.byContradiction fun no=>?_
    have all:∀ x∈letters.cps.toList.map (candP pre),x∈known:=fun x hx=>Classical.byContradiction fun hm=>no ⟨x,hx,hm⟩
    have:=nodup_sub (candP_nodup pre letters_nodup) all
    rw [List.length_map,letters_len] at this
    omega
  obtain ⟨x,hx,hm⟩:=hex
  have hin:x∈(letters.cps.toList.map (candP pre)).filter (fun x=>decide (x∉known)):=List.mem_filter.mpr ⟨hx,decide_eq_true hm⟩
  cases e:(letters.cps.toList.map (candP pre)).filter (fun x=>decide (x∉known)) with
  | nil=>rw [e] at hin; cases hin
  | cons z r =>
    have h0:z∈(letters.cps.toList.map (candP pre)).filter (fun x=>decide (x∉known)):=by rw [e]; exact List.mem_cons_self
    obtain ⟨c,hc,rfl⟩:=List.mem_map.mp (List.mem_filter.mp h0).1
    exact ⟨candP pre c,_,rfl,of_decide_eq_true (List.mem_filter.mp h0).2,candP_len pre c,fun hp=>lowS_app hp (lowS_one hc)⟩
theorem join_ones (l:List Nat):(Txt.join Str.empty (l.map fun c=>(⟨#[c]⟩:Str))).length=l.length:=by
  have e:=size_glued Str.empty (l.map fun c=>(⟨#[c]⟩:Str))
  have e0:Str.empty.length=0:=rfl
  rw [e0,Nat.mul_zero,Nat.add_zero,List.map_map] at e
  refine (show _=_ from e).trans ?_
  induction l with
  | nil=>rfl
  | cons c l ih=>rw [List.map_cons,List.sum_cons,List.length_cons,ih (size_glued Str.empty _ |>.trans (by rw [e0,Nat.mul_zero,Nat.add_zero,List.map_map]))]; show 1+l.length=l.length+1; omega
def rngN:List Int:=(List.replicate (Int.toNat 6) ([8]++(List.replicate (Int.toNat 8) [26]).flatten)).flatten
theorem rngN_ok:∀ m∈rngN,1≤m∧Big m:=by
  unfold Big
  decide +kernel
theorem rngN_len:rngN.length=54:=by decide
theorem rngN_at:∀ j,j<54→rngN[j]?=some (if j % 9=0 then 8 else 26):=by decide +kernel
theorem at_zero {α:Type} (x:α) (r:List α):atI (x::r) 0=some x:=atI_nat (j:=0) rfl
def Low (cs:List Int):Prop:=∀ n∈cs,0≤n∧n<26
def sg (n:Int):Nat:=letters.cps.toList.getD n.toNat 0
theorem sg_at {n:Int} (h0:0≤n) (h1:n<26):atI letters.cps.toList n=some (sg n):=by
  have hd:n.toNat<letters.cps.toList.length:=by rw [letters_len]; omega
  have e:n=((n.toNat:Nat):Int):=by omega
  have:=atI_nat (List.getElem?_eq_getElem hd)
  rw [← e] at this
  rw [this]
  unfold sg
  rw [List.getD_eq_getElem?_getD,List.getElem?_eq_getElem hd]
  rfl
def ones (cs:List Int):List Str:=cs.map fun n=>(⟨#[sg n]⟩:Str)
theorem ones_len (cs:List Int):(Txt.join Str.empty (ones cs)).length=cs.length:=by
  have e:=join_ones (cs.map sg)
  rw [List.map_map,List.length_map] at e
  exact e
theorem ones_ok {cs:List Int} (h:cs.length≤9):JoinOk Str.empty (ones cs)=true:=by
  have e0:Str.empty.length=0:=rfl
  have e:(Txt.join Str.empty (ones cs)).length=((ones cs).map (·.length)).sum+((ones cs).length - 1) * Str.empty.length:=size_glued Str.empty (ones cs)
  rw [ones_len,e0,Nat.mul_zero,Nat.add_zero] at e
  refine PyProof.Rows.joinOk_of ?_
  rw [e0,Nat.mul_zero,Nat.add_zero,← e]
  omega
theorem ones_at {cs:List Int} {i:Nat} {n:Int} (h:cs[i]?=some n):(ones cs)[i]?=some ⟨#[sg n]⟩:=by
  unfold ones
  rw [List.getElem?_map,h]
  rfl
theorem foldl_ones:∀ (l:List Nat) (a:Array Nat),((l.map fun c=>(⟨#[c]⟩:Str)).foldl (fun acc q=>acc++Str.empty.cps++q.cps) a).toList=a.toList++l
  | [],a=>(List.append_nil _).symm
  | c::l,a=>by
    rw [List.map_cons,List.foldl_cons,foldl_ones l,Array.toList_append,Array.toList_append]
    show (a.toList++[])++[c]++l=a.toList++(c::l)
    rw [List.append_nil,List.append_assoc]
    rfl
theorem join_cps:∀ l:List Nat,(Txt.join Str.empty (l.map fun c=>(⟨#[c]⟩:Str))).cps.toList=l
  | []=>rfl
  | c::l=>by
    show ((l.map fun c=>(⟨#[c]⟩:Str)).foldl (fun acc q=>acc++Str.empty.cps++q.cps) #[c]).toList=_
    rw [foldl_ones]
    rfl
theorem sg_mem {n:Int} (h0:0≤n) (h1:n<26):sg n∈letters.cps.toList:=by
  have hd:n.toNat<letters.cps.toList.length:=by rw [letters_len]; omega
  unfold sg
  rw [List.getD_eq_getElem?_getD,List.getElem?_eq_getElem hd]
  exact List.getElem_mem hd
theorem lowS_ones {cs:List Int} (h:Low cs):lowS (Txt.join Str.empty (ones cs)):=fun c hc=>by
  have e:=join_cps (cs.map sg)
  rw [List.map_map] at e
  have e':(Txt.join Str.empty (ones cs)).cps.toList=cs.map sg:=e
  rw [e'] at hc
  obtain ⟨n,hn,rfl⟩:=List.mem_map.mp hc
  exact sg_mem (h n hn).1 (h n hn).2
theorem cutV_ints (cs:List Int) (lo hi:Nat) (h:lo≤hi) (h2:hi≤cs.length):cutV (cs.map V.int) (some (lo:Int)) (some (hi:Int))=((cs.drop lo).take (hi - lo)).map V.int:=by
  unfold cutV
  rw [HT.sIx_nat,HT.sIx_nat,List.length_map,Nat.min_eq_left h2,Nat.min_eq_left (Nat.le_trans h h2),List.map_take,List.map_drop]
theorem row_of {nums:List Int} (hin:InR nums rngN) {k:Nat} (hk:k<6):∃ z rest,(nums.drop (9 * k)).take 9=z::rest∧rest.length=8∧0≤z∧z<8∧Low rest:=by
  have hl:nums.length=54:=by rw [hin.length,rngN_len]
  have hat:∀ i,i<9→((nums.drop (9 * k)).take 9)[i]?=nums[9 * k+i]?:=fun i hi=>by
    rw [List.getElem?_take_of_lt hi,List.getElem?_drop]
  have hlen:((nums.drop (9 * k)).take 9).length=9:=by
    rw [List.length_take,List.length_drop]
    omega
  cases e:(nums.drop (9 * k)).take 9 with
  | nil=>rw [e] at hlen; cases hlen
  | cons z rest =>
    rw [e] at hat hlen
    have hrl:rest.length=8:=Nat.succ.inj hlen
    refine ⟨z,rest,rfl,hrl,?_⟩
    obtain ⟨z',h1,h2,h3⟩:=hin.at (rngN_at (9 * k+0) (by omega))
    rw [if_pos (show (9 * k+0) % 9=0 by omega)] at h3
    have e1:=(hat 0 (by decide)).trans h1
    cases e1
    refine ⟨h2,h3,fun n hn=>?_⟩
    obtain ⟨i,hi⟩:=List.getElem?_of_mem hn
    have i8:i<8:=by
      have:=(List.getElem?_eq_some_iff.mp hi).1
      omega
    obtain ⟨n',g1,g2,g3⟩:=hin.at (rngN_at (9 * k+(i+1)) (by omega))
    rw [if_neg (show ¬ (9 * k+(i+1)) % 9=0 by omega)] at g3
    have e2:=(hat (i+1) (by omega)).trans g1
    rw [List.getElem?_cons_succ,hi] at e2
    cases e2
    exact ⟨g2,g3⟩
theorem cut_stem {nums:List Int} {z:Int} {rest:List Int} (h:(nums.drop (9 * 0)).take 9=z::rest) (hl:nums.length=54):cutV (nums.map V.int) (some 1) (some 9)=rest.map V.int:=by
  have e:=cutV_ints nums 1 9 (by decide) (by omega)
  refine e.trans (congrArg (List.map V.int) ?_)
  cases nums with
  | nil=>cases hl
  | cons a l =>
    have h':a::l.take 8=z::rest:=h
    exact (List.cons.inj h').2
theorem cut_row {nums:List Int} {j:Nat} {z:Int} {rest:List Int} (h:(nums.drop (9 * j)).take 9=z::rest) (hj:j<6) (hl:nums.length=54):cutV (nums.map V.int) (some (9 * (j:Int))) (some (9 * (j:Int)+9))=(z::rest).map V.int:=by
  have e:=cutV_ints nums (9 * j) (9 * j+9) (by omega) (by omega)
  rw [show 9 * j+9 - 9 * j=9 by omega,h] at e
  rw [show ((9 * j+9:Nat):Int)=9 * (j:Int)+9 by omega,show ((9 * j:Nat):Int)=9 * (j:Int) by omega] at e
  exact e
theorem cut_name {z:Int} {rest:List Int} (h0:0≤z) (h8:z<8) (hl:rest.length=8):∃ cs:List Int,cutV ((z::rest).map V.int) (some 1) (some (2+z))=cs.map V.int∧1≤cs.length∧cs.length≤8∧∀ n∈cs,n∈rest:=by
  obtain ⟨y,rfl⟩:∃ y:Nat,z=(y:Int):=⟨z.toNat,by omega⟩
  have e:=cutV_ints ((y:Int)::rest) 1 (y+2) (by omega) (by rw [List.length_cons]; omega)
  rw [show ((y+2:Nat):Int)=2+(y:Int) by omega] at e
  refine ⟨rest.take (y+1),e,?_,?_,fun n hn=>List.mem_of_mem_take hn⟩
  · rw [List.length_take]
    omega
  · rw [List.length_take]
    omega
theorem slice_to (x:Str) (k:Nat):(Txt.slice x none (some (k:Int))).length=min k x.length:=by
  have hx:=tx_len x
  rw [← tx_len (Txt.slice x none (some (k:Int))),slice_txt]
  unfold cutN
  rw [HT.sIx_nat]
  simp only [HT.sIx_none,List.drop_zero,List.length_take]
  omega
theorem slice_from (x:Str) (k:Nat):(Txt.slice x (some (k:Int)) none).length=x.length - k:=by
  have hx:=tx_len x
  rw [← tx_len (Txt.slice x (some (k:Int)) none),slice_txt]
  unfold cutN
  rw [HT.sIx_nat]
  simp only [HT.sIx_none,List.length_take,List.length_drop]
  omega
end K62
namespace K62
open PySem L2
structure GoodNm (ahead names:List Str):Prop where
  nd:names.Nodup
  fr:∀ x∈names,x∉ahead∧x∉four
  ln:∀ x∈names,1≤x.length∧x.length≤8
  lw:∀ x∈names,lowS x
section
variable {P:Program} {w:World} {K:PySem.W.Frag} {mg:Str→Option Value} {base:Heap} {f:Addr} {fd:FuncData}
def sp_names (K:PySem.W.Frag):Sp:=fun vs H Q _=>∃ (a:Addr) (ns:List Int) (k:Nat) (al:Addr) (ahead:List Str),vs=[.ref a,.int k,.ref al]∧SqL K H a (ns.map V.int)∧k≤900∧H al=some (.lst (ahead.map V.str))∧ahead.length≤12∧
  ∀ (H':Hp) (p:Addr) (names:List Str),Same H H'→H p=none→H' p=some (.lst (names.map V.str))→names.length=6→GoodNm ahead names→Q (.ref p) H'
theorem sc_names:FnScope ["_law_script","_law_at","_law_ahead","_law_letters","_law_numbers","_law_style","_law_stem","_law_answer","_law_k","_law_row","_law_name","_law_known","_law_sign","_law_some"] ["_law_script","_law_at","_law_ahead"] (defScope s_names):=⟨rfl,rfl,rfl,by decide +kernel,rfl,by decide +kernel,by decide +kernel⟩
theorem ok_names (F:Fun K "_law_names" "_law_names" s_names f fd) (B:Blt mg) (C_cell:Cal P w K mg base 1 "_law_cell" ["_law_script","_law_k"] (sp_cell K)) (C_blended:Cal P w K mg base 1 "_law_blended" ["_law_cell_here","_law_ranges"] (sp_blended K))
    (C_part:Cal P w K mg base 2 "_law_part" ["_law_script","_law_k","_law_ranges"] (sp_part K)):FnOk P w K mg base CX0 3 f fd ["_law_script","_law_at","_law_ahead"] (sp_names K):=by
  refine F.ok sc_names (fun vs H Q E h=>?_) (fun cdv A outer s H vs Q E hr h=>?_)
  · obtain ⟨a,ns,k,al,ahead,rfl,_⟩:=h
    rfl
  obtain ⟨a,ns,k,al,ahead,rfl,hS,hk,hal,ha12,q⟩:=h
  refine ⟨_,(pss_cons (ps_set (i:=3) sc_names.nd rfl (Or.inr rfl) pe_str)
    (pss_cons (ps_set (i:=4) sc_names.nd rfl (Or.inl rfl) (pe_fn C_part hr (by decide) rfl (pa_cons (pv 0) (pa_cons (pv 1) (pa_cons (pe_op op_rep (pe_op op_cat (pe_lst (pa_cons pe_int pa_nil)) (pe_op op_rep (pe_lst (pa_cons pe_int pa_nil)) pe_int)) pe_int) pa_nil)))))
    (pss_cons (ps_set (i:=5) sc_names.nd rfl (Or.inl rfl) pe_int)
    (pss_join (ps_if (pt_cmpR op_eq (pe_op op_mod (pe_fn C_cell hr (by decide) rfl (pa_cons (pv 0) (pa_cons pe_int pa_nil))) pe_int) pe_int (nomark _))
    (pss_one (ps_set (i:=5) sc_names.nd rfl (Or.inl rfl) (pe_ix ix_list (pe_fn C_blended hr (by decide) rfl (pa_cons (pe_fn C_cell hr (by decide) rfl (pa_cons (pv 0) (pa_cons (pv 1) pa_nil))) (pa_cons (pe_lst (pa_cons pe_int (pa_cons pe_int pa_nil))) pa_nil))) pe_int (fun _ _=>rfl))))
    pss_nil)
    (pss_cons (ps_set (i:=6) sc_names.nd rfl (Or.inl rfl) (pe_bm PySem.F.plainAttrs_str PySem.F.slot_str_join PySem.F.type_str_join mt_join pe_str (pa_cons (pe_comp ["_law_number"] ["_law_letters"] [3] rfl (pi_list (pe_slice sl_list (pv 4) (po_some pe_int) (po_some pe_int))) (fun _ _ _ _ _=>(pg_name (i:=0) (show List.Nodup [("_law_number":Str),("_law_letters":Str)] by decide +kernel) rfl (Or.inl rfl))) (fun _ _ _ _ _=>pts_nil) (fun _ _ _ _ _=>(pe_ix ix_str (pv 1) (pv 0) (fun _ _=>rfl)))) pa_nil)))
    (pss_cons (ps_set (i:=7) sc_names.nd rfl (Or.inl rfl) (pe_lst pa_nil))
    (pss_cons (ps_for PassesOwn.never rfl (pi_range1 rfl B.range_ (pa_cons pe_int pa_nil)) (pg_name (i:=8) sc_names.nd rfl (Or.inl rfl))
    (pss_cons (ps_set (i:=9) sc_names.nd rfl (Or.inl rfl) (pe_slice sl_list (pv 4) (po_some (pe_op op_mul pe_int (pv 8))) (po_some (pe_op op_add (pe_op op_mul pe_int (pv 8)) pe_int))))
    (pss_cons (ps_set (i:=10) sc_names.nd rfl (Or.inr rfl) (pe_bm PySem.F.plainAttrs_str PySem.F.slot_str_join PySem.F.type_str_join mt_join pe_str (pa_cons (pe_comp ["_law_number"] ["_law_letters"] [3] rfl (pi_list (pe_slice sl_list (pv 9) (po_some pe_int) (po_some (pe_op op_add pe_int (pe_ix ix_list (pv 9) pe_int (fun _ _=>rfl)))))) (fun _ _ _ _ _=>(pg_name (i:=0) (show List.Nodup [("_law_number":Str),("_law_letters":Str)] by decide +kernel) rfl (Or.inl rfl))) (fun _ _ _ _ _=>pts_nil) (fun _ _ _ _ _=>(pe_ix ix_str (pv 1) (pv 0) (fun _ _=>rfl)))) pa_nil)))
    (pss_join (ps_if (pt_cmpR op_eq (pv 5) pe_int (nomark _))
    (pss_one (ps_set (i:=10) sc_names.nd rfl (Or.inr rfl) (pe_slice sl_str (pv 6) po_none (po_some (pe_op op_add (pe_op op_add (pv 8) pe_int) (pe_op op_mod (pe_ix ix_list (pv 4) pe_int (fun _ _=>rfl)) pe_int))))))
    pss_nil)
    (pss_join (ps_if (pt_cmpR op_eq (pv 5) pe_int (nomark _))
    (pss_cons (ps_set (i:=12) sc_names.nd rfl (Or.inl rfl) (pe_ix ix_str (pv 3) (pe_op op_mod (pe_op op_add (pe_ix ix_list (pv 4) pe_int (fun _ _=>rfl)) (pe_op op_mul pe_int (pv 8))) pe_int) (fun _ _=>rfl)))
    (pss_one (ps_set (i:=10) sc_names.nd rfl (Or.inr rfl) (pe_op op_add_str (pe_op op_add_str (pe_slice sl_str (pv 6) po_none (po_some (pe_ix ix_list (pv 4) pe_int (fun _ _=>rfl)))) (pv 12)) (pe_slice sl_str (pv 6) (po_some (pe_op op_add (pe_ix ix_list (pv 4) pe_int (fun _ _=>rfl)) pe_int)) po_none)))))
    pss_nil)
    (pss_cons (ps_set (i:=11) sc_names.nd rfl (Or.inr rfl) (pe_op op_cat (pe_op op_cat (pv 2) (pv 7)) (pe_lst (pa_cons pe_str (pa_cons pe_str (pa_cons pe_str (pa_cons pe_str pa_nil)))))))
    (pss_join (ps_if (pt_cmpR op_in_seq (pv 10) (pv 11) rfl)
    (pss_cons (ps_setComp (i:=13) ["_law_sign"] ["_law_name"] [10] rfl sc_names.nd rfl (Or.inl rfl) (pi_str (pv 3)) (fun _ _ _ _ _=>(pg_name (i:=0) (show List.Nodup [("_law_sign":Str),("_law_name":Str)] by decide +kernel) rfl (Or.inl rfl))) (fun _ _ _ _ _=>pts_nil) (fun _ _ _ _ _=>(pe_op op_add_str (pe_slice sl_str (pv 1) po_none (po_some pe_int)) (pv 0))))
    (pss_one (ps_set (i:=10) sc_names.nd rfl (Or.inr rfl) (pe_ix ix_list (pe_comp ["_law_one"] ["_law_known"] [11] rfl (pi_list (pv 13)) (fun _ _ _ _ _=>(pg_name (i:=0) (show List.Nodup [("_law_one":Str),("_law_known":Str)] by decide +kernel) rfl (Or.inl rfl))) (fun _ _ _ _ _=>(pts_one (pt_cmpR (op_notIn_seqC (K:=K) rfl) (pv 0) (pv 1) rfl))) (fun _ _ _ _ _=>(pv 0))) pe_int (fun _ _=>rfl)))))
    pss_nil)
    (pss_one (ps_expr (pe_bm PySem.F.plainAttrs_list PySem.F.slot_list_append PySem.F.type_list_append mt_append (pv 7) (pa_cons (pv 10) pa_nil)))))))))))
    (pss_one (ps_ret (pv 7)))))))))),?_⟩
  refine ⟨_,rfl,_,rfl,(by show 1≤sizeLine; decide),fun l1 hl1=>?_⟩
  refine ⟨(by show 1≤sizeLine; decide),fun l2 hl2=>?_⟩
  refine ⟨l2,8,_,rfl,rfl,upd_same,by decide,by decide,(by show 1 * 8≤sizeLine; decide),fun l3 hl3=>?_⟩
  refine ⟨l1,l3,_,_,rfl,rfl,(same_new hl3 _) _ _ ((same_new hl2 _) _ _ upd_same),upd_same,(by show 1+8≤sizeLine; decide),fun l4 hl4=>?_⟩
  refine ⟨l4,6,_,rfl,rfl,upd_same,by decide,by decide,(by show 9 * 6≤sizeLine; decide),fun lr hlr=>?_⟩
  have v1:=(same_new hl1 (.lst [.int 8])).trans ((same_new hl2 _).trans ((same_new hl3 _).trans ((same_new hl4 _).trans (same_new hlr (.lst (rngN.map V.int))))))
  refine ⟨a,ns,k,lr,rngN,rfl,v1.seq hS,by omega,SqL.of upd_same,by rw [rngN_len]; decide,rngN_ok,fun r H1 nums hr0 s1 hr1 hin=>?_⟩
  have s01:=v1.trans s1
  have hlen:nums.length=54:=by rw [hin.length,rngN_len]
  clear v1 s1 hl1 hl2 hl3 hl4 hlr hr0
  refine ⟨fun σ H4=>∃ st:Int,σ=[some (.ref a),some (.int k),some (.ref al),some (.str letters),some (.ref r),some (.int st),none,none,none,none,none,none,none,none]∧Same H1 H4,?_,?_⟩
  · refine ⟨_,rfl,a,ns,0,rfl,s01.seq hS,fun zc=>?_⟩
    refine ⟨_,_,rfl,rfl,(show (0:Int)<2 by decide),rfl,_,rfl,ite2 (fun _=>?_) (fun _=>⟨0,rfl,.refl H1⟩)⟩
    refine ⟨_,rfl,_,rfl,a,ns,k,rfl,s01.seq hS,fun z2=>?_⟩
    refine ⟨(by show 2≤sizeLine; decide),fun lb hlb=>?_⟩
    refine ⟨z2,lb,[3,3],rfl,SqL.of upd_same,by decide,by decide,fun rb H2 bs hrb s2 hrb2 hinb=>?_⟩
    obtain ⟨n1,hn1,_⟩:=hinb.at (i:=1) (m:=3) (by decide)
    exact ⟨rb,_,_,_,rfl,rfl,SqL.of hrb2,at_map hn1,n1,rfl,(same_new hlb _).trans s2⟩
  rintro σ H4 ⟨st,rfl,s14⟩
  have s04:=s01.trans s14
  have hr4:=s14 _ _ hr1
  clear s14 s01 hr1
  obtain ⟨z0,rest0,e0,len0,z00,z08,low0⟩:=row_of hin (k:=0) (by decide)
  have hz0:atI (nums.map V.int) 0=some (.int z0):=by
    cases nums with
    | nil=>cases hlen
    | cons x l =>
      have h':x::l.take 8=z0::rest0:=e0
      rw [(List.cons.inj h').1]
      exact at_zero _ _
  obtain ⟨z9,hz9,z90,_⟩:=hin.at (rngN_at 9 (by decide))
  refine ⟨rfl,_,rfl,_,rfl,_,rfl,r,_,rfl,SqL.of hr4,fun lc hlc=>?_⟩
  rw [cut_stem e0 hlen]
  refine ⟨lc,rfl,⟨_,SqL.of upd_same⟩,fun D hD=>?_⟩
  have hlc5:(upd H4 lc (.lst (rest0.map V.int))) lc=some (.lst (rest0.map V.int)):=upd_same
  have s45:=same_new hlc (.lst (rest0.map V.int))
  generalize upd H4 lc (.lst (rest0.map V.int))=H5 at hD hlc5 s45 ⊢
  have s05:=s04.trans s45
  have hr5:=s45 _ _ hr4
  clear s45 s04 hr4 hlc
  refine comp_list (K:=K) (a:=lc) (xs:=rest0.map V.int) (fun i ys H6=>Same H5 H6∧ys=((ones rest0).take i).map V.str) ⟨same_new hD _,rfl⟩ (fun i ys H6 _ ⟨z,_⟩=>SqL.of (z _ _ hlc5)) ?_ ?_
  · rintro i x ys H6 hx ⟨s6,rfl⟩ hD6
    obtain ⟨n,rfl,hn⟩:=map_at hx
    obtain ⟨n0,n26⟩:=low0 n (List.mem_of_getElem? hn)
    refine ⟨rfl,tTrue_ite ?_⟩
    refine ⟨_,rfl,_,rfl,letters,_,_,rfl,rfl,(by rw [letters_size]; decide),sg_at n0 n26,_,hD6,?_,_,⟨s6.upd hD _,rfl⟩,?_⟩
    · rw [List.length_map,List.length_take]
      have:=(List.getElem?_eq_some_iff.mp hn).1
      exact small1000 (by omega)
    · rw [take_snoc (ones_at hn),List.map_append]
      exact upd_same
  rintro ys H6 ⟨s56,rfl⟩ hD6
  rw [List.take_of_length_le (by unfold ones; rw [List.length_map,List.length_map]; omega)] at hD6
  refine ⟨_,D,ones rest0,rfl,rfl,hD6,ones_ok (by omega),?_⟩
  have hsl:(Txt.join Str.empty (ones rest0)).length=8:=(ones_len rest0).trans len0
  have hsw:lowS (Txt.join Str.empty (ones rest0)):=lowS_ones low0
  have s06:=s05.trans s56
  have hr6:=s56 _ _ hr5
  clear hD hD6 s56 s05 hr5 hlc5
  generalize hst:Txt.join Str.empty (ones rest0)=stem at hsl hsw
  refine ⟨(by show 0≤sizeLine; decide),fun l hl=>?_⟩
  have l0:H l=none:=s06.free hl
  have hal6:=s06 _ _ hal
  refine ⟨6,rfl,by decide,by decide,?_⟩
  refine for_range (lo:=0) (n:=Int.toNat 6) (fun j σ H7=>∃ (names:List Str) (o8 o9 o10 o11 o12 o13:Option V),σ=[some (.ref a),some (.int k),some (.ref al),some (.str letters),some (.ref r),some (.int st),some (.str stem),some (.ref l),o8,o9,o10,o11,o12,o13]∧
      names.length=j∧GoodNm ahead names∧H7 l=some (.lst (names.map V.str))∧Same H6 H7)
    ⟨[],none,none,none,none,none,none,(by rw [← hst]; rfl),rfl,⟨.nil,fun _ h=>(nomatch h),fun _ h=>(nomatch h),fun _ h=>(nomatch h)⟩,upd_same,same_new hl _⟩ ?_ ?_
  · rintro j σ H7 hj ⟨names,o8,o9,o10,o11,o12,o13,rfl,hn,good,hl7,s67⟩
    have hj6:j<6:=hj
    rw [Int.zero_add]
    obtain ⟨z,rest,ej,lenj,zj0,zj8,lowj⟩:=row_of hin hj6
    have hr7:=s67 _ _ hr6
    refine ⟨_,rfl,_,rfl,_,_,rfl,rfl,.inl ⟨by decide,by decide⟩,_,rfl,_,rfl,_,_,rfl,rfl,.inl ⟨by decide,by decide⟩,_,_,rfl,rfl,_,rfl,r,_,rfl,SqL.of hr7,fun lw hlw=>?_⟩
    rw [cut_row ej hj6 hlen]
    have hw8:(upd H7 lw (.lst ((z::rest).map V.int))) lw=some (.lst ((z::rest).map V.int)):=upd_same
    have s78:=same_new hlw (.lst ((z::rest).map V.int))
    generalize upd H7 lw (.lst ((z::rest).map V.int))=H8 at hw8 s78 ⊢
    refine ⟨rfl,_,rfl,_,rfl,_,rfl,lw,_,_,_,rfl,rfl,SqL.of hw8,at_zero _ _,_,_,rfl,rfl,_,rfl,lw,_,rfl,SqL.of hw8,fun lc2 hlc2=>?_⟩
    obtain ⟨cs,ecs,cs1,cs8,csr⟩:=cut_name zj0 zj8 lenj
    dsimp only
    rw [ecs]
    refine ⟨lc2,rfl,⟨_,SqL.of upd_same⟩,fun D2 hD2=>?_⟩
    have hc9:(upd H8 lc2 (.lst (cs.map V.int))) lc2=some (.lst (cs.map V.int)):=upd_same
    have s89:=same_new hlc2 (.lst (cs.map V.int))
    generalize upd H8 lc2 (.lst (cs.map V.int))=H9 at hD2 hc9 s89 ⊢
    have s79:=s78.trans s89
    clear s78 s89 hlw hlc2 hw8
    refine comp_list (K:=K) (a:=lc2) (xs:=cs.map V.int) (fun i ys HA=>Same H9 HA∧ys=((ones cs).take i).map V.str) ⟨same_new hD2 _,rfl⟩ (fun i ys HA _ ⟨z,_⟩=>SqL.of (z _ _ hc9)) ?_ ?_
    · rintro i x ys HA hx ⟨sA,rfl⟩ hDA
      obtain ⟨n,rfl,hn⟩:=map_at hx
      obtain ⟨n0,n26⟩:=lowj n (csr n (List.mem_of_getElem? hn))
      refine ⟨rfl,tTrue_ite ?_⟩
      refine ⟨_,rfl,_,rfl,letters,_,_,rfl,rfl,(by rw [letters_size]; decide),sg_at n0 n26,_,hDA,?_,_,⟨sA.upd hD2 _,rfl⟩,?_⟩
      · rw [List.length_map,List.length_take]
        have:=(List.getElem?_eq_some_iff.mp hn).1
        exact small1000 (by omega)
      · rw [take_snoc (ones_at hn),List.map_append]
        exact upd_same
    rintro ys HA ⟨s9A,rfl⟩ hDA
    rw [List.take_of_length_le (by unfold ones; rw [List.length_map,List.length_map]; omega)] at hDA
    refine ⟨_,D2,ones cs,rfl,rfl,hDA,ones_ok (by omega),?_⟩
    have hnl:(Txt.join (Str.ofString "") (ones cs)).length=cs.length:=ones_len cs
    have hnw:lowS (Txt.join (Str.ofString "") (ones cs)):=lowS_ones fun n hn=>lowj n (csr n hn)
    have s7A:=s79.trans s9A
    clear hD2 hDA s9A s79 hc9
    have hrA:=s7A _ _ hr7
    have hlA:=s7A _ _ hl7
    have s6A:=s67.trans s7A
    refine ⟨fun σ HB=>∃ nm:Str,σ=[some (.ref a),some (.int k),some (.ref al),some (.str letters),some (.ref r),some (.int st),some (.str stem),some (.ref l),some (.int j),some (.ref lw),some (.str nm),o11,o12,o13]∧(1≤nm.length∧nm.length≤8)∧lowS nm∧HA=HB,?_,?_⟩
    · refine ⟨_,rfl,rfl,_,rfl,ite2 (fun _=>?_) (fun _=>⟨_,rfl,⟨by omega,by omega⟩,hnw,rfl⟩)⟩
      refine ⟨_,rfl,_,rfl,_,_,rfl,rfl,_,rfl,r,_,_,_,rfl,rfl,SqL.of hrA,hz0,_,_,rfl,rfl,(show (0:Int)<3 by decide),_,_,rfl,rfl,_,rfl,stem,rfl,(by rw [hsl]; decide),_,rfl,?_,lowS_slice hsw _ _,rfl⟩
      obtain ⟨m,hm,m1⟩:∃ m:Nat,(j:Int)+1+z0 % 3=(m:Int)∧1≤m:=by
        have:=Int.emod_nonneg z0 (show (3:Int)≠0 by decide)
        exact ⟨((j:Int)+1+z0 % 3).toNat,by omega,by omega⟩
      rw [hm,slice_to,hsl]
      omega
    rintro σ HB ⟨nm,rfl,⟨nm1,nm8⟩,nmw,rfl⟩
    refine ⟨fun σ HB=>∃ (nm:Str) (o12:Option V),σ=[some (.ref a),some (.int k),some (.ref al),some (.str letters),some (.ref r),some (.int st),some (.str stem),some (.ref l),some (.int j),some (.ref lw),some (.str nm),o11,o12,o13]∧(1≤nm.length∧nm.length≤8)∧lowS nm∧HA=HB,?_,?_⟩
    · refine ⟨_,rfl,rfl,_,rfl,ite2 (fun _=>?_) (fun _=>⟨nm,o12,rfl,⟨nm1,nm8⟩,nmw,rfl⟩)⟩
      have hm0:=Int.emod_nonneg (z9+3 * (j:Int)) (show (26:Int)≠0 by decide)
      have hm1:=Int.emod_lt_of_pos (z9+3 * (j:Int)) (show (0:Int)<26 by decide)
      refine ⟨_,rfl,_,rfl,r,_,_,_,rfl,rfl,SqL.of hrA,at_map hz9,_,rfl,_,_,rfl,rfl,.inl ⟨by decide,by decide⟩,_,_,rfl,rfl,_,_,rfl,rfl,(show (0:Int)<26 by decide),letters,_,_,rfl,rfl,(by rw [letters_size]; decide),sg_at hm0 hm1,?_⟩
      obtain ⟨m,rfl⟩:∃ m:Nat,z0=(m:Int):=⟨z0.toNat,by omega⟩
      have t1:=slice_to stem m
      have t2:=slice_from stem (m+1)
      have t3:((m:Int)+1)=((m+1:Nat):Int):=by omega
      rw [← t3] at t2
      refine ⟨_,rfl,_,rfl,r,_,_,_,rfl,rfl,SqL.of hrA,hz0,_,rfl,stem,rfl,(by rw [hsl]; decide),_,rfl,_,_,rfl,rfl,(by rw [t1,str_size1,sizeLine_eq]; omega),_,rfl,_,rfl,r,_,_,_,rfl,rfl,SqL.of hrA,hz0,_,_,rfl,rfl,_,rfl,stem,rfl,(by rw [hsl]; decide),_,_,rfl,rfl,(by rw [str_app_len,t1,t2,str_size1,sizeLine_eq]; omega),_,_,rfl,?_,lowS_app (lowS_app (lowS_slice hsw _ _) (lowS_one (sg_mem hm0 hm1))) (lowS_slice hsw _ _),rfl⟩
      rw [str_app_len,str_app_len,t1,t2,str_size1,hsl]
      omega
    clear nm1 nm8 nmw
    rintro σ HB ⟨nm,o12,rfl,⟨nm1,nm8⟩,nmw,rfl⟩
    refine ⟨_,rfl,_,rfl,al,l,_,_,rfl,rfl,s6A _ _ hal6,hlA,(by rw [List.length_map,List.length_map,sizeLine_eq]; omega),fun p1 hp1=>?_⟩
    refine ⟨(by show 4≤sizeLine; decide),fun l4 hl4=>?_⟩
    refine ⟨p1,l4,_,_,rfl,rfl,(same_new hl4 _) _ _ upd_same,upd_same,(by rw [List.length_append,List.length_map,List.length_map,sizeLine_eq]; show _+4≤_; omega),fun lk hlk=>?_⟩
    have ek:(ahead.map V.str++names.map V.str)++[V.str "all",V.str "any",V.str "bell",V.str "none"]=(ahead++names++four).map V.str:=by
      rw [List.map_append,List.map_append]
      rfl
    have vB:=(same_new hp1 (.lst (ahead.map V.str++names.map V.str))).trans ((same_new hl4 (.lst [.str "all",.str "any",.str "bell",.str "none"])).trans (same_new hlk (.lst ((ahead.map V.str++names.map V.str)++[V.str "all",V.str "any",V.str "bell",V.str "none"]))))
    have hkB:(upd (upd (upd HA p1 (.lst (ahead.map V.str++names.map V.str))) l4 (.lst [.str "all",.str "any",.str "bell",.str "none"])) lk (.lst ((ahead.map V.str++names.map V.str)++[V.str "all",V.str "any",V.str "bell",V.str "none"]))) lk=some (.lst ((ahead++names++four).map V.str)):=upd_same.trans (congrArg (fun x=>some (HO.lst x)) ek)
    generalize upd (upd (upd HA p1 (.lst (ahead.map V.str++names.map V.str))) l4 (.lst [.str "all",.str "any",.str "bell",.str "none"])) lk (.lst ((ahead.map V.str++names.map V.str)++[V.str "all",V.str "any",V.str "bell",V.str "none"]))=HC at vB hkB ⊢
    clear hp1 hl4 hlk
    obtain ⟨known,hkn⟩:∃ known,known=ahead++names++four:=⟨_,rfl⟩
    have hk25:known.length≤25:=by
      rw [hkn,List.length_append,List.length_append]
      show _+4≤25
      omega
    rw [← hkn] at hkB
    refine ⟨fun σ HD=>∃ (nm:Str) (o13:Option V),σ=[some (.ref a),some (.int k),some (.ref al),some (.str letters),some (.ref r),some (.int st),some (.str stem),some (.ref l),some (.int j),some (.ref lw),some (.str nm),some (.ref lk),o12,o13]∧nm∉known∧(1≤nm.length∧nm.length≤8)∧lowS nm∧Same HC HD,?_,?_⟩
    · refine ⟨_,rfl,_,rfl,lk,_,rfl,.inl (SqL.of hkB),rfl,strs_flat known,_,rfl,?_⟩
      refine ite2 (fun _=>?_) (fun c1=>?_)
      · refine ⟨_,rfl,letters,rfl,fun D3 hD3=>?_⟩
        refine comp_str (z:=letters) (fun i ys HD=>Same HC HD∧ys=((letters.cps.toList.take i).map (candP (Txt.slice nm none (some 7)))).map V.str) ⟨same_new hD3 _,rfl⟩ ?_ ?_
        · rintro i c ys HD hc ⟨sD,rfl⟩ hDD
          have hc':letters.cps.toList[i]?=some c:=by simpa using hc
          have hi:i<26:=by
            have:=(List.getElem?_eq_some_iff.mp hc').1
            rw [letters_len] at this
            exact this
          refine ⟨rfl,tTrue_ite ?_⟩
          refine ⟨_,rfl,_,rfl,nm,rfl,(by rw [sizeLine_eq]; omega),_,rfl,_,_,rfl,rfl,(by rw [str_size1,sizeLine_eq]; have:=slice_len nm 7; exact Nat.le_trans (Nat.add_le_add_right this 1) (by decide)),_,hDD,?_,_,⟨sD.upd hD3 _,rfl⟩,?_⟩
          · rw [List.length_map,List.length_map,List.length_take]
            exact small1000 (by omega)
          · rw [take_snoc hc',List.map_append,List.map_append]
            exact upd_same
        rintro ys HD ⟨sD,rfl⟩ hDD
        have hT:letters.cps.toList.take letters.cps.size=letters.cps.toList:=List.take_of_length_le (by simp)
        rw [hT] at hDD
        obtain ⟨cands,hcd⟩:∃ cands,cands=letters.cps.toList.map (candP (Txt.slice nm none (some 7))):=⟨_,rfl⟩
        have hcl:cands.length=26:=by rw [hcd,List.length_map,letters_len]
        obtain ⟨zz,rst,hzz,hm0,hl0,hlw⟩:=candP_first (Txt.slice nm none (some 7)) known hk25
        rw [← hcd] at hDD hzz
        have hkD:=sD _ _ hkB
        refine ⟨_,rfl,D3,rfl,⟨_,SqL.of hDD⟩,fun D4 hD4=>?_⟩
        refine comp_list (K:=K) (a:=D3) (xs:=cands.map V.str) (fun i ys HE=>Same HD HE∧ys=((cands.take i).filter (fun x=>decide (x∉known))).map V.str) ⟨same_new hD4 _,rfl⟩ (fun i ys HE _ ⟨z,_⟩=>SqL.of (z _ _ hDD)) ?_ ?_
        · rintro i x ys HE hx ⟨sE,rfl⟩ hDE
          rw [List.getElem?_map] at hx
          obtain ⟨u,hu,rfl⟩:=Option.map_eq_some_iff.mp hx
          have hi:i<26:=by
            have:=(List.getElem?_eq_some_iff.mp hu).1
            omega
          refine ⟨rfl,?_⟩
          refine ⟨_,rfl,_,rfl,lk,_,rfl,.inl (SqL.of (sE _ _ hkD)),rfl,strs_flat known,_,rfl,?_⟩
          have hfl:((cands.take (i+1)).filter (fun x=>decide (x∉known)))=((cands.take i).filter (fun x=>decide (x∉known)))++(if decide (u∉known)=true then [u] else []):=by
            rw [take_snoc hu,List.filter_append]
            by_cases hm:u∈known <;> simp [hm]
          refine ite2 (fun e=>?_) (fun e=>?_)
          · have e':(!inV (.str u) (known.map V.str))=true:=e
            rw [inV_str] at e'
            have hm:u∉known:=by simpa using e'
            refine ⟨_,rfl,_,hDE,?_,_,⟨sE.upd hD4 _,rfl⟩,?_⟩
            · rw [List.length_map]
              refine small1000 (Nat.le_trans (List.length_filter_le _ _) ?_)
              rw [List.length_take]
              omega
            · rw [hfl,if_pos (decide_eq_true hm),List.map_append]
              exact upd_same
          · have e':¬ (!inV (.str u) (known.map V.str))=true:=e
            rw [inV_str] at e'
            have hm:u∈known:=by simpa using e'
            refine ⟨_,⟨sE,rfl⟩,?_⟩
            rw [hfl,if_neg (by simp [hm]),List.append_nil]
            exact hDE
        rintro ys HE ⟨sE,rfl⟩ hDE
        rw [List.length_map,List.take_length,hzz] at hDE
        have hzl:zz.length≤8:=by
          have:=slice_len nm 7
          have e7:(Txt.slice nm none (some 7)).length≤7:=this
          omega
        exact ⟨D4,_,_,_,rfl,rfl,SqL.of hDE,at_zero _ _,zz,_,rfl,hm0,⟨by omega,hzl⟩,hlw (lowS_slice nmw _ _),sD.trans sE⟩
      · have c1':¬ inV (.str nm) (known.map V.str)=true:=c1
        rw [inV_str] at c1'
        exact ⟨nm,_,rfl,fun hz=>c1' (decide_eq_true hz),⟨nm1,nm8⟩,nmw,.refl HC⟩
    clear nm1 nm8 nmw
    rintro σ HD ⟨nm,o13,rfl,hnk,⟨nm1,nm8⟩,nmw,sD⟩
    have s6D:=s6A.trans (vB.trans sD)
    have hlD:=(vB.trans sD) _ _ hlA
    rw [hkn,List.mem_append,List.mem_append] at hnk
    refine ⟨_,rfl,.inl ⟨rfl,_,SqL.of hlD⟩,_,rfl,l,_,_,rfl,rfl,hlD,(by rw [List.length_map]; exact small1000 (by omega)),?_⟩
    refine ⟨names++[nm],_,_,_,_,_,_,rfl,by rw [List.length_append,hn]; rfl,⟨?_,?_,?_,?_⟩,by rw [List.map_append]; exact upd_same,s6D.upd hl _⟩
    · rw [List.nodup_append]
      refine ⟨good.nd,by simp,fun x hx y hy e=>?_⟩
      rw [List.mem_singleton] at hy
      subst e hy
      exact hnk (.inl (.inr hx))
    · intro x hx
      rcases List.mem_append.mp hx with h | h
      · exact good.fr x h
      · rw [List.mem_singleton] at h
        subst h
        exact ⟨fun h=>hnk (.inl (.inl h)),fun h=>hnk (.inr h)⟩
    · intro x hx
      rcases List.mem_append.mp hx with h | h
      · exact good.ln x h
      · rw [List.mem_singleton] at h
        subst h
        exact ⟨nm1,nm8⟩
    · intro x hx
      rcases List.mem_append.mp hx with h | h
      · exact good.lw x h
      · rw [List.mem_singleton] at h
        subst h
        exact nmw
  rintro σ H7 ⟨names,o8,o9,o10,o11,o12,o13,rfl,hn,good,hl7,s67⟩
  exact ⟨_,rfl,q H7 l names (s06.trans s67) l0 hl7 hn good⟩
end
end K62
namespace K62.S
open PySem L2
def leO (o:Option Int) (v:Int):Bool:=match o with
  | some d=>decide (d≤v)
  | none=>false
def cnt (bs:List (Option Int)) (v:Int):Nat:=bs.countP (fun o=>leO o v)
def tot (bs:List (Option Int)):Nat:=bs.countP (fun o=>o.isSome)
def Due (bs:List (Option Int)) (n:Int):Option Int→Prop
  | none=>(tot bs:Int)<n
  | some v=>n≤(cnt bs v:Int)∧(cnt bs (v - 1):Int)<n
theorem leO_mono {o:Option Int} {v v':Int} (h:v≤v') (e:leO o v=true):leO o v'=true:=by
  cases o with
  | none=>cases e
  | some d=>exact decide_eq_true (by have:=of_decide_eq_true e; omega)
theorem cnt_mono (bs:List (Option Int)) {v v':Int} (h:v≤v'):cnt bs v≤cnt bs v':=List.countP_mono_left fun _ _ e=>leO_mono h e
theorem cnt_tot (bs:List (Option Int)) (v:Int):cnt bs v≤tot bs:=List.countP_mono_left fun o _ e=>by
  cases o with
  | none=>cases e
  | some d=>rfl
theorem due_unique {bs:List (Option Int)} {n:Int} {o o':Option Int} (h:Due bs n o) (h':Due bs n o'):o=o':=by
  cases o with
  | none =>
    cases o' with
    | none=>rfl
    | some v =>
      have h1:(tot bs:Int)<n:=h
      obtain ⟨h2,_⟩:=h'
      have:=cnt_tot bs v
      omega
  | some v =>
    cases o' with
    | none =>
      have h1:(tot bs:Int)<n:=h'
      obtain ⟨h2,_⟩:=h
      have:=cnt_tot bs v
      omega
    | some v' =>
      obtain ⟨a1,a2⟩:=h
      obtain ⟨b1,b2⟩:=h'
      rcases Int.lt_trichotomy v v' with c | c | c
      · have:=cnt_mono bs (show v≤v' - 1 by omega)
        omega
      · rw [c]
      · have:=cnt_mono bs (show v'≤v - 1 by omega)
        omega
def wants (b:Bell):Int:=match b.rule with
  | .all=>b.lis.length
  | .any=>1
  | .num n=>n
def come (before now:List (Option Int)) (l:Lis):Option Int:=((if l.back then before else now)[l.whom]?).join.map (·+l.beats)
def comesOf (b:Bell) (before now:List (Option Int)):List (Option Int):=b.lis.map (come before now)
def Fix (c:List Bell) (before now:List (Option Int)):Prop:=now.length=c.length∧∀ (k:Nat) b,c[k]?=some b→∃ o,now[k]?=some o∧Due (comesOf b before now) (wants b) o
def Slow (c:List Bell):Prop:=∀ (k:Nat) b,c[k]?=some b→∀ l∈b.lis,1≤l.beats
theorem cnt_map {α:Type} (l:List α) (f:α→Option Int) (v:Int):cnt (l.map f) v=l.countP (fun x=>leO (f x) v):=by
  unfold cnt
  rw [List.countP_map]
  rfl
theorem cnt_agree {b:Bell} {before now now':List (Option Int)} {t:Int} (hs:∀ l∈b.lis,1≤l.beats) (h:∀ (k:Nat) u,u<t→now[k]?=some (some u)→now'[k]?=some (some u)):cnt (comesOf b before now) t≤cnt (comesOf b before now') t:=by
  unfold comesOf
  rw [cnt_map,cnt_map]
  refine List.countP_mono_left fun l hl e=>?_
  unfold come at e ⊢
  cases hb:l.back with
  | true=>rw [hb] at e; exact e
  | false =>
    rw [hb] at e
    simp only [Bool.false_eq_true,if_false] at e ⊢
    cases hn:now[l.whom]? with
    | none=>rw [hn] at e; cases e
    | some o =>
      cases o with
      | none=>rw [hn] at e; cases e
      | some u =>
        rw [hn] at e
        have e1:u+l.beats≤t:=of_decide_eq_true e
        have:=hs l hl
        rw [h l.whom u (by omega) hn]
        exact decide_eq_true e1
theorem low (l:List (Option Int)):∃ B:Int,∀ v,some v∈l→B≤v:=by
  induction l with
  | nil=>exact ⟨0,fun v h=>by cases h⟩
  | cons o r ih =>
    obtain ⟨B,hB⟩:=ih
    cases o with
    | none=>exact ⟨B,fun v h=>by
        rcases List.mem_cons.mp h with z | z
        · cases z
        · exact hB v z⟩
    | some d=>exact ⟨min B d,fun v h=>by
        rcases List.mem_cons.mp h with z | z
        · have:=Option.some.inj z
          omega
        · have:=hB v z
          omega⟩
theorem fix_agree {c:List Bell} (hc:Slow c) {before now now':List (Option Int)} (f:Fix c before now) (f':Fix c before now') {B:Int} (hB:∀ v,some v∈now→B≤v) (hB':∀ v,some v∈now'→B≤v) :
    ∀ (n:Nat) (k:Nat) v,v<B+n→(now[k]?=some (some v)↔now'[k]?=some (some v)):=by
  intro n
  induction n with
  | zero =>
    intro k v hv
    refine ⟨fun e=>?_,fun e=>?_⟩
    · have:=hB v (List.mem_of_getElem? e); omega
    · have:=hB' v (List.mem_of_getElem? e); omega
  | succ n ih =>
    have one:∀ {x y:List (Option Int)},Fix c before x→Fix c before y→(∀ (k:Nat) v,v<B+n→(x[k]?=some (some v)↔y[k]?=some (some v)))→∀ (k:Nat) v,v<B+(n+1:Nat)→x[k]?=some (some v)→y[k]?=some (some v):=by
      intro x y fx fy ih k v hv e
      have hk:k<c.length:=by
        rw [← fx.1]
        exact (List.getElem?_eq_some_iff.mp e).1
      have hb:=List.getElem?_eq_getElem hk
      obtain ⟨o,ho,hd⟩:=fx.2 k _ hb
      rw [e] at ho
      cases ho
      obtain ⟨o',ho',hd'⟩:=fy.2 k _ hb
      have hs:=hc k _ hb
      have a1:=cnt_agree (before:=before) (now:=x) (now':=y) (t:=v) hs fun k u hu z=>(ih k u (by omega)).mp z
      have a2:=cnt_agree (before:=before) (now:=y) (now':=x) (t:=v) hs fun k u hu z=>(ih k u (by omega)).mpr z
      have b1:=cnt_agree (before:=before) (now:=x) (now':=y) (t:=v - 1) hs fun k u hu z=>(ih k u (by omega)).mp z
      have b2:=cnt_agree (before:=before) (now:=y) (now':=x) (t:=v - 1) hs fun k u hu z=>(ih k u (by omega)).mpr z
      obtain ⟨d1,d2⟩:=hd
      have hd2:Due (comesOf c[k] before y) (wants c[k]) (some v):=⟨by omega,by omega⟩
      rw [ho',due_unique hd' hd2]
    intro k v hv
    exact ⟨one f f' ih k v hv,one f' f (fun k v h=>(ih k v h).symm) k v hv⟩
theorem fix_unique {c:List Bell} (hc:Slow c) {before now now':List (Option Int)} (f:Fix c before now) (f':Fix c before now'):now=now':=by
  obtain ⟨B1,h1⟩:=low now
  obtain ⟨B2,h2⟩:=low now'
  have ag:=fix_agree hc f f' (B:=min B1 B2) (fun v h=>by have:=h1 v h; omega) (fun v h=>by have:=h2 v h; omega)
  have all:∀ (k:Nat) v,now[k]?=some (some v)↔now'[k]?=some (some v):=fun k v=>ag (v - min B1 B2+1).toNat k v (by omega)
  refine List.ext_getElem? fun k=>?_
  by_cases hk:k<c.length
  · have e1:=List.getElem?_eq_getElem (show k<now.length by rw [f.1]; exact hk)
    have e2:=List.getElem?_eq_getElem (show k<now'.length by rw [f'.1]; exact hk)
    cases o1:now[k]'(by rw [f.1]; exact hk) with
    | some v =>
      rw [o1] at e1
      rw [e1,(all k v).mp e1]
    | none =>
      rw [o1] at e1
      cases o2:now'[k]'(by rw [f'.1]; exact hk) with
      | none=>rw [o2] at e2; rw [e1,e2]
      | some v =>
        rw [o2] at e2
        have:=(all k v).mpr e2
        rw [e1] at this
        cases this
  · rw [List.getElem?_eq_none (by rw [f.1]; omega),List.getElem?_eq_none (by rw [f'.1]; omega)]
structure Going (c:List Bell) (before now:List (Option Int)):Prop where
  len:now.length=c.length
  found:∀ (k:Nat) b v,c[k]?=some b→now[k]?=some (some v)→Due (comesOf b before now) (wants b) (some v)
  least:∀ (j:Nat) u (k:Nat) b v,now[j]?=some (some u)→c[k]?=some b→now[k]?=some none→Due (comesOf b before now) (wants b) (some v)→u≤v
theorem going_start (c:List Bell) (before:List (Option Int)):Going c before (c.map fun _=>none) where
  len:=List.length_map _
  found:=fun k b v hb e=>by
    rw [List.getElem?_map,hb] at e
    cases e
  least:=fun j u k b v e _ _ _=>by
    rw [List.getElem?_map] at e
    cases h:c[j]? with
    | none=>rw [h] at e; cases e
    | some x=>rw [h] at e; cases e
theorem going_on {c:List Bell} (hc:Slow c) {before now:List (Option Int)} (g:Going c before now) {k:Nat} {b:Bell} {beat:Int} (hb:c[k]?=some b) (hn:now[k]?=some none) (hd:Due (comesOf b before now) (wants b) (some beat))
    (hl:∀ (j:Nat) b' v,c[j]?=some b'→now[j]?=some none→Due (comesOf b' before now) (wants b') (some v)→beat≤v):Going c before (now.set k (some beat)):=by
  have hk:k<now.length:=(List.getElem?_eq_some_iff.mp hn).1
  have old:∀ (j:Nat) u,u<beat→((now.set k (some beat))[j]?=some (some u)→now[j]?=some (some u)):=fun j u hu e=>by
    by_cases hj:j=k
    · subst hj
      rw [List.getElem?_set_self hk] at e
      have:=Option.some.inj (Option.some.inj e)
      omega
    · rw [List.getElem?_set_ne (Ne.symm hj)] at e
      exact e
  have new:∀ (j:Nat) u,(now[j]?=some (some u)→(now.set k (some beat))[j]?=some (some u)):=fun j u e=>by
    by_cases hj:j=k
    · subst hj
      rw [hn] at e
      cases e
    · rw [List.getElem?_set_ne (Ne.symm hj)]
      exact e
  have same:∀ (j:Nat) b',c[j]?=some b'→∀ t,t≤beat→cnt (comesOf b' before (now.set k (some beat))) t=cnt (comesOf b' before now) t:=fun j b' hj t ht=>by
    have a1:=cnt_agree (before:=before) (now:=now.set k (some beat)) (now':=now) (t:=t) (hc j b' hj) fun i u hu z=>old i u (by omega) z
    have a2:=cnt_agree (before:=before) (now:=now) (now':=now.set k (some beat)) (t:=t) (hc j b' hj) fun i u hu z=>new i u z
    omega
  refine ⟨by rw [List.length_set]; exact g.len,fun j b' v hj e=>?_,fun j u i b' v e hi ei hd'=>?_⟩
  · by_cases hjk:j=k
    · subst hjk
      rw [List.getElem?_set_self hk] at e
      obtain rfl:beat=v:=Option.some.inj (Option.some.inj e)
      rw [hb] at hj
      cases hj
      exact ⟨by rw [same j b hb beat (by omega)]; exact hd.1,by rw [same j b hb (beat - 1) (by omega)]; exact hd.2⟩
    · rw [List.getElem?_set_ne (Ne.symm hjk)] at e
      have h1:=g.found j b' v hj e
      have h2:=g.least j v k b beat e hb hn hd
      exact ⟨by rw [same j b' hj v (by omega)]; exact h1.1,by rw [same j b' hj (v - 1) (by omega)]; exact h1.2⟩
  · have hik:i≠k:=fun z=>by
      subst z
      rw [List.getElem?_set_self hk] at ei
      cases ei
    rw [List.getElem?_set_ne (Ne.symm hik)] at ei
    have hbv:beat≤v:=by
      refine Classical.byContradiction fun no=>?_
      have h1:Due (comesOf b' before now) (wants b') (some v):=⟨by rw [← same i b' hi v (by omega)]; exact hd'.1,by rw [← same i b' hi (v - 1) (by omega)]; exact hd'.2⟩
      have:=hl i b' v hi ei h1
      omega
    by_cases hjk:j=k
    · subst hjk
      rw [List.getElem?_set_self hk] at e
      have:=Option.some.inj (Option.some.inj e)
      omega
    · rw [List.getElem?_set_ne (Ne.symm hjk)] at e
      have:=g.least j u k b beat e hb hn hd
      omega
theorem going_end {c:List Bell} {before now:List (Option Int)} (g:Going c before now) (h:∀ (k:Nat) b,c[k]?=some b→now[k]?=some none→Due (comesOf b before now) (wants b) none):Fix c before now:=by
  refine ⟨g.len,fun k b hb=>?_⟩
  have hk:k<now.length:=by rw [g.len]; exact (List.getElem?_eq_some_iff.mp hb).1
  have e:=List.getElem?_eq_getElem hk
  cases o:now[k] with
  | none=>rw [o] at e; exact ⟨none,e,h k b hb e⟩
  | some v=>rw [o] at e; exact ⟨some v,e,g.found k b v hb e⟩
def comesL (bs:List (Option Int)):List Int:=bs.filterMap id
theorem comes_tot (bs:List (Option Int)):(comesL bs).length=tot bs:=by
  induction bs with
  | nil=>rfl
  | cons o r ih =>
    cases o with
    | none=>exact ih
    | some d =>
      show (comesL r).length+1=(some d::r).countP _
      rw [List.countP_cons,ih]
      rfl
theorem comes_cnt (bs:List (Option Int)) (v:Int):((comesL bs).filter fun d=>decide (d≤v)).length=cnt bs v:=by
  induction bs with
  | nil=>rfl
  | cons o r ih =>
    unfold cnt at ih ⊢
    cases o with
    | none=>rw [List.countP_cons]; exact ih
    | some d =>
      show ((d::comesL r).filter fun d=>decide (d≤v)).length=_
      rw [List.countP_cons,List.filter_cons]
      by_cases hd:d≤v
      · rw [if_pos (decide_eq_true hd),List.length_cons,ih]
        simp [leO,hd]
      · rw [if_neg (by simpa using hd),ih]
        simp [leO,hd]
theorem sorted_at {ns:List Int} (o:ns.Pairwise (·≤·)) {i j:Nat} (hi:i≤j) (hj:j<ns.length):ns[i]'(by omega)≤ns[j]:=by
  rcases Nat.lt_or_ge i j with h | h
  · exact List.pairwise_iff_getElem.mp o i j (by omega) hj h
  · have e:i=j:=by omega
    subst e
    exact Int.le_refl _
theorem upto_ge {ns:List Int} (o:ns.Pairwise (·≤·)) {k:Nat} (hk:k<ns.length):k+1≤(ns.filter fun d=>decide (d≤ns[k])).length:=by
  have h1:((ns.take (k+1)).filter fun d=>decide (d≤ns[k]))=ns.take (k+1):=by
    rw [List.filter_eq_self]
    intro a ha
    obtain ⟨i,hi,rfl⟩:=List.getElem_of_mem ha
    rw [List.length_take] at hi
    rw [List.getElem_take]
    exact decide_eq_true (sorted_at o (by omega) hk)
  have h2:((ns.take (k+1)++ns.drop (k+1)).filter fun d=>decide (d≤ns[k])).length=(ns.filter fun d=>decide (d≤ns[k])).length:=by
    rw [List.take_append_drop]
  rw [← h2,List.filter_append,h1,List.length_append,List.length_take]
  omega
theorem upto_le {ns:List Int} (o:ns.Pairwise (·≤·)) {k:Nat} (hk:k<ns.length) {c:Int} (hc:c<ns[k]):(ns.filter fun d=>decide (d≤c)).length≤k:=by
  have h1:((ns.drop k).filter fun d=>decide (d≤c))=[]:=by
    rw [List.filter_eq_nil_iff]
    intro a ha h
    obtain ⟨i,hi,rfl⟩:=List.getElem_of_mem ha
    rw [List.length_drop] at hi
    rw [List.getElem_drop] at h
    have h3:=sorted_at o (i:=k) (j:=k+i) (by omega) (by omega)
    have h4:=of_decide_eq_true h
    omega
  have h2:((ns.take k++ns.drop k).filter fun d=>decide (d≤c)).length=(ns.filter fun d=>decide (d≤c)).length:=by
    rw [List.take_append_drop]
  rw [← h2,List.filter_append,h1,List.append_nil]
  exact Nat.le_trans (List.length_filter_le _ _) (by rw [List.length_take]; omega)
theorem due_none {bs:List (Option Int)} {ns:List Int} {n:Int} (p:ns.Perm (comesL bs)) (h:(ns.length:Int)<n):Due bs n none:=by
  show (tot bs:Int)<n
  rw [← comes_tot,← p.length_eq]
  exact h
theorem due_some {bs:List (Option Int)} {ns:List Int} {n v:Int} (p:ns.Perm (comesL bs)) (o:ns.Pairwise (·≤·)) (h1:1≤n) (hv:ns[(n - 1).toNat]?=some v):Due bs n (some v):=by
  obtain ⟨hk,e⟩:=List.getElem?_eq_some_iff.mp hv
  subst e
  have a:=upto_ge o hk
  have b:=upto_le o hk (c:=ns[(n - 1).toNat] - 1) (by omega)
  have ea:(ns.filter fun d=>decide (d≤ns[(n - 1).toNat])).length=cnt bs ns[(n - 1).toNat]:=by rw [← comes_cnt]; exact (p.filter _).length_eq
  have eb:(ns.filter fun d=>decide (d≤ns[(n - 1).toNat] - 1)).length=cnt bs (ns[(n - 1).toNat] - 1):=by rw [← comes_cnt]; exact (p.filter _).length_eq
  exact ⟨by omega,by omega⟩
end K62.S
namespace K62.S
open PySem L2
def oV:Option Int→V
  | none=>.non
  | some i=>.int i
theorem at_o {bs:List (Option Int)} {i:Nat} {y:V} (h:(bs.map oV)[i]?=some y):∃ o,y=oV o∧bs[i]?=some o:=by
  rw [List.getElem?_map] at h
  cases e:bs[i]? with
  | none=>rw [e] at h; cases h
  | some z=>rw [e] at h; exact ⟨z,(Option.some.inj h).symm,rfl⟩
theorem comes_snocN (l:List (Option Int)):comesL (l++[none])=comesL l:=by
  unfold comesL
  rw [List.filterMap_append]
  simp
theorem comes_snocS (l:List (Option Int)) (i:Int):comesL (l++[some i])=comesL l++[i]:=by
  unfold comesL
  rw [List.filterMap_append]
  simp
theorem comes_len (l:List (Option Int)):(comesL l).length≤l.length:=List.length_filterMap_le _ _
def RuleAt (K:PySem.W.Frag) (ff:Addr) (H:Hp) (x:Addr) (n:Int):Prop:=∃ C dx,H x=some (.ins C dx [("need",.int n)])∧Cls K C∧NoAttr K C "need"∧Meth K C "falls" ff
theorem RuleAt.same {K:PySem.W.Frag} {ff:Addr} {H H':Hp} {x:Addr} {n:Int} (r:RuleAt K ff H x n) (s:Same H H'):RuleAt K ff H' x n:=by
  obtain ⟨C,dx,h,r⟩:=r
  exact ⟨C,dx,s _ _ h,r⟩
structure Own (K:PySem.W.Frag) (C fi ff:Addr):Prop where
  cl:Cls K C
  nN:NoAttr K C "need"
  mks:Mk K C fi
  fl:Meth K C "falls" ff
section
variable {P:Program} {w:World} {K:PySem.W.Frag} {mg:Str→Option Value} {base:Heap} {f:Addr} {fd:FuncData}
def sp_whole:Sp:=fun vs H Q _=>∃ i:Int,vs=[.int i]∧Q (.bl true) H
theorem sc_is_whole:FnScope ["thing"] ["thing"] (defScope s_is_whole):=⟨rfl,rfl,rfl,by decide +kernel,rfl,by decide +kernel,by decide +kernel⟩
theorem ok_is_whole (F:Fun K "is_whole" "is_whole" s_is_whole f fd) (B:Blt mg):FnOk P w K mg base CX0 1 f fd ["thing"] sp_whole:=by
  refine F.ok sc_is_whole (fun vs H Q E h=>?_) (fun cdv A outer s H vs Q E hr h=>?_)
  · obtain ⟨i,rfl,_⟩:=h
    rfl
  obtain ⟨i,rfl,q⟩:=h
  refine ⟨_,(pss_one (ps_ret (pe_and (pe_callB (call_isT "int") rfl B.isinstance_ PyProof.Rows.boot_isinstance (pa_cons (pv 0) (pa_cons (pe_bltn (v:=.ty "int") rfl B.int_ PyProof.Rows.boot_int rfl) pa_nil))) (pe_one (pe_not (pe_callB (call_isT "bool") rfl B.isinstance_ PyProof.Rows.boot_isinstance (pa_cons (pv 0) (pa_cons (pe_bltn (v:=.ty "bool") rfl B.bool_ PyProof.Rows.boot_bool rfl) pa_nil)))))))),?_⟩
  refine ⟨_,rfl,_,_,_,rfl,.int i,kit_ii K,_,rfl,iteT ?_⟩
  refine ⟨_,rfl,_,_,_,rfl,.int i,kit_ib K,_,rfl,?_⟩
  exact q
def sp_init (K:PySem.W.Frag):Sp:=fun vs H Q _=>∃ (p C dx:Addr) (v:V),vs=[.ref p,v]∧H p=some (.ins C dx [])∧Cls K C∧NoAttr K C "need"∧Q .non (upd H p (.ins C dx [("need",v)]))
def sp_init1 (K:PySem.W.Frag):Sp:=fun vs H Q _=>∃ (p C dx:Addr),vs=[.ref p]∧H p=some (.ins C dx [])∧Cls K C∧NoAttr K C "need"∧Q .non (upd H p (.ins C dx [("need",.int 1)]))
theorem sc_Rinit:FnScope ["self","need"] ["self","need"] (defScope s_Rinit):=⟨rfl,rfl,rfl,by decide +kernel,rfl,by decide +kernel,by decide +kernel⟩
theorem ok_Rinit (F:Fun K "__init__" "Rule.__init__" s_Rinit f fd):FnOk P w K mg base CX0 1 f fd ["self","need"] (sp_init K):=by
  refine F.ok sc_Rinit (fun vs H Q E h=>?_) (fun cdv A outer s H vs Q E hr h=>?_)
  · obtain ⟨p,C,dx,v,rfl,_⟩:=h
    rfl
  obtain ⟨p,C,dx,v,rfl,hp,cl,na,q⟩:=h
  refine ⟨_,(pss_one (ps_fld (pv 0) (pv 1) rfl)),?_⟩
  exact ⟨_,rfl,_,rfl,p,C,dx,[],rfl,hp,cl,na,(by show 0<1000; decide),q⟩
theorem sc_Ainit:FnScope ["self","many"] ["self","many"] (defScope s_Ainit):=⟨rfl,rfl,rfl,by decide +kernel,rfl,by decide +kernel,by decide +kernel⟩
theorem ok_Ainit {R g:Addr} {gd:FuncData} (F:Fun K "__init__" "All.__init__" s_Ainit f fd) (mR:mg "Rule"=some (.ref R)) (c:ClsFn K R "__init__" g) (G:FnOk P w K mg base CX0 1 g gd ["self","need"] (sp_init K)) (b:Binds K gd ["self","need"] []) :
    FnOk P w K mg base CX0 2 f fd ["self","many"] (sp_init K):=by
  refine F.ok sc_Ainit (fun vs H Q E h=>?_) (fun cdv A outer s H vs Q E hr h=>?_)
  · obtain ⟨p,C,dx,v,rfl,_⟩:=h
    rfl
  obtain ⟨p,C,dx,v,rfl,hp,cl,na,q⟩:=h
  refine ⟨_,(pss_one (ps_expr (pe_clsfn rfl mR c G hr b .nil pass0 (pa_cons (pv 0) (pa_cons (pv 1) pa_nil))))),?_⟩
  exact ⟨_,rfl,_,rfl,p,C,dx,v,rfl,hp,cl,na,q⟩
theorem sc_Sinit:FnScope ["self","need"] ["self","need"] (defScope s_Sinit):=⟨rfl,rfl,rfl,by decide +kernel,rfl,by decide +kernel,by decide +kernel⟩
theorem ok_Sinit {R g:Addr} {gd:FuncData} (F:Fun K "__init__" "Some.__init__" s_Sinit f fd) (mR:mg "Rule"=some (.ref R)) (c:ClsFn K R "__init__" g) (G:FnOk P w K mg base CX0 1 g gd ["self","need"] (sp_init K)) (b:Binds K gd ["self","need"] []) :
    FnOk P w K mg base CX0 2 f fd ["self","need"] (sp_init K):=by
  refine F.ok sc_Sinit (fun vs H Q E h=>?_) (fun cdv A outer s H vs Q E hr h=>?_)
  · obtain ⟨p,C,dx,v,rfl,_⟩:=h
    rfl
  obtain ⟨p,C,dx,v,rfl,hp,cl,na,q⟩:=h
  refine ⟨_,(pss_one (ps_expr (pe_clsfn rfl mR c G hr b .nil pass0 (pa_cons (pv 0) (pa_cons (pv 1) pa_nil))))),?_⟩
  exact ⟨_,rfl,_,rfl,p,C,dx,v,rfl,hp,cl,na,q⟩
theorem sc_Yinit:FnScope ["self"] ["self"] (defScope s_Yinit):=⟨rfl,rfl,rfl,by decide +kernel,rfl,by decide +kernel,by decide +kernel⟩
theorem ok_Yinit {R g:Addr} {gd:FuncData} (F:Fun K "__init__" "Any.__init__" s_Yinit f fd) (mR:mg "Rule"=some (.ref R)) (c:ClsFn K R "__init__" g) (G:FnOk P w K mg base CX0 1 g gd ["self","need"] (sp_init K)) (b:Binds K gd ["self","need"] []) :
    FnOk P w K mg base CX0 2 f fd ["self"] (sp_init1 K):=by
  refine F.ok sc_Yinit (fun vs H Q E h=>?_) (fun cdv A outer s H vs Q E hr h=>?_)
  · obtain ⟨p,C,dx,rfl,_⟩:=h
    rfl
  obtain ⟨p,C,dx,rfl,hp,cl,na,q⟩:=h
  refine ⟨_,(pss_one (ps_expr (pe_clsfn rfl mR c G hr b .nil pass0 (pa_cons (pv 0) (pa_cons pe_int pa_nil))))),?_⟩
  exact ⟨_,rfl,p,C,dx,.int 1,rfl,hp,cl,na,q⟩
def sp_falls (K:PySem.W.Frag):Sp:=fun vs H Q _=>∃ (x b C dx:Addr) (n:Int) (bs:List (Option Int)),vs=[.ref x,.ref b]∧H x=some (.ins C dx [("need",.int n)])∧Cls K C∧NoAttr K C "need"∧H b=some (.lst (bs.map oV))∧bs.length≤8∧1≤n∧
  ∀ (H':Hp) (o:Option Int),Same H H'→Due bs n o→Q (oV o) H'
theorem sc_falls:FnScope ["self","beats","come"] ["self","beats"] (defScope s_falls):=⟨rfl,rfl,rfl,by decide +kernel,rfl,by decide +kernel,by decide +kernel⟩
theorem ok_falls (F:Fun K "falls" "Rule.falls" s_falls f fd) (B:Blt mg):FnOk P w K mg base CX0 1 f fd ["self","beats"] (sp_falls K):=by
  refine F.ok sc_falls (fun vs H Q E h=>?_) (fun cdv A outer s H vs Q E hr h=>?_)
  · obtain ⟨x,b,C,dx,n,bs,rfl,_⟩:=h
    rfl
  obtain ⟨x,b,C,dx,n,bs,rfl,hx,cl,na,hb,hl8,h1,q⟩:=h
  refine ⟨_,(pss_cons (ps_set (i:=2) sc_falls.nd rfl (Or.inl rfl) (pe_callB call_sorted rfl B.sorted_ PyProof.Rows.boot_sorted (pa_cons (pe_comp ["beat"] [] [] rfl (pi_list (pv 1)) (fun _ _ _ _ _=>pg_name (i:=0) (show List.Nodup [("beat":Str)] by decide +kernel) rfl (Or.inl rfl)) (fun _ _ _ _ _=>pts_one (pt_cmpR op_notN (pv 0) pe_non (nomark _))) (fun _ _ _ _ _=>pv 0)) pa_nil)))
    (pss_cons (ps_if (pt_cmpR op_lt (pe_callB call_len_seq rfl B.len_ PySem.boot_len (pa_cons (pv 2) pa_nil)) (pe_fld (pv 0) rfl) (nomark _))
    (pss_one (ps_ret pe_non))
    pss_nil)
    (pss_one (ps_ret (pe_ix ix_list (pv 2) (pe_op op_sub (pe_fld (pv 0) rfl) pe_int) (fun _ _=>rfl)))))),?_⟩
  refine ⟨_,rfl,b,rfl,⟨_,SqL.of hb⟩,fun D hD=>?_⟩
  have hlm:(bs.map oV).length=bs.length:=List.length_map _
  refine comp_list (K:=K) (a:=b) (xs:=bs.map oV) (fun i ys H2=>Same H H2∧ys=(comesL (bs.take i)).map V.int) ⟨same_new hD _,rfl⟩ (fun i ys H2 _ ⟨s2,_⟩=>SqL.of (s2 _ _ hb)) ?_ ?_
  · rintro i y ys H2 hi ⟨s2,rfl⟩ hD2
    obtain ⟨o,rfl,ho⟩:=at_o hi
    have hil:i<bs.length:=(List.getElem?_eq_some_iff.mp ho).1
    refine ⟨rfl,_,rfl,rfl,_,rfl,?_⟩
    cases o with
    | none =>
      refine iteF ⟨_,⟨s2,rfl⟩,?_⟩
      rw [take_snoc ho,comes_snocN]
      exact hD2
    | some z =>
      refine iteT ⟨_,rfl,_,hD2,?_,_,⟨s2.upd hD _,rfl⟩,?_⟩
      · rw [List.length_map]
        have:=comes_len (bs.take i)
        rw [List.length_take] at this
        exact small1000 (by omega)
      · rw [take_snoc ho,comes_snocS,List.map_append]
        exact upd_same
  · rintro ys H2 ⟨s2,rfl⟩ hD2
    rw [hlm,List.take_length] at hD2
    have hcl:(comesL bs).length≤8:=Nat.le_trans (comes_len bs) hl8
    refine ⟨D,comesL bs,rfl,SqL.of hD2,by omega,fun l ns hl p o=>?_⟩
    have s3:Same H (upd H2 l (.lst (ns.map V.int))):=s2.trans (same_new hl _)
    have hx3:=s3 _ _ hx
    have hl3:(upd H2 l (.lst (ns.map V.int))) l=some (.lst (ns.map V.int)):=upd_same
    have hlen:(ns.map V.int).length=ns.length:=List.length_map _
    refine ⟨_,rfl,l,_,rfl,.inl (SqL.of hl3),_,rfl,x,C,dx,_,_,rfl,hx3,cl,na,rfl,_,_,rfl,rfl,_,rfl,?_⟩
    refine ite2 (fun c=>?_) (fun c=>?_)
    · have c':(((ns.map V.int).length:Nat):Int)<n:=of_decide_eq_true c
      rw [hlen] at c'
      exact q _ none s3 (due_none p c')
    · have c':¬ (((ns.map V.int).length:Nat):Int)<n:=of_decide_eq_false (Bool.eq_false_iff.mpr c)
      rw [hlen] at c'
      have hk:(n - 1).toNat<ns.length:=by omega
      have en:n - 1=(((n - 1).toNat:Nat):Int):=by omega
      have hv:ns[(n - 1).toNat]?=some ns[(n - 1).toNat]:=List.getElem?_eq_getElem hk
      have hat:atI (ns.map V.int) (n - 1)=some (.int ns[(n - 1).toNat]):=by
        have:=at_map hv
        rw [← en] at this
        exact this
      refine ⟨_,rfl,_,rfl,x,C,dx,_,_,rfl,hx3,cl,na,rfl,_,_,rfl,rfl,l,_,_,_,rfl,rfl,SqL.of hl3,hat,?_⟩
      exact q _ (some _) s3 (due_some p o h1 hv)
theorem ne_any_all:¬ (V.str ("any":Str)=V.str ("all":Str)):=by
  intro h
  injection h with h
  exact absurd h (by decide +kernel)
theorem made_same {H:Hp} {x dx C:Addr} {l1 l2:List (Str×V)} (nx:H x=none) (ndx:H dx=none):Same H (upd (upd (upd H dx (.own x)) x (.ins C dx l1)) x (.ins C dx l2)):=fun b o e=>by
  rw [upd_ne (ne_of_none e nx),upd_ne (ne_of_none e nx),upd_ne (ne_of_none e ndx)]
  exact e
def sp_text (K:PySem.W.Frag) (ff:Addr):Sp:=fun vs H Q _=>∃ (t:Str) (many n:Int),vs=[.str t,.int many]∧(t="all"∧n=many∨t="any"∧n=1)∧∀ x H',Same H H'→RuleAt K ff H' x n→Q (.ref x) H'
theorem sc_text:FnScope ["text","many"] ["text","many"] (defScope s_text):=⟨rfl,rfl,rfl,by decide +kernel,rfl,by decide +kernel,by decide +kernel⟩
theorem ok_text {A Y fA fY ff:Addr} {dA dY:FuncData} (F:Fun K "rule_of_text" "rule_of_text" s_text f fd) (mA:mg "All"=some (.ref A)) (mY:mg "Any"=some (.ref Y)) (oA:Own K A fA ff) (oY:Own K Y fY ff)
    (GA:FnOk P w K mg base CX0 2 fA dA ["self","many"] (sp_init K)) (bA:Binds K dA ["self","many"] []) (GY:FnOk P w K mg base CX0 2 fY dY ["self"] (sp_init1 K)) (bY:Binds K dY ["self"] []) :
    FnOk P w K mg base CX0 4 f fd ["text","many"] (sp_text K ff):=by
  refine F.ok sc_text (fun vs H Q E h=>?_) (fun cdv A' outer s H vs Q E hr h=>?_)
  · obtain ⟨t,many,n,rfl,_⟩:=h
    rfl
  obtain ⟨t,many,n,rfl,hw,q⟩:=h
  refine ⟨_,(pss_cons (ps_if (pt_cmpR op_eq (pv 0) pe_str (nomark _))
    (pss_one (ps_ret (pe_make oA.mks GA hr rfl mA bA .nil pass0 (pa_cons (pv 1) pa_nil))))
    pss_nil)
    (pss_cons (ps_if (pt_cmpR op_eq (pv 0) pe_str (nomark _))
    (pss_one (ps_ret (pe_make0 oY.mks GY hr rfl mY bY .nil pass0)))
    pss_nil)
    pss_never)),?_⟩
  refine ⟨_,rfl,rfl,_,rfl,?_⟩
  rcases hw with ⟨rfl,rfl⟩ | ⟨rfl,rfl⟩
  · refine ite2 (fun _=>?_) (fun c=>absurd (decide_eq_true rfl) c)
    refine ⟨_,rfl,fun x dx nx ndx ne=>⟨x,A,dx,_,rfl,upd_same,oA.cl,oA.nN,rfl,?_⟩⟩
    exact q x _ (made_same nx ndx) ⟨A,dx,upd_same,oA.cl,oA.nN,oA.fl⟩
  · refine ite2 (fun c=>absurd (of_decide_eq_true c) ne_any_all) (fun _=>?_)
    refine ⟨_,rfl,rfl,_,rfl,?_⟩
    refine ite2 (fun _=>?_) (fun c=>absurd (decide_eq_true rfl) c)
    refine fun x dx nx ndx ne=>⟨x,Y,dx,rfl,upd_same,oY.cl,oY.nN,rfl,?_⟩
    exact q x _ (made_same nx ndx) ⟨Y,dx,upd_same,oY.cl,oY.nN,oY.fl⟩
def sp_rule (K:PySem.W.Frag) (ff:Addr):Sp:=fun vs H Q _=>∃ (wd:V) (many n:Int),vs=[wd,.int many]∧(wd=.str "all"∧n=many∨wd=.str "any"∧n=1∨wd=.int n∧1≤n∧n≤many)∧∀ x H',Same H H'→RuleAt K ff H' x n→Q (.ref x) H'
theorem sc_rule_of:FnScope ["word","many"] ["word","many"] (defScope s_rule_of):=⟨rfl,rfl,rfl,by decide +kernel,rfl,by decide +kernel,by decide +kernel⟩
theorem ok_rule_of {S fS ff:Addr} {dS:FuncData} (F:Fun K "rule_of" "rule_of" s_rule_of f fd) (B:Blt mg) (mS:mg "Some"=some (.ref S)) (oS:Own K S fS ff) (GS:FnOk P w K mg base CX0 2 fS dS ["self","need"] (sp_init K)) (bS:Binds K dS ["self","need"] [])
    (C_text:Cal P w K mg base 4 "rule_of_text" ["text","many"] (sp_text K ff)) (C_whole:Cal P w K mg base 1 "is_whole" ["thing"] sp_whole):FnOk P w K mg base CX0 5 f fd ["word","many"] (sp_rule K ff):=by
  refine F.ok sc_rule_of (fun vs H Q E h=>?_) (fun cdv A' outer s H vs Q E hr h=>?_)
  · obtain ⟨wd,many,n,rfl,_⟩:=h
    rfl
  obtain ⟨wd,many,n,rfl,hw,q⟩:=h
  have hr3:Room 3 _:=hr.mono (by decide)
  refine ⟨_,(pss_cons (ps_if (pt_val (pe_callB (call_isT "str") rfl B.isinstance_ PyProof.Rows.boot_isinstance (pa_cons (pv 0) (pa_cons (pe_bltn (v:=.ty "str") rfl B.str_ PyProof.Rows.boot_str rfl) pa_nil))))
    (pss_one (ps_ret (pe_fn C_text hr (by decide) rfl (pa_cons (pv 0) (pa_cons (pv 1) pa_nil)))))
    pss_nil)
    (pss_cons (ps_if (PW.pt (pw_and (pt_val (pe_fn C_whole hr (by decide) rfl (pa_cons (pv 0) pa_nil))) (pw_and1 (pt_chain op_le op_le pe_int (pv 0) (pv 1)))))
    (pss_one (ps_ret (pe_make oS.mks GS hr3 rfl mS bS .nil pass0 (pa_cons (pv 0) pa_nil))))
    pss_nil)
    pss_never)),?_⟩
  rcases hw with ⟨rfl,rfl⟩ | ⟨rfl,rfl⟩ | ⟨rfl,h1,h2⟩
  · refine ⟨_,rfl,_,_,_,rfl,.str _,kit_ss K,_,rfl,iteT ?_⟩
    exact ⟨_,rfl,_,rfl,"all",_,_,rfl,.inl ⟨rfl,rfl⟩,q⟩
  · refine ⟨_,rfl,_,_,_,rfl,.str _,kit_ss K,_,rfl,iteT ?_⟩
    exact ⟨_,rfl,_,rfl,"any",_,_,rfl,.inr ⟨rfl,rfl⟩,q⟩
  · refine ⟨_,rfl,_,_,_,rfl,.int _,kit_is K,_,rfl,iteF ?_⟩
    refine ⟨_,rfl,_,rfl,_,rfl,iteT ?_⟩
    refine ⟨_,rfl,_,_,rfl,rfl,_,rfl,?_⟩
    rw [decide_eq_true h1]
    refine iteT ⟨_,rfl,_,_,rfl,rfl,_,rfl,?_⟩
    rw [decide_eq_true h2]
    refine iteT ?_
    refine ⟨_,rfl,fun x dx nx ndx ne=>⟨x,S,dx,_,rfl,upd_same,oS.cl,oS.nN,rfl,?_⟩⟩
    exact q x _ (made_same nx ndx) ⟨S,dx,upd_same,oS.cl,oS.nN,oS.fl⟩
end
end K62.S
namespace K62.S
open PySem L2
section
variable {P:Program} {w:World} {K:PySem.W.Frag} {mg:Str→Option Value} {base:Heap} {f:Addr} {fd:FuncData}
def sp_bellrule (K:PySem.W.Frag) (ff:Addr):Sp:=fun vs H Q _=>∃ (v:V) (b:Bell),vs=[v]∧BellAt H v b∧GoodR b.lis.length b.rule∧∀ x H',Same H H'→RuleAt K ff H' x (wants b)→Q (.ref x) H'
theorem sc_rule_of_bell:FnScope ["bell"] ["bell"] (defScope s_rule_of_bell):=⟨rfl,rfl,rfl,by decide +kernel,rfl,by decide +kernel,by decide +kernel⟩
theorem ok_rule_of_bell {ff:Addr} (F:Fun K "rule_of_bell" "rule_of_bell" s_rule_of_bell f fd) (B:Blt mg) (C_rule_of:Cal P w K mg base 5 "rule_of" ["word","many"] (sp_rule K ff)):FnOk P w K mg base CX0 6 f fd ["bell"] (sp_bellrule K ff):=by
  refine F.ok sc_rule_of_bell (fun vs H Q E h=>?_) (fun cdv A outer s H vs Q E hr h=>?_)
  · obtain ⟨v,b,rfl,_⟩:=h
    rfl
  obtain ⟨v,b,rfl,⟨a,t,ls,rfl,ha,ht,pr⟩,gr,q⟩:=h
  refine ⟨_,(pss_one (ps_ret (pe_fn C_rule_of hr (by decide) rfl (pa_cons (pe_ix ix_tup (pv 0) pe_int (fun _ _=>rfl)) (pa_cons (pe_callB call_len_seq rfl B.len_ PySem.boot_len (pa_cons (pe_ix ix_tup (pv 0) pe_int (fun _ _=>rfl)) pa_nil)) pa_nil))))),?_⟩
  refine ⟨_,rfl,a,_,_,_,rfl,rfl,SqT.of ha,rfl,_,rfl,a,_,_,_,rfl,rfl,SqT.of ha,rfl,t,_,rfl,.inr (SqT.of ht),rwV b.rule,_,wants b,rfl,?_,q⟩
  have hl:=paired_len pr
  rw [hl]
  unfold wants
  cases hr:b.rule with
  | all=>exact .inl ⟨rfl,rfl⟩
  | any=>exact .inr (.inl ⟨rfl,rfl⟩)
  | num n =>
    rw [hr] at gr
    exact .inr (.inr ⟨rfl,gr.1,gr.2⟩)
def sp_comes:Sp:=fun vs H Q _=>∃ (v:V) (l:Lis) (p r:Addr) (before now:List (Option Int)),vs=[v,.ref p,.ref r]∧LisAt H v l∧H p=some (.lst (before.map oV))∧H r=some (.lst (now.map oV))∧l.whom<before.length∧l.whom<now.length∧Q (oV (come before now l)) H
theorem at_oV {bs:List (Option Int)} {i:Nat} {o:Option Int} (h:bs[i]?=some o):atI (bs.map oV) (i:Int)=some (oV o):=atI_nat (by rw [List.getElem?_map,h]; rfl)
theorem sc_comes:FnScope ["listening","before","now","stroke"] ["listening","before","now"] (defScope s_comes):=⟨rfl,rfl,rfl,by decide +kernel,rfl,by decide +kernel,by decide +kernel⟩
theorem ok_comes (F:Fun K "listening_comes" "listening_comes" s_comes f fd):FnOk P w K mg base CX0 1 f fd ["listening","before","now"] sp_comes:=by
  refine F.ok sc_comes (fun vs H Q E h=>?_) (fun cdv A outer s H vs Q E hr h=>?_)
  · obtain ⟨v,l,p,r,before,now,rfl,_⟩:=h
    rfl
  obtain ⟨v,l,p,r,before,now,rfl,⟨a,rfl,ha⟩,hp,hr',h1,h2,q⟩:=h
  refine ⟨_,(pss_cons (ps_set (i:=3) sc_comes.nd rfl (Or.inl rfl) (pe_ifExp (pt_cmpR op_eq (pe_ix ix_tup (pv 0) pe_int (fun _ _=>rfl)) pe_int (nomark _)) (pe_ix ix_list (pv 1) (pe_ix ix_tup (pv 0) pe_int (fun _ _=>rfl)) (fun _ _=>rfl)) (pe_ix ix_list (pv 2) (pe_ix ix_tup (pv 0) pe_int (fun _ _=>rfl)) (fun _ _=>rfl))))
    (pss_one (ps_ret (pe_ifExp (pt_cmpR op_isN (pv 3) pe_non (nomark _)) pe_non (pe_op op_add (pv 3) (pe_ix ix_tup (pv 0) pe_int (fun _ _=>rfl))))))),?_⟩
  refine ⟨_,rfl,a,_,_,_,rfl,rfl,SqT.of ha,rfl,rfl,_,rfl,?_⟩
  have e1:=List.getElem?_eq_getElem h1
  have e2:=List.getElem?_eq_getElem h2
  have hx:=SqT.of (K:=K) ha
  cases hb:l.back with
  | true =>
    refine ite2 (fun _=>?_) (fun c=>absurd rfl c)
    refine ⟨_,rfl,_,rfl,a,_,_,_,rfl,rfl,hx,rfl,p,_,_,_,rfl,rfl,SqL.of hp,at_oV e1,?_⟩
    have hc:come before now l=(before[l.whom]).map (·+l.beats):=by
      unfold come
      rw [hb,if_pos rfl,e1]
      rfl
    rw [hc] at q
    cases ho:before[l.whom] with
    | none =>
      rw [ho] at q
      exact ⟨_,rfl,rfl,_,rfl,iteT q⟩
    | some i =>
      rw [ho] at q
      exact ⟨_,rfl,rfl,_,rfl,iteF ⟨_,rfl,_,rfl,a,_,_,_,rfl,rfl,hx,rfl,_,_,rfl,rfl,q⟩⟩
  | false =>
    refine ite2 (fun c=>absurd c (by decide)) (fun _=>?_)
    refine ⟨_,rfl,_,rfl,a,_,_,_,rfl,rfl,hx,rfl,r,_,_,_,rfl,rfl,SqL.of hr',at_oV e2,?_⟩
    have hc:come before now l=(now[l.whom]).map (·+l.beats):=by
      unfold come
      rw [hb,if_neg (by decide),e2]
      rfl
    rw [hc] at q
    cases ho:now[l.whom] with
    | none =>
      rw [ho] at q
      exact ⟨_,rfl,rfl,_,rfl,iteT q⟩
    | some i =>
      rw [ho] at q
      exact ⟨_,rfl,rfl,_,rfl,iteF ⟨_,rfl,_,rfl,a,_,_,_,rfl,rfl,hx,rfl,_,_,rfl,rfl,q⟩⟩
end
end K62.S
namespace K62.S
open PySem L2
def RuleV (K:PySem.W.Frag) (ff:Addr) (H:Hp) (v:V) (b:Bell):Prop:=∃ x,v=.ref x∧RuleAt K ff H x (wants b)
def RulesAt (K:PySem.W.Frag) (ff:Addr) (H:Hp) (r:Addr) (c:List Bell):Prop:=∃ rs,H r=some (.lst rs)∧Paired (RuleV K ff H) rs c
theorem RuleV.same {K:PySem.W.Frag} {ff:Addr} {H H':Hp} {v:V} {b:Bell} (s:Same H H') (h:RuleV K ff H v b):RuleV K ff H' v b:=by
  obtain ⟨x,e,q⟩:=h
  exact ⟨x,e,q.same s⟩
theorem RulesAt.same {K:PySem.W.Frag} {ff:Addr} {H H':Hp} {r:Addr} {c:List Bell} (s:Same H H') (h:RulesAt K ff H r c):RulesAt K ff H' r c:=by
  obtain ⟨rs,e,q⟩:=h
  exact ⟨rs,s _ _ e,paired_imp (fun _ _ z=>z.same s) q⟩
def Fine (c:List Bell):Prop:=c.length≤6∧∀ (k:Nat) b,c[k]?=some b→1≤b.lis.length∧b.lis.length≤8∧GoodR b.lis.length b.rule∧∀ l∈b.lis,l.whom<c.length∧1≤l.beats
theorem Fine.slow {c:List Bell} (h:Fine c):Slow c:=fun k b hb l hl=>((h.2 k b hb).2.2.2 l hl).2
theorem wants_pos {b:Bell} (h1:1≤b.lis.length) (h:GoodR b.lis.length b.rule):1≤wants b:=by
  unfold wants
  cases hr:b.rule with
  | all=>show (1:Int)≤(b.lis.length:Int); omega
  | any=>exact Int.le_refl 1
  | num n=>rw [hr] at h; exact h.1
def Best (c:List Bell) (before now:List (Option Int)) (H:Hp) (i:Nat) (v:V):Prop :=
  (v=.non∧∀ (k:Nat) b,k<i→c[k]?=some b→now[k]?=some none→Due (comesOf b before now) (wants b) none)∨
  ∃ (T:Addr) (beat:Int) (k:Nat) (b:Bell),v=.ref T∧H T=some (.tup [.int beat,.int (k:Int)])∧c[k]?=some b∧now[k]?=some none∧Due (comesOf b before now) (wants b) (some beat)∧
    ∀ (j:Nat) b' u,j<i→c[j]?=some b'→now[j]?=some none→Due (comesOf b' before now) (wants b') (some u)→beat≤u
theorem Best.same {c:List Bell} {before now:List (Option Int)} {H H':Hp} {i:Nat} {v:V} (s:Same H H') (h:Best c before now H i v):Best c before now H' i v:=by
  rcases h with h | ⟨T,beat,k,b,e,hT,r⟩
  · exact .inl h
  · exact .inr ⟨T,beat,k,b,e,s _ _ hT,r⟩
theorem Best.skip {c:List Bell} {before now:List (Option Int)} {H:Hp} {i:Nat} {v:V} {u:Int} (h:Best c before now H i v) (hn:now[i]?=some (some u)):Best c before now H (i+1) v:=by
  rcases h with ⟨e,h⟩ | ⟨T,beat,k,b,e,hT,h1,h2,h3,h4⟩
  · refine .inl ⟨e,fun k b hk hb hz=>?_⟩
    rcases Nat.lt_or_ge k i with c1 | c1
    · exact h k b c1 hb hz
    · have ek:k=i:=by omega
      rw [ek,hn] at hz
      cases hz
  · refine .inr ⟨T,beat,k,b,e,hT,h1,h2,h3,fun j b' u' hj hb hz hd=>?_⟩
    rcases Nat.lt_or_ge j i with c1 | c1
    · exact h4 j b' u' c1 hb hz hd
    · have ek:j=i:=by omega
      rw [ek,hn] at hz
      cases hz
theorem Best.late {c:List Bell} {before now:List (Option Int)} {H:Hp} {i:Nat} {v:V} {b:Bell} (h:Best c before now H i v) (hb:c[i]?=some b) (hd:Due (comesOf b before now) (wants b) none):Best c before now H (i+1) v:=by
  rcases h with ⟨e,h⟩ | ⟨T,beat,k,b1,e,hT,h1,h2,h3,h4⟩
  · refine .inl ⟨e,fun k b1 hk hb1 hz=>?_⟩
    rcases Nat.lt_or_ge k i with c1 | c1
    · exact h k b1 c1 hb1 hz
    · obtain rfl:k=i:=by omega
      rw [hb] at hb1
      cases hb1
      exact hd
  · refine .inr ⟨T,beat,k,b1,e,hT,h1,h2,h3,fun j b' u' hj hb1 hz hd1=>?_⟩
    rcases Nat.lt_or_ge j i with c1 | c1
    · exact h4 j b' u' c1 hb1 hz hd1
    · obtain rfl:j=i:=by omega
      rw [hb] at hb1
      cases hb1
      cases due_unique hd hd1
theorem Best.take {c:List Bell} {before now:List (Option Int)} {H:Hp} {i:Nat} {b:Bell} {u:Int} {T:Addr} (h:∀ (j:Nat) b' v,j<i→c[j]?=some b'→now[j]?=some none→Due (comesOf b' before now) (wants b') (some v)→u≤v) (hT:H T=some (.tup [.int u,.int (i:Int)]))
    (hb:c[i]?=some b) (hn:now[i]?=some none) (hd:Due (comesOf b before now) (wants b) (some u)):Best c before now H (i+1) (.ref T):=by
  refine .inr ⟨T,u,i,b,rfl,hT,hb,hn,hd,fun j b' v hj hb' hz hd'=>?_⟩
  rcases Nat.lt_or_ge j i with c1 | c1
  · exact h j b' v c1 hb' hz hd'
  · obtain rfl:j=i:=by omega
    rw [hb] at hb'
    cases hb'
    have:=Option.some.inj (due_unique hd hd')
    omega
section
variable {P:Program} {w:World} {K:PySem.W.Frag} {mg:Str→Option Value} {base:Heap} {f:Addr} {fd:FuncData}
def sp_found (K:PySem.W.Frag) (ff:Addr):Sp:=fun vs H Q _=>∃ (ch:V) (c:List Bell) (r p n:Addr) (before now:List (Option Int)),vs=[ch,.ref r,.ref p,.ref n]∧ChoirAt H ch c∧Fine c∧RulesAt K ff H r c∧H p=some (.lst (before.map oV))∧H n=some (.lst (now.map oV))∧before.length=c.length∧now.length=c.length∧
  ∀ (H':Hp) (v:V),Same H H'→Best c before now H' c.length v→Q v H'
theorem sc_found:FnScope ["choir","rules","before","now","best","number","bell","beat"] ["choir","rules","before","now"] (defScope s_found):=⟨rfl,rfl,rfl,by decide +kernel,rfl,by decide +kernel,by decide +kernel⟩
theorem ok_found {ff:Addr} {df:FuncData} (F:Fun K "next_found" "next_found" s_found f fd) (B:Blt mg) (C_comes:Cal P w K mg base 1 "listening_comes" ["listening","before","now"] sp_comes) (GF:FnOk P w K mg base CX0 1 ff df ["self","beats"] (sp_falls K)) (bF:Binds K df ["self","beats"] []):FnOk P w K mg base CX0 2 f fd ["choir","rules","before","now"] (sp_found K ff):=by
  refine F.ok sc_found (fun vs H Q E h=>?_) (fun cdv A outer s H vs Q E hr h=>?_)
  · obtain ⟨ch,c,r,p,n,before,now,rfl,_⟩:=h
    rfl
  obtain ⟨ch,c,r,p,n,before,now,rfl,⟨a,bs,rfl,ha,prb⟩,fc,⟨rs,hR,prr⟩,hp,hn,lb,ln,q⟩:=h
  have hr1:Room 1 _:=hr.mono (by decide)
  refine ⟨_,(pss_cons (ps_set (i:=4) sc_found.nd rfl (Or.inl rfl) pe_non)
    (pss_cons (ps_for PassesOwn.never rfl (pi_enumT rfl B.enumerate_ (pa_cons (pv 0) pa_nil)) (pg_tup rfl (pgs_cons (pg_name (i:=5) sc_found.nd rfl (Or.inl rfl)) (pgs_cons (pg_name (i:=6) sc_found.nd rfl (Or.inl rfl)) pgs_nil)))
    (pss_one (ps_if (pt_cmpR op_isN (pe_ix ix_list (pv 3) (pv 5) (fun _ _=>rfl)) pe_non (nomark _))
    (pss_cons (ps_set (i:=7) sc_found.nd rfl (Or.inl rfl) (pe_methD (pe_ix ix_list (pv 1) (pv 5) (fun _ _=>rfl)) GF hr1 bF .nil pass0 (pa_cons (pe_comp ["listening"] ["before","now"] [2,3] rfl (pi_tup (pe_ix ix_tup (pv 6) pe_int (fun _ _=>rfl))) (fun _ _ _ _ _=>(pg_name (i:=0) (show List.Nodup [("listening":Str),("before":Str),("now":Str)] by decide +kernel) rfl (Or.inl rfl))) (fun _ _ _ _ _=>pts_nil) (fun _ _ _ _ _=>(pe_fn C_comes hr (by decide) rfl (pa_cons (pv 0) (pa_cons (pv 1) (pa_cons (pv 2) pa_nil)))))) pa_nil)))
    (pss_one (ps_if (PW.pt (pw_and (pt_cmpR op_notN (pv 7) pe_non (nomark _)) (pw_and1 (PW.pt (pw_or (pt_cmpR op_isN (pv 4) pe_non (nomark _)) (pw_or1 (pt_cmpR op_lt (pv 7) (pe_ix ix_tup (pv 4) pe_int (fun _ _=>rfl)) (nomark _))))))))
    (pss_one (ps_set (i:=4) sc_found.nd rfl (Or.inl rfl) (pe_tup (pa_cons (pv 7) (pa_cons (pv 5) pa_nil)))))
    pss_nil)))
    pss_nil)))
    (pss_one (ps_ret (pv 4))))),?_⟩
  have hbl:=paired_len prb
  refine ⟨_,rfl,a,rfl,⟨_,SqT.of ha⟩,for_enumT (K:=K) (a:=a) (xs:=bs) (fun i σ H2=>∃ (v:V) (o5 o6 o7:Option V),σ=[some (.ref a),some (.ref r),some (.ref p),some (.ref n),some v,o5,o6,o7]∧Same H H2∧Best c before now H2 i v)
    ⟨.non,none,none,none,rfl,.refl H,.inl ⟨rfl,fun k b hk=>absurd hk (Nat.not_lt_zero k)⟩⟩ (fun i σ H2 _ ⟨_,_,_,_,_,s2,_⟩=>SqT.of (s2 _ _ ha)) ?_ ?_⟩
  · rintro i y σ H2 T hi ⟨v,o5,o6,o7,rfl,s2,hbest⟩ hT
    obtain ⟨b,hb,⟨x,t,ls,rfl,hx,ht,prl⟩⟩:=paired_at prb hi
    have hic:i<c.length:=(List.getElem?_eq_some_iff.mp hb).1
    obtain ⟨rv,hrv,⟨ro,rfl,hro⟩⟩:=paired_at' prr hb
    have s3:Same H2 (upd H2 T (.tup [.int (i:Int),.ref x])):=same_new hT _
    have s23:=s2.trans s3
    have eT:(upd H2 T (.tup [.int (i:Int),.ref x])) T=some (.tup [.int (i:Int),.ref x]):=upd_same
    refine ⟨T,_,rfl,SqT.of eT,rfl,_,_,rfl,_,_,rfl,rfl,?_⟩
    have hbest3:=hbest.same s3
    generalize upd H2 T (.tup [.int (i:Int),.ref x])=H3 at s3 s23 eT hbest3 ⊢
    have en:=List.getElem?_eq_getElem (show i<now.length by omega)
    refine ⟨_,rfl,_,rfl,n,_,_,_,rfl,rfl,SqL.of (s23 _ _ hn),at_oV en,rfl,_,rfl,?_⟩
    cases ho:now[i]'(by omega) with
    | some u =>
      rw [ho] at en
      exact iteF ⟨v,_,_,_,rfl,s23,hbest3.skip en⟩
    | none =>
      rw [ho] at en
      refine iteT ?_
      obtain ⟨C,dx,hro',cl,na,mt⟩:=hro.same s23
      obtain ⟨g1,g8,gr,gl⟩:=fc.2 i b hb
      refine ⟨_,rfl,_,rfl,r,_,_,_,rfl,rfl,SqL.of (s23 _ _ hR),atI_nat hrv,C,ro,dx,_,rfl,hro',cl,mt,rfl,?_⟩
      refine ⟨_,rfl,x,_,_,_,rfl,rfl,SqT.of (s23 _ _ hx),rfl,t,rfl,⟨_,SqT.of (s23 _ _ ht)⟩,fun D hD=>?_⟩
      have hll:=paired_len prl
      refine comp_tup (K:=K) (a:=t) (xs:=ls) (fun j ys H4=>Same H3 H4∧ys=((b.lis.take j).map (come before now)).map oV) ⟨same_new hD _,rfl⟩ (fun j ys H4 _ ⟨z,_⟩=>SqT.of (z _ _ (s23 _ _ ht))) ?_ ?_
      · rintro j y ys H4 hj ⟨s4,rfl⟩ hD4
        obtain ⟨l,hl,hla⟩:=paired_at prl hj
        have s04:=s23.trans s4
        obtain ⟨w1,w2⟩:=gl l (List.mem_of_getElem? hl)
        refine ⟨rfl,tTrue_ite ?_⟩
        refine ⟨_,rfl,_,rfl,_,rfl,y,l,p,n,before,now,rfl,hla.mono (Same.tup s04),s04 _ _ hp,s04 _ _ hn,by omega,by omega,?_⟩
        refine ⟨_,hD4,?_,_,⟨s4.upd hD _,rfl⟩,?_⟩
        · rw [List.length_map,List.length_map,List.length_take]
          exact small1000 (by omega)
        · rw [take_snoc hl,List.map_append,List.map_append]
          exact upd_same
      · rintro ys H4 ⟨s4,rfl⟩ hD4
        rw [hll,List.take_length] at hD4
        have s04:=s23.trans s4
        refine ⟨ro,D,C,dx,wants b,b.lis.map (come before now),rfl,s4 _ _ hro',cl,na,hD4,by rw [List.length_map]; exact g8,wants_pos g1 gr,fun H5 o s5 hd=>?_⟩
        have s35:=s4.trans s5
        have s05:=s23.trans s35
        have hbest5:=hbest3.same s35
        cases o with
        | none=>exact ⟨_,rfl,rfl,_,rfl,iteF (iteF ⟨v,_,_,_,rfl,s05,hbest5.late hb hd⟩)⟩
        | some u =>
          refine ⟨_,rfl,rfl,_,rfl,iteT ?_⟩
          rcases hbest5 with ⟨rfl,hno⟩ | ⟨T2,beat,k,b2,rfl,hT2,h1,h2,h3,h4⟩
          · refine ⟨_,rfl,rfl,_,rfl,iteT (iteT ?_)⟩
            refine ⟨_,rfl,_,rfl,(by show 2≤sizeLine; decide),fun l hl=>?_⟩
            refine ⟨_,_,_,_,rfl,s05.trans (same_new hl _),Best.take (fun j b' z hj hb' hz hd'=>?_) upd_same hb en hd⟩
            cases due_unique (hno j b' hj hb' hz) hd'
          · refine ⟨_,rfl,rfl,_,rfl,iteF ?_⟩
            refine ⟨_,rfl,_,rfl,T2,_,_,_,rfl,rfl,SqT.of hT2,rfl,_,_,rfl,rfl,_,rfl,?_⟩
            refine ite2 (fun cc=>?_) (fun cc=>?_)
            · have hlt:u<beat:=of_decide_eq_true cc
              refine ⟨_,rfl,_,rfl,(by show 2≤sizeLine; decide),fun l hl=>?_⟩
              refine ⟨_,_,_,_,rfl,s05.trans (same_new hl _),Best.take (fun j b' z hj hb' hz hd'=>?_) upd_same hb en hd⟩
              have:=h4 j b' z hj hb' hz hd'
              omega
            · have hge:¬ u<beat:=of_decide_eq_false (Bool.eq_false_iff.mpr cc)
              refine ⟨_,_,_,_,rfl,s05,.inr ⟨T2,beat,k,b2,rfl,hT2,h1,h2,h3,fun j b' z hj hb' hz hd'=>?_⟩⟩
              rcases Nat.lt_or_ge j i with c1 | c1
              · exact h4 j b' z c1 hb' hz hd'
              · obtain rfl:j=i:=by omega
                rw [hb] at hb'
                cases hb'
                have:=Option.some.inj (due_unique hd hd')
                omega
  · rintro σ H2 ⟨v,o5,o6,o7,rfl,s2,hbest⟩
    rw [hbl] at hbest
    exact ⟨_,rfl,q H2 v s2 hbest⟩
end
end K62.S
namespace K62.S
open PySem L2
def isNon:V→Bool
  | .non=>true
  | _=>false
theorem countNon (now:List (Option Int)):(now.map oV).countP isNon=now.countP (·.isNone):=by
  rw [List.countP_map]
  refine List.countP_congr fun o _=>?_
  cases o <;> rfl
theorem count_set {now:List (Option Int)} {k:Nat} {u:Int} (h:now[k]?=some none):(now.set k (some u)).countP (·.isNone)<now.countP (·.isNone):=by
  induction now generalizing k with
  | nil=>cases h
  | cons o r ih =>
    cases k with
    | zero =>
      have e:o=none:=by simpa using h
      subst e
      simp
    | succ k =>
      have:=ih (k:=k) (by simpa using h)
      simp only [List.set_cons_succ,List.countP_cons]
      omega
theorem set_oV (now:List (Option Int)) (k:Nat) (u:Int):(now.map oV).set k (.int u)=(now.set k (some u)).map oV:=by
  rw [List.map_set]
  rfl
def left (n:Addr) (H:Hp):Nat:=match H n with
  | some (.lst xs)=>xs.countP isNon
  | _=>0
theorem left_at {n:Addr} {H:Hp} {now:List (Option Int)} (h:H n=some (.lst (now.map oV))):left n H=now.countP (·.isNone):=by
  unfold left
  rw [h]
  exact countNon now
section
variable {P:Program} {w:World} {K:PySem.W.Frag} {mg:Str→Option Value} {base:Heap} {f:Addr} {fd:FuncData}
def sp_behind (K:PySem.W.Frag) (ff:Addr):Sp:=fun vs H Q _=>∃ (ch:V) (c:List Bell) (r p:Addr) (before:List (Option Int)),vs=[ch,.ref r,.ref p]∧ChoirAt H ch c∧Fine c∧RulesAt K ff H r c∧H p=some (.lst (before.map oV))∧before.length=c.length∧
  ∀ (H':Hp) (n:Addr) (now:List (Option Int)),Same H H'→H n=none→H' n=some (.lst (now.map oV))→Fix c before now→Q (.ref n) H'
theorem sc_behind:FnScope ["choir","rules","before","now","found"] ["choir","rules","before"] (defScope s_behind):=⟨rfl,rfl,rfl,by decide +kernel,rfl,by decide +kernel,by decide +kernel⟩
theorem ok_behind {ff:Addr} (F:Fun K "strokes_behind" "strokes_behind" s_behind f fd) (C_found:Cal P w K mg base 2 "next_found" ["choir","rules","before","now"] (sp_found K ff)):FnOk P w K mg base CX0 3 f fd ["choir","rules","before"] (sp_behind K ff):=by
  refine F.ok sc_behind (fun vs H Q E h=>?_) (fun cdv A outer s H vs Q E hr h=>?_)
  · obtain ⟨ch,c,r,p,before,rfl,_⟩:=h
    rfl
  obtain ⟨ch,c,r,p,before,rfl,hch,fc,hru,hp,lb,q⟩:=h
  obtain ⟨a,bs,rfl,ha,prb⟩:=id hch
  refine ⟨_,(pss_cons (ps_setComp (i:=3) ["bell"] [] [] rfl sc_behind.nd rfl (Or.inl rfl) (pi_tup (pv 0)) (fun _ _ _ _ _=>(pg_name (i:=0) (show List.Nodup [("bell":Str)] by decide +kernel) rfl (Or.inl rfl))) (fun _ _ _ _ _=>pts_nil) (fun _ _ _ _ _=>pe_non))
    (pss_cons (ps_set (i:=4) sc_behind.nd rfl (Or.inl rfl) (pe_fn C_found hr (by decide) rfl (pa_cons (pv 0) (pa_cons (pv 1) (pa_cons (pv 2) (pa_cons (pv 3) pa_nil))))))
    (pss_cons (ps_while PassesOwn.never (pt_cmpR op_notN (pv 4) pe_non (nomark _))
    (pss_cons (ps_asg (pe_ix ix_tup (pv 4) pe_int (fun _ _=>rfl)) (pg_sub (pv 3) (pe_ix ix_tup (pv 4) pe_int (fun _ _=>rfl)) set_list))
    (pss_one (ps_set (i:=4) sc_behind.nd rfl (Or.inl rfl) (pe_fn C_found hr (by decide) rfl (pa_cons (pv 0) (pa_cons (pv 1) (pa_cons (pv 2) (pa_cons (pv 3) pa_nil)))))))))
    (pss_one (ps_ret (pv 3)))))),?_⟩
  have hbl:=paired_len prb
  refine ⟨_,rfl,a,rfl,⟨_,SqT.of ha⟩,fun n hn=>?_⟩
  refine comp_tup (K:=K) (a:=a) (xs:=bs) (fun j ys H2=>Same H H2∧ys=((c.take j).map fun _=>none).map oV) ⟨same_new hn _,rfl⟩ (fun j ys H2 _ ⟨z,_⟩=>SqT.of (z _ _ ha)) ?_ ?_
  · rintro j y ys H2 hj ⟨s2,rfl⟩ hD
    obtain ⟨b,hb,_⟩:=paired_at prb hj
    have hj6:j<c.length:=(List.getElem?_eq_some_iff.mp hb).1
    have:=fc.1
    refine ⟨rfl,tTrue_ite ?_⟩
    refine ⟨_,hD,?_,_,⟨s2.upd hn _,rfl⟩,?_⟩
    · rw [List.length_map,List.length_map,List.length_take]
      exact small1000 (by omega)
    · rw [take_snoc hb,List.map_append,List.map_append]
      exact upd_same
  · rintro ys H2 ⟨s2,rfl⟩ hD
    rw [hbl,List.take_length] at hD
    refine ⟨_,rfl,_,rfl,_,rfl,_,rfl,.ref a,c,r,p,n,before,c.map fun _=>none,rfl,hch.mono (Same.tup s2),fc,hru.same s2,s2 _ _ hp,hD,lb,List.length_map _,fun H3 v s3 hbest=>?_⟩
    refine while_by (fun σ H4=>∃ (v:V) (now:List (Option Int)),σ=[some (.ref a),some (.ref r),some (.ref p),some (.ref n),some v]∧Same H H4∧H4 n=some (.lst (now.map oV))∧Going c before now∧Best c before now H4 c.length v) (fun _ H4=>left n H4) ⟨v,_,rfl,s2.trans s3,s3 _ _ hD,going_start c before,hbest⟩ ?_ ?_
    · rintro σ H4 ⟨v,now,rfl,s4,hn4,go,hbest⟩
      rcases hbest with ⟨rfl,hno⟩ | ⟨T,beat,k,b,rfl,hT,hb,hk,hd,hl⟩
      · refine ⟨_,rfl,rfl,_,rfl,iteF ?_⟩
        exact ⟨_,rfl,q H4 n now s4 hn hn4 (going_end go fun k b hb hz=>hno k b (List.getElem?_eq_some_iff.mp hb).1 hb hz)⟩
      · have hkc:k<c.length:=(List.getElem?_eq_some_iff.mp hb).1
        have hkn:k<now.length:=(List.getElem?_eq_some_iff.mp hk).1
        refine ⟨_,rfl,rfl,_,rfl,iteT ?_⟩
        refine ⟨_,rfl,T,_,_,_,rfl,rfl,SqT.of hT,rfl,_,rfl,_,rfl,T,_,_,_,rfl,rfl,SqT.of hT,rfl,n,_,_,k,rfl,rfl,hn4,?_,?_⟩
        · unfold ixN
          rw [if_pos (by omega),List.length_map,if_pos (by omega),Int.toNat_natCast]
        rw [set_oV]
        have s5:=s4.upd hn (.lst ((now.set k (some beat)).map oV))
        have hn5:=upd_same (H:=H4) (a:=n) (o:=.lst ((now.set k (some beat)).map oV))
        have go5:=going_on fc.slow go hb hk hd fun j b' u hj hz hd'=>hl j b' u (List.getElem?_eq_some_iff.mp hj).1 hj hz hd'
        have l4:=left_at hn4
        generalize upd H4 n (.lst ((now.set k (some beat)).map oV))=H5 at s5 hn5 ⊢
        refine ⟨_,rfl,_,rfl,_,rfl,_,rfl,.ref a,c,r,p,n,before,now.set k (some beat),rfl,hch.mono (Same.tup s5),fc,hru.same s5,s5 _ _ hp,hn5,lb,by rw [List.length_set]; exact go.len,fun H6 v6 s6 hbest6=>?_⟩
        refine ⟨⟨v6,_,rfl,s5.trans s6,s6 _ _ hn5,go5,hbest6⟩,?_⟩
        show left n H6<left n H4
        rw [l4,left_at (s6 _ _ hn5)]
        exact count_set hk
    · rintro σ H4 Q1 Q2 hq ⟨z1,e1,e2,z2,e3,h⟩
      exact ⟨z1,e1,e2,z2,e3,hq _ _ h⟩
end
end K62.S
namespace K62.S
open PySem L2
structure Rows (c:List Bell) (rows:List (List (Option Int))):Prop where
  first:∀ row,rows[0]?=some row→row=c.map fun b=>some b.start
  next:∀ (n:Nat) x y,rows[n]?=some x→rows[n+1]?=some y→Fix c x y
theorem Rows.len {c:List Bell} {rows:List (List (Option Int))} (h:Rows c rows):∀ (n:Nat) x,rows[n]?=some x→x.length=c.length
  | 0,x,e=>by rw [h.first x e,List.length_map]
  | n+1,x,e=>by
    have hn:n<rows.length:=by have:=(List.getElem?_eq_some_iff.mp e).1; omega
    exact (h.next n _ x (List.getElem?_eq_getElem hn) e).1
theorem Rows.snoc {c:List Bell} {rows:List (List (Option Int))} {row:List (Option Int)} (h:Rows c rows) (h0:rows=[]→row=c.map fun b=>some b.start) (h1:∀ x,rows[rows.length - 1]?=some x→0<rows.length→Fix c x row):Rows c (rows++[row]) where
  first:=fun r e=>by
    by_cases hn:rows=[]
    · subst hn
      have:row=r:=by simpa using e
      rw [← this]
      exact h0 rfl
    · have hp:0<rows.length:=List.length_pos_iff.mpr hn
      rw [List.getElem?_append_left hp] at e
      exact h.first r e
  next:=fun n x y ex ey=>by
    have hlt:=(List.getElem?_eq_some_iff.mp ey).1
    rw [List.length_append] at hlt
    have hlt':n+1<rows.length+1:=hlt
    have hn:n<rows.length:=by omega
    rw [List.getElem?_append_left hn] at ex
    by_cases hn1:n+1<rows.length
    · rw [List.getElem?_append_left hn1] at ey
      exact h.next n x y ex ey
    · have e:n+1=rows.length:=by omega
      rw [e,List.getElem?_concat_length] at ey
      cases ey
      exact h1 x (by rw [← e]; exact ex) (by omega)
def RowAt (N:Addr→Prop) (H:Hp) (v:V) (row:List (Option Int)):Prop:=∃ a,v=.ref a∧N a∧H a=some (.lst (row.map oV))
section
variable {P:Program} {w:World} {K:PySem.W.Frag} {mg:Str→Option Value} {base:Heap} {f:Addr} {fd:FuncData}
def sp_strokes:Sp:=fun vs H Q _=>∃ (ch:V) (c:List Bell) (many:Nat),vs=[ch,.int many]∧ChoirAt H ch c∧Fine c∧many≤100000∧
  ∀ (H':Hp) (t:Addr) (told:List V) (rows:List (List (Option Int))),Same H H'→H t=none→H' t=some (.lst told)→Paired (RowAt (fun a=>H a=none∧a≠t) H') told rows→rows.length=many+1→Rows c rows→Q (.ref t) H'
theorem sc_strokes:FnScope ["choir","many","rules","told","n"] ["choir","many"] (defScope s_strokes):=⟨rfl,rfl,rfl,by decide +kernel,rfl,by decide +kernel,by decide +kernel⟩
theorem RowAt.same {N:Addr→Prop} {H H':Hp} {v:V} {row:List (Option Int)} (s:Same H H') (h:RowAt N H v row):RowAt N H' v row:=by
  obtain ⟨a,e,n,q⟩:=h
  exact ⟨a,e,n,s _ _ q⟩
theorem small5 {n:Nat} (h:n≤100002):n<sizeLine:=Nat.lt_of_le_of_lt h (by decide)
theorem ok_strokes {ff:Addr} (F:Fun K "strokes" "strokes" s_strokes f fd) (B:Blt mg) (C_rule_of_bell:Cal P w K mg base 6 "rule_of_bell" ["bell"] (sp_bellrule K ff)) (C_behind:Cal P w K mg base 3 "strokes_behind" ["choir","rules","before"] (sp_behind K ff)):FnOk P w K mg base CX0 7 f fd ["choir","many"] sp_strokes:=by
  refine F.ok sc_strokes (fun vs H Q E h=>?_) (fun cdv A outer s H vs Q E hr h=>?_)
  · obtain ⟨ch,c,many,rfl,_⟩:=h
    rfl
  obtain ⟨ch,c,many,rfl,hch,fc,hm,q⟩:=h
  obtain ⟨a,bs,rfl,ha,prb⟩:=id hch
  refine ⟨_,(pss_cons (ps_setComp (i:=2) ["bell"] [] [] rfl sc_strokes.nd rfl (Or.inl rfl) (pi_tup (pv 0)) (fun _ _ _ _ _=>(pg_name (i:=0) (show List.Nodup [("bell":Str)] by decide +kernel) rfl (Or.inl rfl))) (fun _ _ _ _ _=>pts_nil) (fun _ _ _ _ _=>(pe_fn C_rule_of_bell hr (by decide) rfl (pa_cons (pv 0) pa_nil))))
    (pss_cons (ps_set (i:=3) sc_strokes.nd rfl (Or.inl rfl) (pe_lst pa_nil))
    (pss_cons (ps_for PassesOwn.never rfl (pi_range1 rfl B.range_ (pa_cons (pe_op op_add (pv 1) pe_int) pa_nil)) (pg_name (i:=4) sc_strokes.nd rfl (Or.inl rfl))
    (pss_one (ps_if (pt_cmpR op_eq (pv 4) pe_int (nomark _))
    (pss_one (ps_expr (pe_bm PySem.F.plainAttrs_list PySem.F.slot_list_append PySem.F.type_list_append mt_append (pv 3) (pa_cons (pe_comp ["bell"] [] [] rfl (pi_tup (pv 0)) (fun _ _ _ _ _=>(pg_name (i:=0) (show List.Nodup [("bell":Str)] by decide +kernel) rfl (Or.inl rfl))) (fun _ _ _ _ _=>pts_nil) (fun _ _ _ _ _=>(pe_ix (ix_tupC (K:=K) rfl) (pv 0) pe_int (fun _ _=>rfl)))) pa_nil))))
    (pss_one (ps_expr (pe_bm PySem.F.plainAttrs_list PySem.F.slot_list_append PySem.F.type_list_append mt_append (pv 3) (pa_cons (pe_fn C_behind hr (by decide) rfl (pa_cons (pv 0) (pa_cons (pv 2) (pa_cons (pe_ix ix_list (pv 3) (pe_op op_sub (pv 4) pe_int) (fun _ _=>rfl)) pa_nil)))) pa_nil)))))))
    (pss_one (ps_ret (pv 3)))))),?_⟩
  have hbl:=paired_len prb
  have h6:=fc.1
  refine ⟨_,rfl,a,rfl,⟨_,SqT.of ha⟩,fun r hr0=>?_⟩
  refine comp_tup (K:=K) (a:=a) (xs:=bs) (fun j ys H2=>Same H H2∧Paired (RuleV K ff H2) ys (c.take j)) ⟨same_new hr0 _,.nil⟩ (fun j ys H2 _ ⟨z,_⟩=>SqT.of (z _ _ ha)) ?_ ?_
  · rintro j y ys H2 hj ⟨s2,pr2⟩ hD
    obtain ⟨b,hb,hbv⟩:=paired_at prb hj
    have hj6:j<c.length:=(List.getElem?_eq_some_iff.mp hb).1
    refine ⟨rfl,tTrue_ite ?_⟩
    refine ⟨_,rfl,y,b,rfl,hbv.mono (Same.tup s2),(fc.2 j b hb).2.2.1,fun x H3 s3 hx=>?_⟩
    have hD3:=s3 _ _ hD
    refine ⟨_,hD3,?_,_,⟨(s2.trans s3).upd hr0 _,?_⟩,upd_same⟩
    · rw [paired_len pr2,List.length_take]
      exact small1000 (by omega)
    · have up:∀ (v:V) (b:Bell),RuleV K ff H3 v b→RuleV K ff (upd H3 r (.lst (ys++[.ref x]))) v b:=by
        rintro v b ⟨x,rfl,C,dx,hx,z⟩
        refine ⟨x,rfl,C,dx,?_,z⟩
        rw [upd_ne (ne_of hx hD3 (by intro z; cases z))]
        exact hx
      rw [take_snoc hb]
      exact paired_snoc (up _ _ ⟨x,rfl,hx⟩) (paired_imp (fun _ _ z=>up _ _ (z.same s3)) pr2)
  · rintro ys H2 ⟨s2,pr2⟩ hD
    rw [hbl,List.take_length] at pr2
    refine ⟨(by show 0≤sizeLine; decide),fun t ht=>?_⟩
    have nt:H t=none:=s2.free ht
    have hru2:RulesAt K ff H2 r c:=⟨ys,hD,pr2⟩
    have s3:Same H2 (upd H2 t (.lst [])):=same_new ht _
    have hrt:r≠t:=ne_of_none hD ht
    refine ⟨_,rfl,_,_,rfl,rfl,((many+1:Nat):Int),?_,by omega,by omega,?_⟩
    · rfl
    refine for_range (lo:=0) (n:=(((many+1:Nat):Int)).toNat) (fun i σ H3=>∃ (told:List V) (rows:List (List (Option Int))) (o4:Option V),σ=[some (.ref a),some (.int many),some (.ref r),some (.ref t),o4]∧Same H H3∧RulesAt K ff H3 r c∧H3 t=some (.lst told)∧
        Paired (RowAt (fun a=>H a=none∧a≠t) H3) told rows∧rows.length=i∧Rows c rows)
      ⟨[],[],none,rfl,s2.trans s3,hru2.same s3,upd_same,.nil,rfl,⟨fun _ e=>(nomatch e),fun _ _ _ e=>(nomatch e)⟩⟩ ?_ ?_
    · rintro i σ H3 hi ⟨told,rows,o4,rfl,s03,hru,ht3,prt,hri,hrows⟩
      have hti:=(paired_len prt).trans hri
      rw [Int.zero_add]
      have step:∀ (H4:Hp) (n:Addr) (now:List (Option Int)),Same H3 H4→H3 n=none→H4 n=some (.lst (now.map oV))→Rows c (rows++[now])→Same H (upd H4 t (.lst (told++[.ref n])))∧RulesAt K ff (upd H4 t (.lst (told++[.ref n]))) r c∧Paired (RowAt (fun a=>H a=none∧a≠t) (upd H4 t (.lst (told++[.ref n])))) (told++[.ref n]) (rows++[now]):=fun H4 n now s4 hn hn4 hrn=>by
        have hnt:n≠t:=fun e=>by rw [e,ht3] at hn; cases hn
        have ht4:=s4 _ _ ht3
        have up:∀ (v:V) (row:List (Option Int)),RowAt (fun a=>H a=none∧a≠t) H4 v row→RowAt (fun a=>H a=none∧a≠t) (upd H4 t (.lst (told++[.ref n]))) v row:=by
          rintro v row ⟨x,e,⟨x1,x2⟩,x3⟩
          exact ⟨x,e,⟨x1,x2⟩,by rw [upd_ne x2]; exact x3⟩
        refine ⟨(s03.trans s4).upd nt _,?_,paired_snoc (up _ _ ⟨n,rfl,⟨s03.free hn,hnt⟩,hn4⟩) (paired_imp (fun _ _ z=>up _ _ (z.same s4)) prt)⟩
        obtain ⟨rs,e,pr⟩:=hru.same s4
        refine ⟨rs,by rw [upd_ne hrt]; exact e,paired_imp ?_ pr⟩
        rintro v b ⟨x,rfl,C,dx,hx,z⟩
        refine ⟨x,rfl,C,dx,?_,z⟩
        rw [upd_ne (ne_of hx ht4 (by intro z; cases z))]
        exact hx
      refine ⟨_,rfl,rfl,_,rfl,?_⟩
      refine ite2 (fun cc=>?_) (fun cc=>?_)
      · have hi0:i=0:=by
          have e:V.int (i:Int)=V.int 0:=of_decide_eq_true cc
          injection e with e
          omega
        refine ⟨_,rfl,.inl ⟨rfl,_,SqL.of ht3⟩,_,rfl,a,rfl,⟨_,SqT.of (s03 _ _ ha)⟩,fun D hD=>?_⟩
        refine comp_tup (K:=K) (a:=a) (xs:=bs) (fun j ys H4=>Same H3 H4∧ys=((c.take j).map fun b=>some b.start).map oV) ⟨same_new hD _,rfl⟩ (fun j ys H4 _ ⟨z,_⟩=>SqT.of ((s03.trans z) _ _ ha)) ?_ ?_
        · rintro j y ys H4 hj ⟨s4,rfl⟩ hD4
          obtain ⟨b,hb,⟨x,tt,ls,rfl,hx,_⟩⟩:=paired_at prb hj
          have hj6:j<c.length:=(List.getElem?_eq_some_iff.mp hb).1
          refine ⟨rfl,tTrue_ite ?_⟩
          refine ⟨_,rfl,x,_,_,_,rfl,rfl,SqT.of ((s03.trans s4) _ _ hx),rfl,_,hD4,?_,_,⟨s4.upd hD _,rfl⟩,?_⟩
          · rw [List.length_map,List.length_map,List.length_take]
            exact small1000 (by omega)
          · rw [take_snoc hb,List.map_append,List.map_append]
            exact upd_same
        · rintro ys H4 ⟨s4,rfl⟩ hD4
          rw [hbl,List.take_length] at hD4
          have hr0:rows=[]:=List.eq_nil_of_length_eq_zero (by omega)
          have hrn:Rows c (rows++[c.map fun b=>some b.start]):=hrows.snoc (fun _=>rfl) (fun x _ h=>by rw [hr0] at h; cases h)
          obtain ⟨z1,z2,z3⟩:=step H4 D _ s4 hD hD4 hrn
          exact ⟨t,_,_,rfl,rfl,s4 _ _ ht3,by rw [hti]; exact small5 (by omega),_,_,_,rfl,z1,z2,upd_same,z3,by rw [List.length_append,hri]; rfl,hrn⟩
      · have hi1:1≤i:=by
          rcases Nat.eq_zero_or_pos i with e | e
          · exact absurd (by rw [e]; rfl) cc
          · exact e
        have hv:=List.getElem?_eq_getElem (show i - 1<told.length by omega)
        obtain ⟨row,hrow,⟨p,ep,_,hp3⟩⟩:=paired_at prt hv
        have hat:atI told ((i:Int) - 1)=some (.ref p):=by
          have e:(i:Int) - 1=((i - 1:Nat):Int):=by omega
          rw [e,← ep]
          exact atI_nat hv
        refine ⟨_,rfl,.inl ⟨rfl,_,SqL.of ht3⟩,_,rfl,_,rfl,_,rfl,_,rfl,_,_,rfl,rfl,t,_,_,_,rfl,rfl,SqL.of ht3,hat,.ref a,c,r,p,row,rfl,hch.mono (Same.tup s03),fc,hru,hp3,hrows.len _ _ hrow,fun H4 n now s4 hn hn4 hfix=>?_⟩
        have hrn:Rows c (rows++[now]):=hrows.snoc (fun e=>by rw [e] at hri; exact absurd hri.symm (by show ¬ i=0; omega)) (fun x hx _=>by rw [hri,hrow] at hx; cases hx; exact hfix)
        obtain ⟨z1,z2,z3⟩:=step H4 n now s4 hn hn4 hrn
        exact ⟨t,_,_,rfl,rfl,s4 _ _ ht3,by rw [hti]; exact small5 (by omega),_,_,_,rfl,z1,z2,upd_same,z3,by rw [List.length_append,hri]; rfl,hrn⟩
    · rintro σ H3 ⟨told,rows,o4,rfl,s03,hru,ht3,prt,hri,hrows⟩
      exact ⟨_,rfl,q H3 t told rows s03 nt ht3 prt (by rw [hri]; omega) hrows⟩
end
end K62.S
namespace K62.S
open PySem L2
def LQ (l0 l1:Lis):Prop:=l0.whom=l1.whom∧l0.back=l1.back∧l0.beats≤l1.beats
def Quick (c0 c1:List Bell):Prop:=∀ (k:Nat) b1,c1[k]?=some b1→∃ b0,c0[k]?=some b0∧wants b0=wants b1∧Paired LQ b0.lis b1.lis
theorem paired_self {α:Type} {F:α→α→Prop} (h:∀ x,F x x):∀ xs:List α,Paired F xs xs
  | []=>.nil
  | x::r=>.cons (h x) (paired_self h r)
theorem paired_count {α β:Type} {F:α→β→Prop} {p:α→Bool} {q:β→Bool}:∀ {xs:List α} {ys:List β},Paired F xs ys→(∀ x y,x∈xs→y∈ys→F x y→q y=true→p x=true)→ys.countP q≤xs.countP p
  | _,_,.nil,_=>Nat.le_refl _
  | x::xs,y::ys,.cons r t,h=>by
    have ih:=paired_count t fun a b ha hb=>h a b (List.mem_cons_of_mem _ ha) (List.mem_cons_of_mem _ hb)
    rw [List.countP_cons,List.countP_cons]
    have h1:=h x y (by simp) (by simp) r
    by_cases hq:q y=true
    · rw [if_pos hq,if_pos (h1 hq)]
      omega
    · rw [if_neg hq]
      split <;> omega
theorem leO_some {o:Option Int} {v:Int} (h:leO o v=true):∃ u,o=some u∧u≤v:=by
  cases o with
  | none=>cases h
  | some u=>exact ⟨u,rfl,of_decide_eq_true h⟩
theorem come_some {before now:List (Option Int)} {l:Lis} {u:Int} (h:come before now l=some u):∃ w,(if l.back then before else now)[l.whom]?=some (some w)∧u=w+l.beats:=by
  unfold come at h
  cases e:(if l.back then before else now)[l.whom]? with
  | none=>rw [e] at h; cases h
  | some o =>
    rw [e] at h
    cases o with
    | none=>cases h
    | some w=>exact ⟨w,rfl,(Option.some.inj h).symm⟩
theorem come_of {before now:List (Option Int)} {l:Lis} {w:Int} (h:(if l.back then before else now)[l.whom]?=some (some w)):come before now l=some (w+l.beats):=by
  unfold come
  rw [h]
  rfl
theorem fix_le {c0 c1:List Bell} (hc:Slow c1) (qk:Quick c0 c1) {b0 b1 n0 n1:List (Option Int)} (h:∀ (k:Nat) u,b1[k]?=some (some u)→∃ u',b0[k]?=some (some u')∧u'≤u) (f0:Fix c0 b0 n0) (f1:Fix c1 b1 n1) :
    ∀ (k:Nat) v,n1[k]?=some (some v)→∃ v',n0[k]?=some (some v')∧v'≤v:=by
  obtain ⟨B,hB⟩:=low n1
  have all:∀ (n:Nat) (k:Nat) v,v<B+n→n1[k]?=some (some v)→∃ v',n0[k]?=some (some v')∧v'≤v:=by
    intro n
    induction n with
    | zero=>intro k v hv e; have:=hB v (List.mem_of_getElem? e); omega
    | succ n ih =>
      intro k v hv e
      have hk:k<c1.length:=by rw [← f1.1]; exact (List.getElem?_eq_some_iff.mp e).1
      have hb:=List.getElem?_eq_getElem hk
      obtain ⟨o,ho,hd⟩:=f1.2 k _ hb
      rw [e] at ho
      cases ho
      obtain ⟨bb,hb0,hw,hp⟩:=qk k _ hb
      obtain ⟨o',ho',hd'⟩:=f0.2 k _ hb0
      have cn:cnt (comesOf c1[k] b1 n1) v≤cnt (comesOf bb b0 n0) v:=by
        unfold comesOf
        rw [cnt_map,cnt_map]
        refine paired_count hp fun l0 l1 _ hl1 r hq=>?_
        obtain ⟨r1,r2,r3⟩:=r
        obtain ⟨u,eu,hu⟩:=leO_some hq
        obtain ⟨w,hw',ew⟩:=come_some eu
        have hs:=hc k _ hb l1 hl1
        have:∃ w',(if l0.back then b0 else n0)[l0.whom]?=some (some w')∧w'≤w:=by
          rw [r2,r1]
          cases hbk:l1.back with
          | true=>rw [hbk] at hw'; exact h _ _ hw'
          | false=>rw [hbk] at hw'; exact ih l1.whom w (by omega) hw'
        obtain ⟨w',e',l'⟩:=this
        rw [come_of e']
        exact decide_eq_true (by omega)
      rw [hw] at hd'
      obtain ⟨d1,d2⟩:=hd
      cases o' with
      | none =>
        have h1:(tot (comesOf bb b0 n0):Int)<wants c1[k]:=hd'
        have:=cnt_tot (comesOf bb b0 n0) v
        omega
      | some v' =>
        refine ⟨v',ho',?_⟩
        refine Classical.byContradiction fun no=>?_
        have:=cnt_mono (comesOf bb b0 n0) (show v≤v' - 1 by omega)
        have:=hd'.2
        omega
  intro k v e
  exact all (v - B+1).toNat k v (by have:=hB v (List.mem_of_getElem? e); omega) e
def later (d:Int) (r:List (Option Int)):List (Option Int):=r.map (Option.map (·+d))
structure Btw (lo hi:Int) (r r':List (Option Int)):Prop where
  len:r.length=r'.length
  le:∀ (k:Nat) v,r'[k]?=some (some v)→∃ u,r[k]?=some (some u)∧u+lo≤v
  ge:∀ (k:Nat) u,r[k]?=some (some u)→∃ v,r'[k]?=some (some v)∧v≤u+hi
end K62.S
namespace K62.S
open PySem L2
theorem high (l:List (Option Int)):∃ B:Int,∀ v,some v∈l→v≤B:=by
  induction l with
  | nil=>exact ⟨0,fun v h=>by cases h⟩
  | cons o r ih =>
    obtain ⟨B,hB⟩:=ih
    cases o with
    | none=>exact ⟨B,fun v h=>by
        rcases List.mem_cons.mp h with z | z
        · cases z
        · exact hB v z⟩
    | some d=>exact ⟨max B d,fun v h=>by
        rcases List.mem_cons.mp h with z | z
        · have:=Option.some.inj z
          omega
        · have:=hB v z
          omega⟩
theorem due_exists (bs:List (Option Int)) {n:Int} (hn:1≤n):∃ o,Due bs n o:=by
  by_cases ht:(tot bs:Int)<n
  · exact ⟨none,ht⟩
  obtain ⟨B,hB⟩:=low bs
  obtain ⟨T,hT⟩:=high bs
  have c0:cnt bs (B - 1)=0:=List.countP_eq_zero.mpr fun o ho z=>by
    cases o with
    | none=>cases z
    | some d =>
      have h1:d≤B - 1:=of_decide_eq_true z
      have:=hB d ho
      omega
  have c1:cnt bs T=tot bs:=by
    refine Nat.le_antisymm (cnt_tot bs T) (List.countP_mono_left fun o ho z=>?_)
    cases o with
    | none=>cases z
    | some d=>exact decide_eq_true (hT d ho)
  have go:∀ m:Nat,n≤(cnt bs (B - 1+m):Int)→∃ v,Due bs n (some v):=by
    intro m
    induction m with
    | zero=>intro h; rw [show B - 1+((0:Nat):Int)=B - 1 by omega,c0] at h; omega
    | succ m ih =>
      intro h
      by_cases h':n≤(cnt bs (B - 1+m):Int)
      · exact ih h'
      · exact ⟨B - 1+(m+1:Nat),h,by rw [show B - 1+((m+1:Nat):Int) - 1=B - 1+m by omega]; omega⟩
  obtain ⟨v,hv⟩:=go (T - B+1).toNat (by
    have:=cnt_mono bs (show T≤B - 1+((T - B+1).toNat:Int) by omega)
    omega)
  exact ⟨some v,hv⟩
def Wanted (c:List Bell):Prop:=∀ (k:Nat) b,c[k]?=some b→1≤wants b
theorem least_of {p:Nat→Int→Prop} (hu:∀ k v v',p k v→p k v'→v=v'):∀ m:Nat,(∃ k v,k<m∧p k v)→∃ k v,k<m∧p k v∧∀ k' v',k'<m→p k' v'→v≤v'
  | 0,⟨_,_,h,_⟩=>absurd h (Nat.not_lt_zero _)
  | m+1,h=>by
    by_cases h1:∃ k v,k<m∧p k v
    · obtain ⟨k,v,hk,hp,hl⟩:=least_of hu m h1
      by_cases h2:∃ v',p m v'∧v'<v
      · obtain ⟨v',hv',hlt⟩:=h2
        refine ⟨m,v',by omega,hv',fun k2 v2 hk2 hp2=>?_⟩
        rcases Nat.lt_or_ge k2 m with z | z
        · have:=hl k2 v2 z hp2; omega
        · have e:k2=m:=by omega
          subst e
          rw [hu k2 v' v2 hv' hp2]
          exact Int.le_refl _
      · refine ⟨k,v,by omega,hp,fun k2 v2 hk2 hp2=>?_⟩
        rcases Nat.lt_or_ge k2 m with z | z
        · exact hl k2 v2 z hp2
        · have e:k2=m:=by omega
          subst e
          exact Int.not_lt.mp fun z=>h2 ⟨v2,hp2,z⟩
    · obtain ⟨k,v,hk,hp⟩:=h
      have e:k=m:=by
        rcases Nat.lt_or_ge k m with z | z
        · exact absurd ⟨k,v,z,hp⟩ h1
        · omega
      subst e
      refine ⟨k,v,by omega,hp,fun k2 v2 hk2 hp2=>?_⟩
      rcases Nat.lt_or_ge k2 k with z | z
      · exact absurd ⟨k2,v2,z,hp2⟩ h1
      · have e:k2=k:=by omega
        subst e
        rw [hu k2 v v2 hp hp2]
        exact Int.le_refl _
theorem nones_set {now:List (Option Int)} {k:Nat} {v:Int} (h:now[k]?=some none):(now.set k (some v)).countP (fun o=>o.isNone)+1=now.countP (fun o=>o.isNone):=by
  induction now generalizing k with
  | nil=>cases h
  | cons o r ih =>
    cases k with
    | zero =>
      have e:o=none:=by simpa using h
      subst e
      rw [List.set_cons_zero,List.countP_cons,List.countP_cons]
      rfl
    | succ k =>
      have:=ih (k:=k) (by simpa using h)
      rw [List.set_cons_succ,List.countP_cons,List.countP_cons]
      omega
theorem fix_exists {c:List Bell} (hc:Slow c) (hw:Wanted c) (before:List (Option Int)):∃ now,Fix c before now:=by
  have go:∀ (m:Nat) (now:List (Option Int)),now.countP (fun o=>o.isNone)=m→Going c before now→∃ now,Fix c before now:=by
    intro m
    induction m with
    | zero =>
      intro now h0 g
      refine ⟨now,going_end g fun k b _ hn=>?_⟩
      exact absurd rfl (List.countP_eq_zero.mp h0 none (List.mem_of_getElem? hn))
    | succ m ih =>
      intro now hm g
      let p:Nat→Int→Prop:=fun k v=>∃ b,c[k]?=some b∧now[k]?=some none∧Due (comesOf b before now) (wants b) (some v)
      by_cases hp:∃ k v,k<c.length∧p k v
      · obtain ⟨k,v,hk,⟨b,hb,hn,hd⟩,hl⟩:=least_of (p:=p) (fun k v v' ⟨b,hb,_,h1⟩ ⟨b',hb',_,h2⟩=>by
          rw [hb] at hb'
          cases hb'
          exact Option.some.inj (due_unique h1 h2)) c.length hp
        refine ih (now.set k (some v)) ?_ (going_on hc g hb hn hd fun j b' v' hj hjn hd'=>hl j v' (List.getElem?_eq_some_iff.mp hj).1 ⟨b',hj,hjn,hd'⟩)
        have:=nones_set (v:=v) hn
        omega
      · refine ⟨now,going_end g fun k b hb hn=>?_⟩
        obtain ⟨o,ho⟩:=due_exists (comesOf b before now) (hw k b hb)
        cases o with
        | none=>exact ho
        | some v=>exact absurd ⟨k,v,(List.getElem?_eq_some_iff.mp hb).1,b,hb,hn,ho⟩ hp
  exact go _ _ rfl (going_start c before)
def NW (c:List Bell):Prop:=∃ rank:Nat→Nat,∀ (k:Nat) b,c[k]?=some b→1≤wants b∧wants b≤b.lis.length∧∀ l∈b.lis,l.whom<c.length∧1≤l.beats∧(l.back=false→rank l.whom<rank k)
structure SeqR (c:List Bell) (R:Nat→List Int):Prop where
  first:R 0=c.map (·.start)
  next:∀ n,Fix c ((R n).map some) ((R (n+1)).map some)
def Sh (R:Nat→List Int) (f l:Nat) (d:Int):Prop:=R l=(R f).map (·+d)
def NoSh (R:Nat→List Int) (f l:Nat):Prop:=∀ d,¬ Sh R f l d
def RoundIs (R:Nat→List Int) (most:Nat):Option (Nat×Nat×Int)→Prop
  | none=>∀ f l,f<l→l≤most→NoSh R f l
  | some (f,p,d)=>1≤p∧f+p≤most∧Sh R f (f+p) d∧(∀ f' l,f'<f→f'<l→l≤most→NoSh R f' l)∧∀ l,f<l→l<f+p→NoSh R f l
end K62.S
namespace K62.S
open PySem L2
end K62.S
namespace K62.S
open PySem L2
theorem heard_le {lis:List Lis} {b0 n0 b1 n1:List (Option Int)} {v:Int} (h:∀ l∈lis,∀ w,(if l.back then b1 else n1)[l.whom]?=some (some w)→w+l.beats≤v→∃ w',(if l.back then b0 else n0)[l.whom]?=some (some w')∧w'≤w) :
    cnt (lis.map (come b1 n1)) v≤cnt (lis.map (come b0 n0)) v:=by
  rw [cnt_map,cnt_map]
  refine List.countP_mono_left fun l hl hq=>?_
  obtain ⟨u,eu,hu⟩:=leO_some hq
  obtain ⟨w,hw,ew⟩:=come_some eu
  obtain ⟨w',e',l'⟩:=h l hl w hw (by omega)
  rw [come_of e']
  exact decide_eq_true (by omega)
structure It (c:List Bell) (z:List (Option Int)) (t:Nat) (y:List (Option Int)):Prop where
  len:y.length=c.length
  le:∀ (k:Nat) v,y[k]?=some (some v)→∃ v',z[k]?=some (some v')∧v'≤v
  ok:∀ (k:Nat) v,z[k]?=some (some v)→cnt z (v - 1)<t→y[k]?=some (some v)
theorem it_zero (c:List Bell) (z:List (Option Int)):It c z 0 (c.map fun _=>none) where
  len:=List.length_map ..
  le:=fun k v e=>by
    rw [List.getElem?_map] at e
    cases h:c[k]? with
    | none=>rw [h] at e; cases e
    | some b=>rw [h] at e; cases e
  ok:=fun k v _ h=>by omega
theorem cnt_lt:∀ {z:List (Option Int)} {u:Int},some u∈z→cnt z (u - 1)+1≤cnt z u
  | o::z,u,h=>by
    unfold cnt
    rw [List.countP_cons,List.countP_cons]
    rcases List.mem_cons.mp h with e | e
    · subst e
      have e1:leO (some u) (u - 1)=false:=decide_eq_false (by omega)
      have e2:leO (some u) u=true:=decide_eq_true (Int.le_refl u)
      rw [e1,e2,if_pos rfl,if_neg Bool.false_ne_true]
      have:=cnt_mono z (show u - 1≤u by omega)
      unfold cnt at this
      omega
    · have ih:=cnt_lt e
      unfold cnt at ih
      have:leO o (u - 1)=true→leO o u=true:=leO_mono (by omega)
      cases h1:leO o (u - 1) with
      | true=>rw [this h1]; simp; omega
      | false =>
        rw [if_neg Bool.false_ne_true]
        split <;> omega
theorem it_step {c:List Bell} {x z y y':List (Option Int)} {t:Nat} (hc:Slow c) (f:Fix c x z) (h:It c z t y) (hl:y'.length=c.length) (hy:∀ (k:Nat) b,c[k]?=some b→∃ o,y'[k]?=some o∧Due (comesOf b x y) (wants b) o):It c z (t+1) y' where
  len:=hl
  le:=fun k v e=>by
    have hk:k<c.length:=by rw [← hl]; exact (List.getElem?_eq_some_iff.mp e).1
    have hb:=List.getElem?_eq_getElem hk
    obtain ⟨o,ho,hd⟩:=hy k _ hb
    rw [e] at ho
    cases ho
    obtain ⟨o',ho',hd'⟩:=f.2 k _ hb
    have cn:=heard_le (lis:=c[k].lis) (b0:=x) (n0:=z) (b1:=x) (n1:=y) (v:=v) fun l hl w hw _=>by
      cases hbk:l.back with
      | true=>rw [hbk] at hw; exact ⟨w,hw,Int.le_refl w⟩
      | false=>rw [hbk] at hw; exact h.le _ _ hw
    have h1:=hd.1
    unfold comesOf at h1 hd'
    cases o' with
    | none =>
      have h2:(tot (c[k].lis.map (come x z)):Int)<wants c[k]:=hd'
      have:=cnt_tot (c[k].lis.map (come x z)) v
      omega
    | some v' =>
      refine ⟨v',ho',Classical.byContradiction fun no=>?_⟩
      have:=cnt_mono (c[k].lis.map (come x z)) (show v≤v' - 1 by omega)
      have:=hd'.2
      omega
  ok:=fun k v e ht=>by
    have hk:k<c.length:=by rw [← f.1]; exact (List.getElem?_eq_some_iff.mp e).1
    have hb:=List.getElem?_eq_getElem hk
    obtain ⟨o,ho,hd⟩:=hy k _ hb
    obtain ⟨o',ho',hd'⟩:=f.2 k _ hb
    rw [e] at ho'
    cases ho'
    have up:∀ v1,v1≤v→cnt (c[k].lis.map (come x z)) v1≤cnt (c[k].lis.map (come x y)) v1:=fun v1 hv1=>heard_le fun l hl w hw hwv=>by
      have hs:=hc k _ hb l hl
      cases hbk:l.back with
      | true=>rw [hbk] at hw; exact ⟨w,hw,Int.le_refl w⟩
      | false =>
        rw [hbk] at hw
        have hw':z[l.whom]?=some (some w):=hw
        have c1:=cnt_lt (List.mem_of_getElem? hw')
        have c2:=cnt_mono z (show w≤v - 1 by omega)
        exact ⟨w,h.ok _ _ hw' (by omega),Int.le_refl w⟩
    have dn:=heard_le (lis:=c[k].lis) (b0:=x) (n0:=z) (b1:=x) (n1:=y) (v:=v - 1) fun l hl w hw _=>by
      cases hbk:l.back with
      | true=>rw [hbk] at hw; exact ⟨w,hw,Int.le_refl w⟩
      | false=>rw [hbk] at hw; exact h.le _ _ hw
    have u1:=up v (Int.le_refl v)
    obtain ⟨d1,d2⟩:=hd'
    unfold comesOf at d1 d2 hd
    have hd2:Due (c[k].lis.map (come x y)) (wants c[k]) (some v):=⟨by omega,by omega⟩
    rw [ho,due_unique hd hd2]
theorem it_end {c:List Bell} {x z y:List (Option Int)} (f:Fix c x z) (h:It c z c.length y):y=z:=by
  refine List.ext_getElem? fun k=>?_
  by_cases hk:k<c.length
  · have e1:=List.getElem?_eq_getElem (show k<y.length by rw [h.len]; exact hk)
    have e2:=List.getElem?_eq_getElem (show k<z.length by rw [f.1]; exact hk)
    generalize y[k]'(by rw [h.len]; exact hk)=o1 at e1
    generalize z[k]'(by rw [f.1]; exact hk)=o2 at e2
    cases o2 with
    | some v =>
      have c1:=cnt_lt (List.mem_of_getElem? e2)
      have c2:cnt z v≤z.length:=List.countP_le_length ..
      have c3:=f.1
      rw [e2,h.ok k v e2 (by omega)]
    | none =>
      cases o1 with
      | none=>rw [e1,e2]
      | some v =>
        obtain ⟨v',e',_⟩:=h.le k v e1
        rw [e2] at e'
        cases e'
  · rw [List.getElem?_eq_none (by rw [h.len]; omega),List.getElem?_eq_none (by rw [f.1]; omega)]
end K62.S
namespace K62.S
open PySem L2
theorem scal_rw (r:RW) (z:Str):scal (rwV r) (.str z)=true:=by cases r <;> rfl
theorem rw_all {r:RW} (h:rwV r=.str "all"):r=.all:=by
  cases r with
  | all=>rfl
  | any=>exact absurd h ne_any_all
  | num n=>cases h
theorem rw_any {r:RW} (h:rwV r=.str "any"):r=.any:=by
  cases r with
  | any=>rfl
  | all=>exact absurd h.symm ne_any_all
  | num n=>cases h
theorem oV_get {bs:List (Option Int)} {k:Nat} {o:Option Int} (h:bs[k]?=some o):atI (bs.map oV) (k:Int)=some (oV o):=atI_nat (by rw [List.getElem?_map,h]; rfl)
section
variable {P:Program} {w:World} {K:PySem.W.Frag} {mg:Str→Option Value} {base:Heap} {f:Addr} {fd:FuncData}
def sp_lcomes:Sp:=fun vs H Q _=>∃ (v:V) (b:Bell) (p r:Addr) (before now:List (Option Int)),vs=[v,.ref p,.ref r]∧BellAt H v b∧H p=some (.lst (before.map oV))∧H r=some (.lst (now.map oV))∧b.lis.length≤8∧1≤wants b∧(∀ l∈b.lis,l.whom<before.length∧l.whom<now.length)∧
  ∀ (H':Hp) (o:Option Int),Same H H'→Due (comesOf b before now) (wants b) o→Q (oV o) H'
theorem sc_lcomes:FnScope ["_law_bell_here","_law_ahead","_law_here","_law_some","_law_wants","_law_whom","_law_beats","_law_back","_law_fell"] ["_law_bell_here","_law_ahead","_law_here"] (defScope s_lcomes):=⟨rfl,rfl,rfl,by decide +kernel,rfl,by decide +kernel,by decide +kernel⟩
theorem ok_lcomes (F:Fun K "_law_comes" "_law_comes" s_lcomes f fd) (B:Blt mg):FnOk P w K mg base CX0 1 f fd ["_law_bell_here","_law_ahead","_law_here"] sp_lcomes:=by
  refine F.ok sc_lcomes (fun vs H Q E h=>?_) (fun cdv A outer s H vs Q E hr h=>?_)
  · obtain ⟨v,b,p,r,before,now,rfl,_⟩:=h
    rfl
  obtain ⟨v,b,p,r,before,now,rfl,hbv,hp,hr',h8,hw1,hwh,q⟩:=h
  obtain ⟨a,t,ls,rfl,ha,ht,pr⟩:=id hbv
  refine ⟨_,(pss_cons (ps_set (i:=3) sc_lcomes.nd rfl (Or.inl rfl) (pe_lst pa_nil))
    (pss_cons (ps_for PassesOwn.never rfl (pi_tup (pe_ix ix_tup (pv 0) pe_int (fun _ _=>rfl))) (pg_tup rfl (pgs_cons (pg_name (i:=5) sc_lcomes.nd rfl (Or.inl rfl)) (pgs_cons (pg_name (i:=6) sc_lcomes.nd rfl (Or.inl rfl)) (pgs_cons (pg_name (i:=7) sc_lcomes.nd rfl (Or.inl rfl)) pgs_nil))))
    (pss_cons (ps_set (i:=8) sc_lcomes.nd rfl (Or.inl rfl) (pe_ix ix_list (pe_ix ix_list (pe_lst (pa_cons (pv 2) (pa_cons (pv 1) pa_nil))) (pv 7) (fun _ _=>rfl)) (pv 5) (fun _ _=>rfl)))
    (pss_one (ps_if (pt_cmpR op_notN (pv 8) pe_non (nomark _))
    (pss_one (ps_expr (pe_bm PySem.F.plainAttrs_list PySem.F.slot_list_append PySem.F.type_list_append mt_append (pv 3) (pa_cons (pe_op op_add (pv 8) (pv 6)) pa_nil))))
    pss_nil))))
    (pss_cons (ps_set (i:=4) sc_lcomes.nd rfl (Or.inl rfl) (pe_ix ix_tup (pv 0) pe_int (fun _ _=>rfl)))
    (pss_join (ps_if (pt_cmpR op_eq (pe_ix ix_tup (pv 0) pe_int (fun _ _=>rfl)) pe_str (nomark _))
    (pss_one (ps_set (i:=4) sc_lcomes.nd rfl (Or.inl rfl) (pe_callB call_len_seq rfl B.len_ PySem.boot_len (pa_cons (pe_ix ix_tup (pv 0) pe_int (fun _ _=>rfl)) pa_nil))))
    pss_nil)
    (pss_join (ps_if (pt_cmpR op_eq (pe_ix ix_tup (pv 0) pe_int (fun _ _=>rfl)) pe_str (nomark _))
    (pss_one (ps_set (i:=4) sc_lcomes.nd rfl (Or.inl rfl) pe_int))
    pss_nil)
    (pss_cons (ps_if (pt_cmpR op_lt (pe_callB call_len_seq rfl B.len_ PySem.boot_len (pa_cons (pv 3) pa_nil)) (pv 4) (nomark _))
    (pss_one (ps_ret pe_non))
    pss_nil)
    (pss_one (ps_ret (pe_ix ix_list (pe_callB call_sorted rfl B.sorted_ PyProof.Rows.boot_sorted (pa_cons (pv 3) pa_nil)) (pe_op op_sub (pv 4) pe_int) (fun _ _=>rfl)))))))))),?_⟩
  have hll:=paired_len pr
  refine ⟨(by show 0≤sizeLine; decide),fun D hD=>?_⟩
  have s1:Same H (upd H D (.lst [])):=same_new hD _
  refine ⟨_,rfl,a,_,_,_,rfl,rfl,SqT.of (s1 _ _ ha),rfl,t,rfl,⟨_,SqT.of (s1 _ _ ht)⟩,?_⟩
  refine for_tup (K:=K) (a:=t) (xs:=ls) (fun j σ H2=>∃ (o4 o5 o6 o7:Option V),σ=[some (.ref a),some (.ref p),some (.ref r),some (.ref D),none,o4,o5,o6,o7]∧Same H H2∧H2 D=some (.lst ((comesL ((b.lis.take j).map (come before now))).map V.int)))
    ⟨none,none,none,none,rfl,s1,upd_same⟩ (fun j σ H2 _ ⟨_,_,_,_,_,z,_⟩=>SqT.of (z _ _ ht)) ?_ ?_
  · rintro j y σ H2 hj ⟨o4,o5,o6,o7,rfl,s2,hD2⟩
    obtain ⟨l,hl,x,rfl,hx⟩:=paired_at pr hj
    have hj8:j<b.lis.length:=(List.getElem?_eq_some_iff.mp hl).1
    obtain ⟨w1,w2⟩:=hwh l (List.mem_of_getElem? hl)
    refine ⟨x,_,rfl,SqT.of (s2 _ _ hx),rfl,_,_,rfl,_,_,rfl,_,_,rfl,rfl,?_⟩
    refine ⟨_,rfl,_,rfl,(by show 2≤sizeLine; decide),fun l1 hl1=>?_⟩
    have s3:=same_new hl1 (.lst [.ref r,.ref p])
    have s23:=s2.trans s3
    have e1:=List.getElem?_eq_getElem w1
    have e2:=List.getElem?_eq_getElem w2
    have hpk:∃ (q':Addr) (bs:List (Option Int)) (o:Option Int),atI [V.ref r,V.ref p] (if l.back then 1 else 0)=some (.ref q')∧(upd H2 l1 (.lst [.ref r,.ref p])) q'=some (.lst (bs.map oV))∧bs[l.whom]?=some o∧come before now l=o.map (·+l.beats):=by
      cases hb:l.back with
      | true=>exact ⟨p,before,_,rfl,s23 _ _ hp,e1,by unfold come; rw [hb,if_pos rfl,e1]; rfl⟩
      | false=>exact ⟨r,now,_,rfl,s23 _ _ hr',e2,by unfold come; rw [hb,if_neg (by decide),e2]; rfl⟩
    obtain ⟨q',bs,o,k1,k2,k3,k4⟩:=hpk
    refine ⟨_,rfl,l1,_,_,_,rfl,rfl,SqL.of upd_same,k1,_,rfl,q',_,_,_,rfl,rfl,SqL.of k2,oV_get k3,?_⟩
    refine ⟨_,rfl,rfl,_,rfl,?_⟩
    have hD3:=s3 _ _ hD2
    cases o with
    | none =>
      refine iteF ⟨_,_,_,_,rfl,s23,?_⟩
      rw [take_snoc hl,List.map_append,List.map_cons,List.map_nil,k4]
      show _=some (HO.lst ((comesL (_++[none])).map V.int))
      rw [comes_snocN]
      exact hD3
    | some i =>
      refine iteT ⟨_,rfl,.inl ⟨rfl,_,SqL.of hD3⟩,_,rfl,_,rfl,_,_,rfl,rfl,D,_,_,rfl,rfl,hD3,?_,_,_,_,_,rfl,s23.upd hD _,?_⟩
      · rw [List.length_map]
        have:=comes_len ((b.lis.take j).map (come before now))
        rw [List.length_map,List.length_take] at this
        exact small1000 (by omega)
      · rw [take_snoc hl,List.map_append,List.map_cons,List.map_nil,k4]
        show _=some (HO.lst ((comesL (_++[some (i+l.beats)])).map V.int))
        rw [comes_snocS,List.map_append]
        exact upd_same
  rintro σ H2 ⟨o4,o5,o6,o7,rfl,s2,hD2⟩
  rw [hll,List.take_length] at hD2
  have hcl:(comesL (b.lis.map (come before now))).length≤8:=by
    have:=comes_len (b.lis.map (come before now))
    rw [List.length_map] at this
    omega
  have ha2:=s2 _ _ ha
  refine ⟨_,rfl,a,_,_,_,rfl,rfl,SqT.of ha2,rfl,?_⟩
  refine ⟨fun σ H3=>∃ v4:V,σ=[some (.ref a),some (.ref p),some (.ref r),some (.ref D),some v4,o4,o5,o6,o7]∧((b.rule=.all∧v4=.int (wants b))∨(b.rule≠.all∧v4=rwV b.rule))∧H3=H2,?_,?_⟩
  · refine ⟨_,rfl,a,_,_,_,rfl,rfl,SqT.of ha2,rfl,scal_rw _ _,_,rfl,ite2 (fun c=>?_) (fun c=>?_)⟩
    · have er:=rw_all (of_decide_eq_true c)
      refine ⟨_,rfl,a,_,_,_,rfl,rfl,SqT.of ha2,rfl,t,_,rfl,.inr (SqT.of (s2 _ _ ht)),_,rfl,.inl ⟨er,?_⟩,rfl⟩
      unfold wants
      rw [er,hll]
    · exact ⟨_,rfl,.inr ⟨fun e=>c (decide_eq_true (by rw [e]; rfl)),rfl⟩,rfl⟩
  rintro σ H3 ⟨v4,rfl,h4,rfl⟩
  refine ⟨fun σ H4=>σ=[some (.ref a),some (.ref p),some (.ref r),some (.ref D),some (.int (wants b)),o4,o5,o6,o7]∧H4=H3,?_,?_⟩
  · refine ⟨_,rfl,a,_,_,_,rfl,rfl,SqT.of ha2,rfl,scal_rw _ _,_,rfl,ite2 (fun c=>?_) (fun c=>?_)⟩
    · have er:=rw_any (of_decide_eq_true c)
      have ew:wants b=1:=by unfold wants; rw [er]
      rw [ew]
      exact ⟨rfl,rfl⟩
    · refine ⟨?_,rfl⟩
      rcases h4 with ⟨_,rfl⟩ | ⟨hn,rfl⟩
      · rfl
      · have ew:rwV b.rule=.int (wants b):=by
          unfold wants
          cases hb:b.rule with
          | all=>exact absurd hb hn
          | any=>exact absurd (decide_eq_true (by rw [hb]; rfl)) c
          | num n=>rfl
        rw [ew]
  rintro σ H4 ⟨rfl,rfl⟩
  refine ⟨_,rfl,D,_,rfl,.inl (SqL.of hD2),_,rfl,_,_,rfl,rfl,_,rfl,?_⟩
  refine ite2 (fun c=>?_) (fun c=>?_)
  · have c':((((comesL (b.lis.map (come before now))).map V.int).length:Nat):Int)<wants b:=of_decide_eq_true c
    rw [List.length_map] at c'
    exact q _ none s2 (due_none (.refl _) c')
  · have c':¬ ((((comesL (b.lis.map (come before now))).map V.int).length:Nat):Int)<wants b:=of_decide_eq_false (Bool.eq_false_iff.mpr c)
    rw [List.length_map] at c'
    refine ⟨_,rfl,D,_,rfl,SqL.of hD2,by omega,fun l ns hl pm o=>?_⟩
    have s3:=s2.trans (same_new hl (.lst (ns.map V.int)))
    have hln:=pm.length_eq
    have hk:(wants b - 1).toNat<ns.length:=by omega
    have en:wants b - 1=(((wants b - 1).toNat:Nat):Int):=by omega
    have hv:ns[(wants b - 1).toNat]?=some ns[(wants b - 1).toNat]:=List.getElem?_eq_getElem hk
    have hat:atI (ns.map V.int) (wants b - 1)=some (.int ns[(wants b - 1).toNat]):=by
      have:=at_map hv
      rw [← en] at this
      exact this
    exact ⟨_,rfl,_,_,rfl,rfl,l,_,_,_,rfl,rfl,SqL.of upd_same,hat,q _ (some _) s3 (due_some pm o hw1 hv)⟩
def sp_lgoing:Sp:=fun vs H Q _=>∃ (ch:V) (c:List Bell) (many:Nat) (rows:List (List (Option Int))),vs=[ch,.int many]∧ChoirAt H ch c∧Fine c∧many≤100∧rows.length=many+1∧Rows c rows∧
  ∀ (H':Hp) (t:Addr) (told:List V),Same H H'→H t=none→H' t=some (.lst told)→Paired (RowAt (fun _=>True) H') told rows→Q (.ref t) H'
theorem sc_lgoing:FnScope ["_law_choir_here","_law_many","_law_rows","_law_n","_law_here","_law_turn"] ["_law_choir_here","_law_many"] (defScope s_going):=⟨rfl,rfl,rfl,by decide +kernel,rfl,by decide +kernel,by decide +kernel⟩
theorem ok_lgoing (F:Fun K "_law_going" "_law_going" s_going f fd) (B:Blt mg) (C_comes:Cal P w K mg base 1 "_law_comes" ["_law_bell_here","_law_ahead","_law_here"] sp_lcomes):FnOk P w K mg base CX0 2 f fd ["_law_choir_here","_law_many"] sp_lgoing:=by
  refine F.ok sc_lgoing (fun vs H Q E h=>?_) (fun cdv A outer s H vs Q E hr h=>?_)
  · obtain ⟨ch,c,many,rows,rfl,_⟩:=h
    rfl
  obtain ⟨ch,c,many,rows,rfl,hch,fc,hm,hrl,R,q⟩:=h
  obtain ⟨ca,bs,rfl,hca,prb⟩:=id hch
  have hbl:=paired_len prb
  have c6:=fc.1
  refine ⟨_,(pss_cons (ps_set (i:=2) sc_lgoing.nd rfl (Or.inr rfl) (pe_lst (pa_cons (pe_comp ["_law_bell_here"] [] [] rfl (pi_tup (pv 0)) (fun _ _ _ _ _=>(pg_name (i:=0) (show List.Nodup [("_law_bell_here":Str)] by decide +kernel) rfl (Or.inl rfl))) (fun _ _ _ _ _=>pts_nil) (fun _ _ _ _ _=>(pe_ix (ix_tupC (K:=K) rfl) (pv 0) pe_int (fun _ _=>rfl)))) pa_nil)))
    (pss_cons (ps_for PassesOwn.never rfl (pi_range1 rfl B.range_ (pa_cons (pv 1) pa_nil)) (pg_name (i:=3) sc_lgoing.nd rfl (Or.inr rfl))
    (pss_cons (ps_set (i:=4) sc_lgoing.nd rfl (Or.inr rfl) (pe_comp ["_law_bell_here"] [] [] rfl (pi_tup (pv 0)) (fun _ _ _ _ _=>(pg_name (i:=0) (show List.Nodup [("_law_bell_here":Str)] by decide +kernel) rfl (Or.inl rfl))) (fun _ _ _ _ _=>pts_nil) (fun _ _ _ _ _=>pe_non)))
    (pss_cons (ps_for PassesOwn.never rfl (pi_range1 rfl B.range_ (pa_cons (pe_callB call_len_seq rfl B.len_ PySem.boot_len (pa_cons (pv 0) pa_nil)) pa_nil)) (pg_name (i:=5) sc_lgoing.nd rfl (Or.inl rfl))
    (pss_one (ps_set (i:=4) sc_lgoing.nd rfl (Or.inr rfl) (pe_comp ["_law_bell_here"] ["_law_here","_law_rows","_law_n"] [4,2,3] rfl (pi_tup (pv 0)) (fun _ _ _ _ _=>(pg_name (i:=0) (show List.Nodup [("_law_bell_here":Str),("_law_here":Str),("_law_rows":Str),("_law_n":Str)] by decide +kernel) rfl (Or.inl rfl))) (fun _ _ _ _ _=>pts_nil) (fun _ _ _ _ _=>(pe_fn C_comes hr (by decide) rfl (pa_cons (pv 0) (pa_cons (pe_ix (ix_listC (K:=K) rfl) (pv 2) (pv 3) (fun _ _=>rfl)) (pa_cons (pv 1) pa_nil)))))))))
    (pss_one (ps_expr (pe_bm PySem.F.plainAttrs_list PySem.F.slot_list_append PySem.F.type_list_append mt_append (pv 2) (pa_cons (pv 4) pa_nil)))))))
    (pss_one (ps_ret (pv 2))))),?_⟩
  refine ⟨_,rfl,ca,rfl,⟨_,SqT.of hca⟩,fun D hD=>?_⟩
  refine comp_tup (K:=K) (a:=ca) (xs:=bs) (fun j ys H2=>Same H H2∧ys=((c.take j).map fun b=>some b.start).map oV) ⟨same_new hD _,rfl⟩ (fun j ys H2 _ ⟨z,_⟩=>SqT.of (z _ _ hca)) ?_ ?_
  · rintro j y ys H2 hj ⟨s2,rfl⟩ hD2
    obtain ⟨b,hb,ba,tt,ls,rfl,hba,_⟩:=paired_at prb hj
    have hj6:j<c.length:=(List.getElem?_eq_some_iff.mp hb).1
    refine ⟨rfl,tTrue_ite ?_⟩
    refine ⟨_,rfl,ba,_,_,_,rfl,rfl,SqT.of (s2 _ _ hba),rfl,?_⟩
    refine ⟨_,hD2,?_,_,⟨s2.upd hD _,?_⟩,upd_same⟩
    · rw [List.length_map,List.length_map,List.length_take]
      exact small1000 (by omega)
    · rw [take_snoc hb,List.map_append,List.map_append]
      rfl
  rintro ys H2 ⟨s2,rfl⟩ hD2
  rw [hbl,List.take_length] at hD2
  refine ⟨(by show 1≤sizeLine; decide),fun t ht=>?_⟩
  have nt:H t=none:=s2.free ht
  have s3:=same_new ht (.lst [.ref D])
  have Dt:D≠t:=ne_of_none hD2 ht
  have htt:(upd H2 t (.lst [.ref D])) t=some (.lst [.ref D]):=upd_same
  have hD3:=s3 _ _ hD2
  have s03:=s2.trans s3
  generalize (upd H2 t (.lst [.ref D]))=H3 at s3 htt hD3 s03 ⊢
  have er0:=List.getElem?_eq_getElem (show 0<rows.length by omega)
  have hr00:=R.first _ er0
  have take1:rows.take 1=[c.map fun b=>some b.start]:=by
    have:=take_snoc er0
    rw [hr00] at this
    exact this
  refine ⟨_,rfl,(many:Int),rfl,by omega,by omega,?_⟩
  refine for_range (lo:=0) (n:=((many:Nat):Int).toNat) (fun i σ H4=>∃ (o3 o4 o5:Option V) (told:List V),σ=[some (.ref ca),some (.int many),some (.ref t),o3,o4,o5]∧Same H H4∧H4 t=some (.lst told)∧Paired (RowAt (fun a=>a≠t) H4) told (rows.take (i+1)))
    ⟨none,none,none,[.ref D],rfl,s03,htt,by rw [take1]; exact .cons ⟨D,rfl,Dt,hD3⟩ .nil⟩ ?_ ?_
  · rintro i σ H4 hi ⟨o3,o4,o5,told,rfl,s4,ht4,prt⟩
    rw [Int.zero_add]
    have hi':i<many:=by omega
    have ex:=List.getElem?_eq_getElem (show i<rows.length by omega)
    have ez:=List.getElem?_eq_getElem (show i+1<rows.length by omega)
    have Fx:=R.next i _ _ ex ez
    have lx:=R.len i _ ex
    have lz:=R.len (i+1) _ ez
    generalize rows[i]=x at ex Fx lx
    generalize rows[i+1]=z at ez Fx lz
    obtain ⟨xv,exv,xa,rfl,xt,hxa⟩:=paired_at' prt (show (rows.take (i+1))[i]?=some x by rw [List.getElem?_take_of_lt (by omega)]; exact ex)
    have hca4:=s4 _ _ hca
    refine ⟨_,rfl,ca,rfl,⟨_,SqT.of hca4⟩,fun D1 hD1=>?_⟩
    refine comp_tup (K:=K) (a:=ca) (xs:=bs) (fun j ys H5=>Same H4 H5∧ys=((c.take j).map fun _=>(none:Option Int)).map oV) ⟨same_new hD1 _,rfl⟩ (fun j ys H5 _ ⟨z,_⟩=>SqT.of (z _ _ hca4)) ?_ ?_
    · rintro j y ys H5 hj ⟨s5,rfl⟩ hD5
      obtain ⟨b,hb,_⟩:=paired_at prb hj
      have hj6:j<c.length:=(List.getElem?_eq_some_iff.mp hb).1
      refine ⟨rfl,tTrue_ite ?_⟩
      refine ⟨_,hD5,?_,_,⟨s5.upd hD1 _,?_⟩,upd_same⟩
      · rw [List.length_map,List.length_map,List.length_take]
        exact small1000 (by omega)
      · rw [take_snoc hb,List.map_append,List.map_append]
        rfl
    rintro ys H5 ⟨s5,rfl⟩ hD5
    rw [hbl,List.take_length] at hD5
    refine ⟨_,rfl,ca,_,rfl,.inr (SqT.of (s5 _ _ hca4)),_,rfl,?_,?_,?_⟩
    · omega
    · omega
    refine for_range (lo:=0) (n:=((bs.length:Nat):Int).toNat) (fun j σ H6=>∃ (o5:Option V) (hh:Addr) (y:List (Option Int)),σ=[some (.ref ca),some (.int many),some (.ref t),some (.int (i:Int)),some (.ref hh),o5]∧Same H4 H6∧H4 hh=none∧H6 hh=some (.lst (y.map oV))∧It c z j y)
      ⟨o5,D1,_,rfl,s5,hD1,hD5,it_zero c z⟩ ?_ ?_
    · rintro j σ H6 hj ⟨o5,hh,y,rfl,s6,nh,hh6,It6⟩
      have s06:=s4.trans s6
      have hca6:=s06 _ _ hca
      refine ⟨_,rfl,ca,rfl,⟨_,SqT.of hca6⟩,fun D2 hD2=>?_⟩
      refine comp_tup (K:=K) (a:=ca) (xs:=bs) (fun k ys H7=>∃ os:List (Option Int),Same H6 H7∧ys=os.map oV∧os.length=k∧∀ (k':Nat) b,k'<k→c[k']?=some b→∃ o,os[k']?=some o∧Due (comesOf b x y) (wants b) o) ⟨[],same_new hD2 _,rfl,rfl,fun k' b h=>absurd h (Nat.not_lt_zero _)⟩ (fun k ys H7 _ ⟨_,z,_⟩=>SqT.of (z _ _ hca6)) ?_ ?_
      · rintro k bv ys H7 hk ⟨os,s7,rfl,hol,hos⟩ hD7
        obtain ⟨b,hb,hbv⟩:=paired_at prb hk
        have hk6:k<c.length:=(List.getElem?_eq_some_iff.mp hb).1
        obtain ⟨g1,g2,g3,g4⟩:=fc.2 k b hb
        refine ⟨rfl,tTrue_ite ?_⟩
        refine ⟨_,rfl,_,rfl,_,rfl,t,_,_,_,rfl,rfl,SqL.of ((s6.trans s7) _ _ ht4),atI_nat exv,_,rfl,bv,b,xa,hh,x,y,rfl,hbv.mono (Same.tup (s06.trans s7)),(s6.trans s7) _ _ hxa,s7 _ _ hh6,g2,wants_pos g1 g3,fun l hl=>?_,fun H8 o s8 hd=>?_⟩
        · have:=(g4 l hl).1
          have:=It6.len
          exact ⟨by omega,by omega⟩
        · have hD8:=s8 _ _ hD7
          refine ⟨_,hD8,?_,_,⟨os++[o],(s7.trans s8).upd hD2 _,?_,?_,fun k' b' hk' hb'=>?_⟩,upd_same⟩
          · rw [List.length_map]
            exact small1000 (by omega)
          · rw [List.map_append]
            rfl
          · rw [List.length_append,hol]
            rfl
          · by_cases hkk:k'<k
            · obtain ⟨o',e',d'⟩:=hos k' b' hkk hb'
              exact ⟨o',by rw [List.getElem?_append_left (by omega)]; exact e',d'⟩
            · obtain rfl:k'=k:=by omega
              obtain rfl:b=b':=Option.some.inj (hb.symm.trans hb')
              refine ⟨o,?_,hd⟩
              rw [List.getElem?_append_right (by omega),hol,Nat.sub_self]
              rfl
      · rintro ys H7 ⟨os,s7,rfl,hol,hos⟩ hD7
        refine ⟨_,D2,os,rfl,s6.trans s7,s6.free hD2,hD7,it_step fc.slow Fx It6 (by omega) fun k b hb=>hos k b ?_ hb⟩
        have:=(List.getElem?_eq_some_iff.mp hb).1
        omega
    · rintro σ H6 ⟨o5,hh,y,rfl,s6,nh,hh6,It6⟩
      rw [Int.toNat_natCast,hbl] at It6
      obtain rfl:=it_end Fx It6
      have ht6:=s6 _ _ ht4
      have hht:hh≠t:=fun e=>by rw [e,ht4] at nh; cases nh
      have ltd:=paired_len prt
      rw [List.length_take] at ltd
      refine ⟨_,rfl,.inl ⟨rfl,_,SqL.of ht6⟩,_,rfl,t,told,_,rfl,rfl,ht6,small1000 (by omega),?_⟩
      refine ⟨_,_,_,told++[.ref hh],rfl,(s4.trans s6).upd nt _,upd_same,?_⟩
      rw [take_snoc ez]
      have up:∀ (v:V) (row:List (Option Int)),RowAt (fun a=>a≠t) H6 v row→RowAt (fun a=>a≠t) (upd H6 t (.lst (told++[.ref hh]))) v row:=by
        rintro v row ⟨x,e,x2,x3⟩
        exact ⟨x,e,x2,by rw [upd_ne x2]; exact x3⟩
      exact paired_snoc (up _ _ ⟨hh,rfl,hht,hh6⟩) (paired_imp (fun _ _ z=>up _ _ (z.same s6)) prt)
  · rintro σ H4 ⟨o3,o4,o5,told,rfl,s4,ht4,prt⟩
    rw [Int.toNat_natCast,← hrl,List.take_length] at prt
    exact ⟨_,rfl,q H4 t told s4 nt ht4 (paired_imp (fun _ _ ⟨x,e,_,z⟩=>⟨x,e,trivial,z⟩) prt)⟩
end
end K62.S
namespace K62.S
open PySem L2
structure SlowAt (c:List Bell) (b p:Nat) (m:Int) (bl:Bell) (l:Lis):Prop where
  hb:c[b]?=some bl
  hp:bl.lis[p]?=some l
  m0:0≤m
  m1:l.beats+m≤1000
def LS (b k:Nat) (m:Int) (l1 l0:Lis):Prop:=l1.whom=l0.whom∧l1.back=l0.back∧l0.beats≤l1.beats∧l1.beats≤l0.beats+m∧(k≠b→l1.beats=l0.beats)
theorem fix_ge {c c':List Bell} (hc:Slow c) {b:Nat} {m D:Int} (m0:0≤m) (sl:∀ (k:Nat) b0,c[k]?=some b0→∃ b1,c'[k]?=some b1∧wants b1=wants b0∧Paired (LS b k m) b1.lis b0.lis)
    {b0 b1 n0 n1:List (Option Int)} (h:∀ (k:Nat) u,b0[k]?=some (some u)→∃ v,b1[k]?=some (some v)∧v≤u+D) (f0:Fix c b0 n0) (f1:Fix c' b1 n1) :
    ∀ (k:Nat) u,n0[k]?=some (some u)→∃ v,n1[k]?=some (some v)∧v≤u+D+m:=by
  obtain ⟨B,hB⟩:=low n0
  have all:∀ (n:Nat) (k:Nat) u,u<B+n→n0[k]?=some (some u)→∃ v,n1[k]?=some (some v)∧v≤u+D+m∧(k≠b→(∀ t,n0[b]?=some (some t)→u≤t)→v≤u+D):=by
    intro n
    induction n with
    | zero=>intro k v hv e; have:=hB v (List.mem_of_getElem? e); omega
    | succ n ih =>
      intro k u hu e
      have hk:k<c.length:=by rw [← f0.1]; exact (List.getElem?_eq_some_iff.mp e).1
      have hb:=List.getElem?_eq_getElem hk
      obtain ⟨o,ho,hd⟩:=f0.2 k _ hb
      rw [e] at ho
      cases ho
      obtain ⟨bb,hb1,hw,hp⟩:=sl k _ hb
      obtain ⟨o',ho',hd'⟩:=f1.2 k _ hb1
      rw [hw] at hd'
      obtain ⟨d1,d2⟩:=hd
      have cn:∀ E:Int,(∀ l1 l0,LS b k m l1 l0→∀ w,w+l0.beats≤u→w<u→(l0.back=true→b0[l0.whom]?=some (some w))→(l0.back=false→n0[l0.whom]?=some (some w))→∃ w',(if l1.back then b1 else n1)[l1.whom]?=some (some w')∧w'+l1.beats≤u+E)→cnt (comesOf c[k] b0 n0) u≤cnt (comesOf bb b1 n1) (u+E):=by
        intro E hE
        unfold comesOf
        rw [cnt_map,cnt_map]
        refine paired_count hp fun l1 l0 _ hl0 r hq=>?_
        obtain ⟨x,ex,hx⟩:=leO_some hq
        obtain ⟨w,hw',ew⟩:=come_some ex
        have hs:=hc k _ hb l0 hl0
        obtain ⟨w',e',l'⟩:=hE l1 l0 r w (by omega) (by omega) (fun z=>by rw [z] at hw'; exact hw') (fun z=>by rw [z] at hw'; exact hw')
        rw [come_of e']
        exact decide_eq_true l'
      have fin:∀ E:Int,cnt (comesOf c[k] b0 n0) u≤cnt (comesOf bb b1 n1) (u+E)→∃ v,o'=some v∧v≤u+E:=by
        intro E hE
        cases o' with
        | none =>
          have h1:(tot (comesOf bb b1 n1):Int)<wants c[k]:=hd'
          have:=cnt_tot (comesOf bb b1 n1) (u+E)
          omega
        | some v =>
          refine ⟨v,rfl,Classical.byContradiction fun no=>?_⟩
          have:=cnt_mono (comesOf bb b1 n1) (show u+E≤v - 1 by omega)
          have:=hd'.2
          omega
      have g1:=fin (D+m) (cn (D+m) fun l1 l0 r w hw1 hw2 hy hn=>by
        obtain ⟨r1,r2,r3,r4,r5⟩:=r
        rw [r2,r1]
        cases hbk:l0.back with
        | true =>
          obtain ⟨v,e1,e2⟩:=h _ _ (hy hbk)
          exact ⟨v,e1,by omega⟩
        | false =>
          obtain ⟨v,e1,e2,e3⟩:=ih l0.whom w (by omega) (hn hbk)
          refine ⟨v,e1,?_⟩
          by_cases hkb:k=b
          · have hwb:l0.whom≠b:=fun z=>by
              have z1:=hn hbk
              rw [z,← hkb,e] at z1
              have:=Option.some.inj (Option.some.inj z1)
              omega
            have:=e3 hwb fun t ht=>by
              rw [← hkb,e] at ht
              have:=Option.some.inj (Option.some.inj ht)
              omega
            omega
          · have:=r5 hkb
            omega)
      obtain ⟨v,rfl,hv⟩:=g1
      refine ⟨v,ho',by omega,fun hkb ht=>?_⟩
      obtain ⟨v',e',hv'⟩:=fin D (cn D fun l1 l0 r w hw1 hw2 hy hn=>by
        obtain ⟨r1,r2,r3,r4,r5⟩:=r
        have r6:=r5 hkb
        rw [r2,r1]
        cases hbk:l0.back with
        | true =>
          obtain ⟨v,e1,e2⟩:=h _ _ (hy hbk)
          exact ⟨v,e1,by omega⟩
        | false =>
          obtain ⟨v,e1,e2,e3⟩:=ih l0.whom w (by omega) (hn hbk)
          refine ⟨v,e1,?_⟩
          have hwb:l0.whom≠b:=fun z=>by
            have z1:=hn hbk
            rw [z] at z1
            have:=ht w z1
            omega
          have:=e3 hwb fun t htt=>by
            have:=ht t htt
            omega
          omega)
      cases e'
      exact hv'
  intro k u e
  obtain ⟨v,h1,h2,_⟩:=all (u - B+1).toNat k u (by have:=hB u (List.mem_of_getElem? e); omega) e
  exact ⟨v,h1,h2⟩
theorem paired_setL {α:Type} {F:α→α→Prop} (rf:∀ x,F x x) {x y:α} (h:F x y):∀ {xs:List α} (i:Nat),xs[i]?=some y→Paired F (xs.set i x) xs
  | [],_,e=>by cases e
  | z::r,0,e=>by
    cases e
    exact .cons h (paired_self rf r)
  | z::r,i+1,e=>.cons (rf z) (paired_setL rf h i (by simpa using e))
theorem slower_len {c:List Bell} {b p:Nat} {m:Int} {bl:Bell} {l:Lis}:(slower c b p m bl l).length=c.length:=List.length_set ..
theorem wants_slow {bl:Bell} {p:Nat} {l:Lis} {m:Int}:wants (slowB bl p l m)=wants bl:=by
  unfold wants slowB
  cases bl.rule with
  | all=>show ((bl.lis.set p _).length:Int)=bl.lis.length; rw [List.length_set]
  | any=>rfl
  | num n=>rfl
theorem slower_at {c:List Bell} {b p:Nat} {m:Int} {bl:Bell} {l:Lis} (S:SlowAt c b p m bl l) (k:Nat) (b0:Bell) (hk:c[k]?=some b0) :
    ∃ b1,(slower c b p m bl l)[k]?=some b1∧wants b1=wants b0∧b1.name=b0.name∧b1.start=b0.start∧b1.rule=b0.rule∧b1.lis.length=b0.lis.length∧Paired (LS b k m) b1.lis b0.lis:=by
  have hm:=S.m0
  have rf:∀ x,LS b k m x x:=fun x=>⟨rfl,rfl,Int.le_refl _,by omega,fun _=>rfl⟩
  unfold slower
  rw [List.getElem?_set]
  by_cases hkb:b=k
  · subst hkb
    have hb:=(List.getElem?_eq_some_iff.mp hk).1
    rw [if_pos rfl,if_pos hb]
    obtain rfl:bl=b0:=Option.some.inj (S.hb.symm.trans hk)
    refine ⟨_,rfl,wants_slow,rfl,rfl,rfl,List.length_set ..,?_⟩
    exact paired_setL rf (x:=slowL l m) (y:=l) ⟨rfl,rfl,by show l.beats≤l.beats+m; omega,Int.le_refl _,fun z=>absurd rfl z⟩ p S.hp
  · rw [if_neg hkb]
    exact ⟨b0,hk,rfl,rfl,rfl,rfl,rfl,paired_self rf _⟩
theorem slower_back {c:List Bell} {b p:Nat} {m:Int} {bl:Bell} {l:Lis} {k:Nat} {b1:Bell} (hk:(slower c b p m bl l)[k]?=some b1):∃ b0,c[k]?=some b0:=by
  have h:=(List.getElem?_eq_some_iff.mp hk).1
  rw [slower_len] at h
  exact ⟨_,List.getElem?_eq_getElem h⟩
theorem ls_flip {b k:Nat} {m:Int}:∀ {xs ys:List Lis},Paired (LS b k m) xs ys→Paired LQ ys xs
  | _,_,.nil=>.nil
  | _,_,.cons r t=>.cons ⟨r.1.symm,r.2.1.symm,r.2.2.1⟩ (ls_flip t)
theorem slower_quick {c:List Bell} {b p:Nat} {m:Int} {bl:Bell} {l:Lis} (S:SlowAt c b p m bl l):Quick c (slower c b p m bl l):=fun k b1 hk=>by
  obtain ⟨b0,h0⟩:=slower_back hk
  obtain ⟨b1',e1,ew,_,_,_,_,pr⟩:=slower_at S k b0 h0
  obtain rfl:b1'=b1:=Option.some.inj (e1.symm.trans hk)
  exact ⟨b0,h0,ew.symm,ls_flip pr⟩
theorem slower_lis {c:List Bell} {b p:Nat} {m:Int} {bl:Bell} {l:Lis} (S:SlowAt c b p m bl l) {k:Nat} {b1:Bell} (hk:(slower c b p m bl l)[k]?=some b1) {x:Lis} (hx:x∈b1.lis) :
    ∃ b0 y,c[k]?=some b0∧y∈b0.lis∧x.whom=y.whom∧y.beats≤x.beats∧(x.beats≤1000∨x.beats=y.beats):=by
  obtain ⟨b0,h0⟩:=slower_back hk
  have hm:=S.m0
  have hm1:=S.m1
  unfold slower at hk
  rw [List.getElem?_set] at hk
  by_cases hkb:b=k
  · subst hkb
    rw [if_pos rfl,if_pos (List.getElem?_eq_some_iff.mp h0).1] at hk
    cases hk
    obtain rfl:bl=b0:=Option.some.inj (S.hb.symm.trans h0)
    rcases List.mem_or_eq_of_mem_set hx with z | z
    · exact ⟨bl,x,h0,z,rfl,Int.le_refl _,.inr rfl⟩
    · subst z
      exact ⟨bl,l,h0,List.mem_of_getElem? S.hp,rfl,by show l.beats≤l.beats+m; omega,.inl hm1⟩
  · rw [if_neg hkb] at hk
    exact ⟨b1,x,hk,hx,rfl,Int.le_refl _,.inr rfl⟩
theorem slower_slow {c:List Bell} {b p:Nat} {m:Int} {bl:Bell} {l:Lis} (S:SlowAt c b p m bl l) (hc:Slow c):Slow (slower c b p m bl l):=fun k b1 hk x hx=>by
  obtain ⟨b0,y,h0,hy,_,h1,_⟩:=slower_lis S hk hx
  have:=hc k b0 h0 y hy
  omega
theorem slower_starts {c:List Bell} {b p:Nat} {m:Int} {bl:Bell} {l:Lis} (S:SlowAt c b p m bl l):(slower c b p m bl l).map (fun b=>some b.start)=c.map fun b=>some b.start:=by
  refine List.ext_getElem? fun k=>?_
  rw [List.getElem?_map,List.getElem?_map]
  cases hk:c[k]? with
  | none =>
    have h:=List.getElem?_eq_none_iff.mp hk
    rw [List.getElem?_eq_none (by rw [slower_len]; exact h)]
  | some b0 =>
    obtain ⟨b1,e1,_,_,es,_⟩:=slower_at S k b0 hk
    rw [e1]
    show some (some b1.start)=some (some b0.start)
    rw [es]
theorem rows_late {c:List Bell} {b p:Nat} {m:Int} {bl:Bell} {l:Lis} (S:SlowAt c b p m bl l) (hc:Slow c) {rows rows':List (List (Option Int))} (h:Rows c rows) (h':Rows (slower c b p m bl l) rows') :
    ∀ (n:Nat) x y,rows[n]?=some x→rows'[n]?=some y→Btw 0 (n * m) x y:=by
  intro n
  induction n with
  | zero =>
    intro x y ex ey
    rw [h.first x ex,h'.first y ey,slower_starts S]
    exact ⟨rfl,fun k v e=>⟨v,e,by omega⟩,fun k v e=>⟨v,e,by simp⟩⟩
  | succ n ih =>
    intro x y ex ey
    have hn:n<rows.length:=by have:=(List.getElem?_eq_some_iff.mp ex).1; omega
    have hn':n<rows'.length:=by have:=(List.getElem?_eq_some_iff.mp ey).1; omega
    have e1:=List.getElem?_eq_getElem hn
    have e2:=List.getElem?_eq_getElem hn'
    have B:=ih _ _ e1 e2
    have f0:=h.next n _ x e1 ex
    have f1:=h'.next n _ y e2 ey
    have em:((n+1:Nat):Int) * m=n * m+m:=by rw [Int.natCast_add,Int.add_mul]; simp
    refine ⟨by rw [f0.1,f1.1,slower_len],fun k v e=>?_,fun k u e=>?_⟩
    · obtain ⟨u,hu,hl⟩:=fix_le (slower_slow S hc) (slower_quick S) (fun k u hu=>by
        obtain ⟨w,hw,hl⟩:=B.le k u hu
        exact ⟨w,hw,by omega⟩) f0 f1 k v e
      exact ⟨u,hu,by omega⟩
    · obtain ⟨v,hv,hl⟩:=fix_ge hc S.m0 (fun k b0 hk=>by
        obtain ⟨b1,g1,g2,_,_,_,_,g3⟩:=slower_at S k b0 hk
        exact ⟨b1,g1,g2,g3⟩) (D:=n * m) B.ge f0 f1 k u e
      exact ⟨v,hv,by rw [em]; omega⟩
end K62.S
namespace K62.S
open PySem L2
def lateAt (c:List Bell) (n:Nat) (x y:List (Option Int)) (k:Nat):List D3:=match c[k]?,x[k]?,y[k]? with
  | some b,some (some u),some (some v)=>if u<v then [((n:Int),b.name,v - u)] else []
  | _,_,_=>[]
def lateRow (c:List Bell) (n:Nat) (x y:List (Option Int)):Nat→List D3
  | 0=>[]
  | k+1=>lateRow c n x y k++lateAt c n x y k
def rowOf (rows:List (List (Option Int))) (n:Nat):List (Option Int):=(rows[n]?).getD []
def lateAll (c:List Bell) (rows rows':List (List (Option Int))):Nat→List D3
  | 0=>[]
  | n+1=>lateAll c rows rows' n++lateRow c n (rowOf rows n) (rowOf rows' n) c.length
theorem lateAt_some {c:List Bell} {n:Nat} {x y:List (Option Int)} {k:Nat} {b:Bell} {u v:Int} (h1:c[k]?=some b) (h2:x[k]?=some (some u)) (h3:y[k]?=some (some v)):lateAt c n x y k=if u<v then [((n:Int),b.name,v - u)] else []:=by
  unfold lateAt
  rw [h1,h2,h3]
theorem lateAt_none {c:List Bell} {n:Nat} {x y:List (Option Int)} {k:Nat} (h2:x[k]?=some none):lateAt c n x y k=[]:=by
  unfold lateAt
  rw [h2]
  cases c[k]? <;> rfl
theorem lateAt_len (c:List Bell) (n:Nat) (x y:List (Option Int)) (k:Nat):(lateAt c n x y k).length≤1:=by
  unfold lateAt
  split
  · split
    · exact Nat.le_refl 1
    · exact Nat.zero_le 1
  · exact Nat.zero_le 1
theorem lateRow_len (c:List Bell) (n:Nat) (x y:List (Option Int)):∀ k,(lateRow c n x y k).length≤k
  | 0=>Nat.le_refl 0
  | k+1=>by
    have:=lateRow_len c n x y k
    have:=lateAt_len c n x y k
    unfold lateRow
    rw [List.length_append]
    omega
theorem lateAll_len {c:List Bell} (h:c.length≤6) (rows rows':List (List (Option Int))):∀ n,(lateAll c rows rows' n).length≤n * 6
  | 0=>Nat.le_refl 0
  | n+1=>by
    have:=lateAll_len h rows rows' n
    have:=lateRow_len c n (rowOf rows n) (rowOf rows' n) c.length
    unfold lateAll
    rw [List.length_append]
    omega
theorem rowOf_at {rows:List (List (Option Int))} {n:Nat} {x:List (Option Int)} (h:rows[n]?=some x):rowOf rows n=x:=by
  unfold rowOf
  rw [h]
  rfl
theorem slower_fine {c:List Bell} {b p:Nat} {m:Int} {bl:Bell} {l:Lis} (S:SlowAt c b p m bl l) (h:Fine c):Fine (slower c b p m bl l):=by
  refine ⟨by rw [slower_len]; exact h.1,fun k b1 hk=>?_⟩
  obtain ⟨b0,h0⟩:=slower_back hk
  obtain ⟨b1',e1,ew,en,es,er,el,pr⟩:=slower_at S k b0 h0
  obtain rfl:b1'=b1:=Option.some.inj (e1.symm.trans hk)
  obtain ⟨g1,g2,g3,g4⟩:=h.2 k b0 h0
  refine ⟨by omega,by omega,by rw [el,er]; exact g3,fun x hx=>?_⟩
  obtain ⟨b0',y,h0',hy,e2,e3,_⟩:=slower_lis S hk hx
  obtain rfl:b0=b0':=Option.some.inj (h0.symm.trans h0')
  obtain ⟨g5,g6⟩:=g4 y hy
  rw [slower_len]
  exact ⟨by omega,by omega⟩
def But (t:Addr) (H H':Hp):Prop:=∀ a o,a≠t→H a=some o→H' a=some o
theorem But.refl (t:Addr) (H:Hp):But t H H:=fun _ _ _ h=>h
theorem But.trans {t:Addr} {H H1 H2:Hp} (a:But t H H1) (b:But t H1 H2):But t H H2:=fun c o n h=>b c o n (a c o n h)
theorem Same.but {t:Addr} {H H':Hp} (s:Same H H'):But t H H':=fun a o _ h=>s a o h
theorem But.upd {t:Addr} {H H':Hp} (s:But t H H') (o:HO):But t H (upd H' t o):=fun a u n h=>by rw [upd_ne n]; exact s a u n h
theorem D3At.but {t:Addr} {H H':Hp} {ws:List V} (ht:H t=some (.lst ws)) (s:But t H H') {v:V} {d:D3} (h:D3At H v d):D3At H' v d:=by
  obtain ⟨a,e,q⟩:=h
  exact ⟨a,e,s _ _ (ne_of q ht (by intro z; cases z)) q⟩
theorem oV_at {x:List (Option Int)} {k:Nat} {v:V} (h:(x.map oV)[k]?=some v):∃ o,x[k]?=some o∧v=oV o:=by
  rw [List.getElem?_map] at h
  cases e:x[k]? with
  | none=>rw [e] at h; cases h
  | some o=>rw [e] at h; exact ⟨o,rfl,(Option.some.inj h).symm⟩
theorem atI_oV {x:List (Option Int)} {k:Nat} {o:Option Int} (h:x[k]?=some o):atI (x.map oV) (k:Int)=some (oV o):=atI_nat (by rw [List.getElem?_map,h]; rfl)
section
variable {P:Program} {w:World} {K:PySem.W.Frag} {mg:Str→Option Value} {base:Heap} {f:Addr} {fd:FuncData}
theorem toAt {c:List Bell} {x y z:V} {b p:Nat} {m:Int} {bl:Bell} {l:Lis} (S:K62.Slow c x y z b p m bl l):SlowAt c b p m bl l:=⟨S.hb,S.hp,S.m0,S.m1⟩
def sp_lstrokes (N:Addr):Sp:=fun vs H Q E=>∃ (ch:V) (c:List Bell) (x y z:V) (many:Nat),vs=[ch,x,y,z,.int many]∧ChoirAt H ch c∧Fine c∧(∀ bl∈c,bl.lis.length≤6)∧Fl x∧Fl y∧Fl z∧many≤60∧
  (∀ b p m bl l,K62.Slow c x y z b p m bl l→∀ (H':Hp) (t:Addr) (vs:List V) (rows rows':List (List (Option Int))),Same H H'→H t=none→H' t=some (.lst vs)→rows.length=many+1→rows'.length=many+1→Rows c rows→Rows (slower c b p m bl l) rows'→Paired (D3At H') vs (sortB (lateAll c rows rows' (many+1)))→Q (.ref t) H')∧
  ((∀ b p m bl l,¬ K62.Slow c x y z b p m bl l)→E (.ref N) none H)
theorem sc_lstrokes:FnScope ["choir","bell","place","more","many","slower","told","n","pair","number","beat"] ["choir","bell","place","more","many"] (defScope s_later_strokes):=⟨rfl,rfl,rfl,by decide +kernel,rfl,by decide +kernel,by decide +kernel⟩
theorem ok_lstrokes {N:Addr} (F:Fun K "later_strokes" "later_strokes" s_later_strokes f fd) (B:Blt mg) (C_slower:CalX P w K mg base 4 "made_slower" ["choir","bell","place","more"] (K62.sp_slower N)) (C_strokes:Cal P w K mg base 7 "strokes" ["choir","many"] sp_strokes) :
    FnOk P w K mg base (CXE P w) 8 f fd ["choir","bell","place","more","many"] (sp_lstrokes N):=by
  refine F.okX sc_lstrokes (fun vs H Q E h=>?_) (fun cdv A outer s H vs Q E hr h=>?_)
  · obtain ⟨ch,c,x,y,z,many,rfl,_⟩:=h
    rfl
  obtain ⟨ch,c,x,y,z,many,rfl,hch,fc,l6,fx,fy,fz,h4,q0,qE⟩:=h
  refine ⟨_,(pss_cons (ps_set (i:=5) sc_lstrokes.nd rfl (Or.inl rfl) (pe_fnX C_slower passes_cx hr (by decide) rfl (pa_cons (pv 0) (pa_cons (pv 1) (pa_cons (pv 2) (pa_cons (pv 3) pa_nil))))))
    (pss_cons (ps_set (i:=6) sc_lstrokes.nd rfl (Or.inl rfl) (pe_lst pa_nil))
    (pss_cons (ps_for PassesOwn.leaving rfl (pi_enumZ false false rfl B.enumerate_ rfl B.zip_ (pa_cons (pe_fn C_strokes hr (by decide) rfl (pa_cons (pv 0) (pa_cons (pv 4) pa_nil))) (pa_cons (pe_fn C_strokes hr (by decide) rfl (pa_cons (pv 5) (pa_cons (pv 4) pa_nil))) pa_nil))) (pg_tup rfl (pgs_cons (pg_name (i:=7) sc_lstrokes.nd rfl (Or.inl rfl)) (pgs_cons (pg_name (i:=8) sc_lstrokes.nd rfl (Or.inl rfl)) pgs_nil)))
    (pss_one (ps_for PassesOwn.leaving rfl (pi_enum rfl B.enumerate_ (pa_cons (pe_ix ix_tup (pv 8) pe_int (fun _ _=>rfl)) pa_nil)) (pg_tup rfl (pgs_cons (pg_name (i:=9) sc_lstrokes.nd rfl (Or.inl rfl)) (pgs_cons (pg_name (i:=10) sc_lstrokes.nd rfl (Or.inl rfl)) pgs_nil)))
    (pss_one (ps_if (PW.pt (pw_and (pt_cmpR op_notN (pv 10) pe_non (nomark _)) (pw_and1 (pt_cmpR op_gt (pe_ix ix_list (pe_ix ix_tup (pv 8) pe_int (fun _ _=>rfl)) (pv 9) (fun _ _=>rfl)) (pv 10) (nomark _)))))
    (pss_one (ps_expr (pe_bm PySem.F.plainAttrs_list PySem.F.slot_list_append PySem.F.type_list_append mt_append (pv 6) (pa_cons (pe_tup (pa_cons (pv 7) (pa_cons (pe_ix ix_tup (pe_ix ix_tup (pv 0) (pv 9) (fun _ _=>rfl)) pe_int (fun _ _=>rfl)) (pa_cons (pe_op op_sub (pe_ix ix_list (pe_ix ix_tup (pv 8) pe_int (fun _ _=>rfl)) (pv 9) (fun _ _=>rfl)) (pv 10)) pa_nil)))) pa_nil))))
    pss_nil)))))
    (pss_one (ps_ret (pe_callB call_sortedB rfl B.sorted_ PyProof.Rows.boot_sorted (pa_cons (pv 6) pa_nil))))))),?_⟩
  refine ⟨_,rfl,_,rfl,_,rfl,_,rfl,ch,c,x,y,z,rfl,hch,fc.1,l6,fx,fy,fz,fun b p m bl l S0 sv H1 s1 hsv=>?_,qE⟩
  have S:=toAt S0
  have q:=q0 b p m bl l S0
  refine ⟨(by show 0≤sizeLine; decide),fun t ht=>?_⟩
  have s2:=same_new ht (.lst [])
  have nt:H t=none:=s1.free ht
  refine ⟨_,rfl,_,rfl,ch,c,many,rfl,hch.mono (Same.tup (s1.trans s2)),fc,by omega,fun H2 t1 told1 rows s3 n1 ht1 pr1 hl1 R1=>?_⟩
  refine ⟨_,rfl,_,rfl,sv,_,many,rfl,hsv.mono (Same.tup (s2.trans s3)),slower_fine S fc,by omega,fun H3 t2 told2 rows' s4 n2 ht2 pr2 hl2 R2=>?_⟩
  have late:=rows_late S fc.slow R1 R2
  have htt:(upd H1 t (.lst [])) t=some (.lst []):=upd_same
  have ht3:H3 t=some (.lst []):=s4 _ _ (s3 _ _ htt)
  have t1t:t1≠t:=fun e=>by rw [e,htt] at n1; cases n1
  have t2t:t2≠t:=fun e=>by rw [e,s3 _ _ htt] at n2; cases n2
  have ht13:=s4 _ _ ht1
  have s13:=s1.trans (s2.trans (s3.trans s4))
  have hch3:=hch.mono (Same.tup s13)
  have e1:=paired_len pr1
  have e2:=paired_len pr2
  have c6:=fc.1
  refine ⟨t1,t2,rfl,⟨_,SqL.of ht13⟩,⟨_,SqL.of ht2⟩,?_⟩
  refine for_enumZ (K:=K) (t1:=false) (t2:=false) (xs:=told1) (ys:=told2) (fun i σ H4=>∃ (o7 o8 o9 o10:Option V) (ws:List V),σ=[some ch,some x,some y,some z,some (.int many),some sv,some (.ref t),o7,o8,o9,o10]∧But t H3 H4∧H4 t=some (.lst ws)∧Paired (D3At H4) ws (lateAll c rows rows' i))
    ⟨none,none,none,none,[],rfl,.refl t H3,ht3,.nil⟩ ?_ ?_ ?_
  · rintro i σ H4 _ ⟨o7,o8,o9,o10,ws,rfl,b4,_⟩
    exact ⟨SqL.of (b4 _ _ t1t ht13),SqL.of (b4 _ _ t2t ht2)⟩
  · rintro i x1 y1 σ H4 T2 T hx hy ⟨o7,o8,o9,o10,ws,rfl,b4,ht4,pd⟩ hT2 hT
    obtain ⟨rx,erx,xa,rfl,⟨xn,_⟩,hxa⟩:=paired_at pr1 hx
    obtain ⟨ry,ery,ya,rfl,⟨yn,_⟩,hya⟩:=paired_at pr2 hy
    have xt:xa≠t:=fun e=>by rw [e,htt] at xn; cases xn
    have yt:ya≠t:=fun e=>by rw [e,s3 _ _ htt] at yn; cases yn
    have BT:=late i rx ry erx ery
    have lx:=R1.len i rx erx
    have b5:But t H4 (upd (upd H4 T2 (.tup [.ref xa,.ref ya])) T (.tup [.int (i:Int),.ref T2])):=Same.but ((same_new hT2 _).trans (same_new hT _))
    have hT5:(upd (upd H4 T2 (.tup [.ref xa,.ref ya])) T (.tup [.int (i:Int),.ref T2])) T=some (.tup [.int (i:Int),.ref T2]):=upd_same
    have hT25:(upd (upd H4 T2 (.tup [.ref xa,.ref ya])) T (.tup [.int (i:Int),.ref T2])) T2=some (.tup [.ref xa,.ref ya]):=same_new hT _ _ _ upd_same
    have ht5:(upd (upd H4 T2 (.tup [.ref xa,.ref ya])) T (.tup [.int (i:Int),.ref T2])) t=some (.lst ws):=((same_new hT2 _).trans (same_new hT _)) _ _ ht4
    generalize (upd (upd H4 T2 (.tup [.ref xa,.ref ya])) T (.tup [.int (i:Int),.ref T2]))=H5 at b5 hT5 hT25 ht5 ⊢
    have b35:=b4.trans b5
    have pd5:=paired_imp (fun _ _ z=>D3At.but ht4 b5 z) pd
    have T2t:T2≠t:=ne_of hT25 ht5 (by intro z; cases z)
    refine ⟨T,_,rfl,SqT.of hT5,rfl,_,_,rfl,_,_,rfl,rfl,?_⟩
    refine ⟨_,rfl,T2,_,_,_,rfl,rfl,SqT.of hT25,rfl,xa,rfl,⟨_,SqL.of (b35 _ _ xt (s4 _ _ hxa))⟩,?_⟩
    refine for_enum (K:=K) (xs:=rx.map oV) (fun k σ H6=>∃ (o9 o10:Option V) (ws:List V),σ=[some ch,some x,some y,some z,some (.int many),some sv,some (.ref t),some (.int (i:Int)),some (.ref T2),o9,o10]∧But t H5 H6∧H6 t=some (.lst ws)∧Paired (D3At H6) ws (lateAll c rows rows' i++lateRow c i rx ry k))
      ⟨o9,o10,ws,rfl,.refl t H5,ht5,by unfold lateRow; rw [List.append_nil]; exact pd5⟩ ?_ ?_ ?_
    · rintro k σ H6 _ ⟨o9,o10,ws,rfl,b6,_⟩
      exact SqL.of ((b35.trans b6) _ _ xt (s4 _ _ hxa))
    · rintro k v σ H6 T' hv ⟨o9,o10,ws,rfl,b6,ht6,pd6⟩ hT'
      obtain ⟨o,eo,rfl⟩:=oV_at hv
      have b7:But t H6 (upd H6 T' (.tup [.int (k:Int),oV o])):=Same.but (same_new hT' _)
      have hT7:(upd H6 T' (.tup [.int (k:Int),oV o])) T'=some (.tup [.int (k:Int),oV o]):=upd_same
      have ht7:=same_new hT' (.tup [.int (k:Int),oV o]) _ _ ht6
      generalize (upd H6 T' (.tup [.int (k:Int),oV o]))=H7 at b7 hT7 ht7 ⊢
      have pd7:=paired_imp (fun _ _ z=>D3At.but ht6 b7 z) pd6
      have b57:=b6.trans b7
      have b37:=b35.trans b57
      have hk:k<c.length:=by rw [← lx]; exact (List.getElem?_eq_some_iff.mp eo).1
      refine ⟨T',_,rfl,SqT.of hT7,rfl,_,_,rfl,_,_,rfl,rfl,?_⟩
      refine ⟨_,rfl,rfl,_,rfl,?_⟩
      cases o with
      | none =>
        refine iteF (iteF ⟨_,_,ws,rfl,b57,ht7,?_⟩)
        unfold lateRow
        rw [lateAt_none eo,List.append_nil]
        exact pd7
      | some u =>
        obtain ⟨v,ev,hvl⟩:=BT.ge k u eo
        have hb:=List.getElem?_eq_getElem hk
        have hT27:=b57 _ _ T2t hT25
        have hya7:=b37 _ _ yt hya
        refine iteT ⟨_,rfl,T2,_,_,_,rfl,rfl,SqT.of hT27,rfl,_,rfl,ya,_,_,_,rfl,rfl,SqL.of hya7,atI_oV ev,_,rfl,_,_,rfl,rfl,_,rfl,?_⟩
        refine ite2 (fun cc=>?_) (fun cc=>?_)
        · have cl:u<v:=of_decide_eq_true cc
          obtain ⟨ca,bs,rfl,hca,prb⟩:=hch3
          obtain ⟨bv,ebv,ba,tt,ls,rfl,hba,_⟩:=paired_at' prb hb
          have hca7:=b37 _ _ (ne_of hca ht3 (by intro z; cases z)) hca
          have hba7:=b37 _ _ (ne_of hba ht3 (by intro z; cases z)) hba
          refine ⟨_,rfl,.inl ⟨rfl,_,SqL.of ht7⟩,_,rfl,_,rfl,_,rfl,ca,_,_,_,rfl,rfl,SqT.of hca7,atI_nat ebv,ba,_,_,_,rfl,rfl,SqT.of hba7,rfl,_,rfl,T2,_,_,_,rfl,rfl,SqT.of hT27,rfl,_,rfl,ya,_,_,_,rfl,rfl,SqL.of hya7,atI_oV ev,_,rfl,_,_,rfl,rfl,(by show 3≤sizeLine; decide),fun d hd=>?_⟩
          have s8:=same_new hd (.tup [.int (i:Int),.str c[k].name,.int (v - u)])
          have ht8:=s8 _ _ ht7
          have hd8:(upd H7 d (.tup [.int (i:Int),.str c[k].name,.int (v - u)])) d=some (.tup [.int (i:Int),.str c[k].name,.int (v - u)]):=upd_same
          have dt:d≠t:=ne_of hd8 ht8 (by intro z; cases z)
          have lw:=paired_len pd7
          rw [List.length_append] at lw
          have l1:=lateAll_len c6 rows rows' i
          have l2:=lateRow_len c i rx ry k
          have hi:i<many+1:=by have:=(List.getElem?_eq_some_iff.mp erx).1; omega
          refine ⟨t,ws,_,rfl,rfl,ht8,small1000 (by omega),?_⟩
          have b9:But t H7 (upd (upd H7 d (.tup [.int (i:Int),.str c[k].name,.int (v - u)])) t (.lst (ws++[.ref d]))):=(Same.but s8).upd _
          refine ⟨_,_,ws++[.ref d],rfl,b57.trans b9,upd_same,?_⟩
          unfold lateRow
          rw [lateAt_some hb eo ev,if_pos cl,← List.append_assoc]
          exact paired_snoc ⟨d,rfl,by rw [upd_ne dt]; exact hd8⟩ (paired_imp (fun _ _ z=>D3At.but ht7 b9 z) pd7)
        · refine ⟨_,_,ws,rfl,b57,ht7,?_⟩
          have cl:¬ u<v:=fun z=>cc (decide_eq_true z)
          unfold lateRow
          rw [lateAt_some hb eo ev,if_neg cl,List.append_nil]
          exact pd7
    · rintro σ H6 ⟨o9,o10,ws,rfl,b6,ht6,pd6⟩
      refine ⟨_,_,o9,o10,ws,rfl,b35.trans b6,ht6,?_⟩
      rw [List.length_map,lx] at pd6
      unfold lateAll
      rw [rowOf_at erx,rowOf_at ery]
      exact pd6
  · rintro σ H4 ⟨o7,o8,o9,o10,ws,rfl,b4,ht4,pd⟩
    have em:min told1.length told2.length=many+1:=by omega
    rw [em] at pd
    have l1:=lateAll_len c6 rows rows' (many+1)
    refine ⟨_,rfl,t,ws,_,rfl,SqL.of ht4,pd,by omega,fun r vs' hr' pd'=>?_⟩
    have s9:=same_new hr' (.lst vs')
    refine q _ r vs' rows rows' ?_ ?_ upd_same hl1 hl2 R1 R2 (paired_imp (fun _ _ ⟨a,e,z⟩=>⟨a,e,s9 _ _ z⟩) pd')
    · exact fun a o e=>s9 _ _ (b4 _ _ (ne_of_none e nt) (s13 _ _ e))
    · cases e:H r with
      | none=>rfl
      | some o =>
        have:=b4 _ _ (ne_of_none e nt) (s13 _ _ e)
        rw [this] at hr'
        cases hr'
end
end K62.S
namespace K62.S
open PySem L2
theorem rows_ex {c:List Bell} (hc:Slow c) (hw:Wanted c):∀ n:Nat,∃ rows:List (List (Option Int)),rows.length=n+1∧Rows c rows
  | 0=>⟨[c.map fun b=>some b.start],rfl,⟨fun row h=>(Option.some.inj h).symm,fun n x y _ h=>by cases n <;> cases h⟩⟩
  | n+1=>by
    obtain ⟨rows,hl,R⟩:=rows_ex hc hw n
    have e:=List.getElem?_eq_getElem (show n<rows.length by omega)
    obtain ⟨now,f⟩:=fix_exists hc hw rows[n]
    refine ⟨rows++[now],by rw [List.length_append,hl]; rfl,?_⟩
    refine R.snoc (fun z=>by rw [z] at hl; cases hl) (fun x hx _=>?_)
    rw [hl] at hx
    have hx':rows[n]?=some x:=hx
    rw [e] at hx'
    cases hx'
    exact f
theorem fine_wanted {c:List Bell} (fc:Fine c):Wanted c:=fun k b hb=>wants_pos (fc.2 k b hb).1 (fc.2 k b hb).2.2.1
section
variable {P:Program} {w:World} {K:PySem.W.Frag} {mg:Str→Option Value} {base:Heap} {f:Addr} {fd:FuncData}
def sp_lslower:Sp:=fun vs H Q _=>∃ (ch:V) (c:List Bell) (b p:Nat) (m:Int) (bl:Bell) (l:Lis),vs=[ch,.int b,.int p,.int m]∧ChoirAt H ch c∧c.length≤6∧(∀ bl∈c,bl.lis.length≤6)∧SlowAt c b p m bl l∧∀ v H',Same H H'→ChoirAt H' v (slower c b p m bl l)→Q v H'
theorem sc_lslower:FnScope ["_law_choir_here","_law_bell_here","_law_place","_law_more","_law_listenings","_law_name","_law_start","_law_rule","_law_whom","_law_beats","_law_back"] ["_law_choir_here","_law_bell_here","_law_place","_law_more"] (defScope s_lslower):=⟨rfl,rfl,rfl,by decide +kernel,rfl,by decide +kernel,by decide +kernel⟩
theorem ok_lslower (F:Fun K "_law_slower" "_law_slower" s_lslower f fd):FnOk P w K mg base CX0 1 f fd ["_law_choir_here","_law_bell_here","_law_place","_law_more"] sp_lslower:=by
  refine F.ok sc_lslower (fun vs H Q E h=>?_) (fun cdv A outer s H vs Q E hr h=>?_)
  · obtain ⟨ch,c,b,p,m,bl,l,rfl,_⟩:=h
    rfl
  obtain ⟨ch,c,b,p,m,bl,l,rfl,⟨a,vs,rfl,ha,pr⟩,c6,l6,S,q⟩:=h
  refine ⟨_,(pss_cons (ps_asg (pe_ix ix_tup (pv 0) (pv 1) (fun _ _=>rfl)) (pg_tup rfl (pgs_cons (pg_name (i:=5) sc_lslower.nd rfl (Or.inl rfl)) (pgs_cons (pg_name (i:=6) sc_lslower.nd rfl (Or.inl rfl)) (pgs_cons (pg_name (i:=7) sc_lslower.nd rfl (Or.inl rfl)) (pgs_cons (pg_name (i:=4) sc_lslower.nd rfl (Or.inl rfl)) pgs_nil))))))
    (pss_cons (ps_asg (pe_ix ix_tup (pv 4) (pv 2) (fun _ _=>rfl)) (pg_tup rfl (pgs_cons (pg_name (i:=8) sc_lslower.nd rfl (Or.inl rfl)) (pgs_cons (pg_name (i:=9) sc_lslower.nd rfl (Or.inl rfl)) (pgs_cons (pg_name (i:=10) sc_lslower.nd rfl (Or.inl rfl)) pgs_nil)))))
    (pss_cons (ps_set (i:=4) sc_lslower.nd rfl (Or.inl rfl) (pe_op op_catA (pe_op op_catA (pe_slice sl_tupS (pv 4) po_none (po_some (pv 2))) (pe_tup (pa_cons (pe_tup (pa_cons (pv 8) (pa_cons (pe_op op_add (pv 9) (pv 3)) (pa_cons (pv 10) pa_nil)))) pa_nil))) (pe_slice sl_tupS (pv 4) (po_some (pe_op op_add (pv 2) pe_int)) po_none)))
    (pss_one (ps_ret (pe_op op_catA (pe_op op_catA (pe_slice sl_tupS (pv 0) po_none (po_some (pv 1))) (pe_tup (pa_cons (pe_tup (pa_cons (pv 5) (pa_cons (pv 6) (pa_cons (pv 7) (pa_cons (pv 4) pa_nil))))) pa_nil))) (pe_slice sl_tupS (pv 0) (po_some (pe_op op_add (pv 1) pe_int)) po_none))))))),?_⟩
  have hvl:=paired_len pr
  obtain ⟨bv,hv,ba,t,ls,rfl,hba,ht,prl⟩:=paired_at' pr S.hb
  obtain ⟨lv,hlv,la,rfl,hla⟩:=paired_at' prl S.hp
  have hbv:b<vs.length:=(List.getElem?_eq_some_iff.mp hv).1
  have hpv:p<ls.length:=(List.getElem?_eq_some_iff.mp hlv).1
  have hll:=paired_len prl
  have hbl6:=l6 bl (List.mem_of_getElem? S.hb)
  refine ⟨_,rfl,_,rfl,a,_,_,_,rfl,rfl,SqT.of ha,atI_nat hv,ba,_,rfl,SqT.of hba,rfl,_,_,rfl,_,_,rfl,_,_,rfl,_,_,rfl,rfl,?_⟩
  refine ⟨_,rfl,_,rfl,t,_,_,_,rfl,rfl,SqT.of ht,atI_nat hlv,la,_,rfl,SqT.of hla,rfl,_,_,rfl,_,_,rfl,_,_,rfl,rfl,?_⟩
  refine ⟨_,rfl,_,rfl,_,rfl,t,ls,rfl,ht,fun p1 H1 s1 hp1=>?_⟩
  rw [cut_to (Nat.le_of_lt hpv)] at hp1
  refine ⟨_,rfl,_,rfl,_,rfl,_,_,rfl,rfl,_,rfl,(by show 3≤sizeLine; decide),fun sl hsl=>?_⟩
  have v0:=same_new hsl (.tup [.int l.whom,.int (l.beats+m),.int (if l.back then 1 else 0)])
  have hsl1:(upd H1 sl (.tup [.int l.whom,.int (l.beats+m),.int (if l.back then 1 else 0)])) sl=some (.tup (lisV (slowL l m))):=upd_same
  refine ⟨(by show 1≤sizeLine; decide),fun t1 ht1=>?_⟩
  have v1:=same_new ht1 (.tup [.ref sl])
  refine ⟨p1,t1,_,_,rfl,rfl,v1 _ _ (v0 _ _ hp1),upd_same,(by rw [List.length_take,sizeLine_eq]; show _+1≤_; omega),fun p2 H2 s2 hp2=>?_⟩
  have s02:=s1.trans (v0.trans (v1.trans s2))
  refine ⟨_,rfl,_,rfl,_,_,rfl,rfl,_,rfl,t,ls,rfl,s02 _ _ ht,fun p3 H3 s3 hp3=>?_⟩
  rw [show (p:Int)+1=((p+1:Nat):Int) by omega,cut_on hpv] at hp3
  refine ⟨p2,p3,_,_,rfl,rfl,s3 _ _ hp2,hp3,(by rw [List.length_append,List.length_take,List.length_drop,sizeLine_eq]; show _+1+_≤_; omega),fun p4 H4 s4 hp4=>?_⟩
  rw [set_cat hpv] at hp4
  have s04:=s02.trans (s3.trans s4)
  have hsl4:=s4 _ _ (s3 _ _ (s2 _ _ (v1 _ _ hsl1)))
  refine ⟨_,rfl,_,rfl,_,rfl,a,vs,rfl,s04 _ _ ha,fun q1 H5 s5 hq1=>?_⟩
  rw [cut_to (Nat.le_of_lt hbv)] at hq1
  refine ⟨_,rfl,_,rfl,_,rfl,_,rfl,(by show 4≤sizeLine; decide),fun nb hnb=>?_⟩
  have v2:=same_new hnb (.tup [.str bl.name,.int bl.start,rwV bl.rule,.ref p4])
  have hnb1:(upd H5 nb (.tup [.str bl.name,.int bl.start,rwV bl.rule,.ref p4])) nb=some (.tup [.str bl.name,.int bl.start,rwV bl.rule,.ref p4]):=upd_same
  refine ⟨(by show 1≤sizeLine; decide),fun t2 ht2=>?_⟩
  have v3:=same_new ht2 (.tup [.ref nb])
  refine ⟨q1,t2,_,_,rfl,rfl,v3 _ _ (v2 _ _ hq1),upd_same,(by rw [List.length_take,sizeLine_eq]; show _+1≤_; omega),fun q2 H6 s6 hq2=>?_⟩
  have s06:=s04.trans (s5.trans (v2.trans (v3.trans s6)))
  refine ⟨_,rfl,_,rfl,_,_,rfl,rfl,_,rfl,a,vs,rfl,s06 _ _ ha,fun q3 H7 s7 hq3=>?_⟩
  rw [show (b:Int)+1=((b+1:Nat):Int) by omega,cut_on hbv] at hq3
  refine ⟨q2,q3,_,_,rfl,rfl,s7 _ _ hq2,hq3,(by rw [List.length_append,List.length_take,List.length_drop,sizeLine_eq]; show _+1+_≤_; omega),fun q4 H8 s8 hq4=>?_⟩
  rw [set_cat hbv] at hq4
  have s48:=s5.trans (v2.trans (v3.trans (s6.trans (s7.trans s8))))
  have s08:=s04.trans s48
  refine q _ H8 s08 ⟨q4,vs.set b (.ref nb),rfl,hq4,paired_set ?_ b (paired_imp (fun _ _ x=>x.mono (Same.tup s08)) pr)⟩
  refine ⟨nb,p4,ls.set p (.ref sl),rfl,s8 _ _ (s7 _ _ (s6 _ _ (v3 _ _ hnb1))),s48 _ _ hp4,paired_set ?_ p (paired_imp (fun _ _ x=>x.mono (Same.tup s08)) prl)⟩
  exact ⟨sl,rfl,s48 _ _ hsl4⟩
end
end K62.S
namespace K62.S
open PySem L2
section
variable {P:Program} {w:World} {K:PySem.W.Frag} {mg:Str→Option Value} {base:Heap} {f:Addr} {fd:FuncData}
def sp_due:Sp:=fun vs H Q _=>∃ (v1 v2:V) (c:List Bell) (b p:Nat) (m:Int) (bl:Bell) (l:Lis) (many:Nat),vs=[v1,v2,.int many]∧ChoirAt H v1 c∧ChoirAt H v2 (slower c b p m bl l)∧Fine c∧SlowAt c b p m bl l∧many≤60∧
  ∀ (H':Hp) (t:Addr) (vs:List V) (rows rows':List (List (Option Int))),Same H H'→H t=none→H' t=some (.lst vs)→rows.length=many+1→rows'.length=many+1→Rows c rows→Rows (slower c b p m bl l) rows'→Paired (D3At H') vs (sortB (lateAll c rows rows' (many+1)))→Q (.ref t) H'
theorem sc_due:FnScope ["_law_choir_here","_law_other","_law_many","_law_ahead","_law_behind","_law_some","_law_n","_law_k"] ["_law_choir_here","_law_other","_law_many"] (defScope s_due):=⟨rfl,rfl,rfl,by decide +kernel,rfl,by decide +kernel,by decide +kernel⟩
theorem ok_due (F:Fun K "_law_due" "_law_due" s_due f fd) (B:Blt mg) (C_going:Cal P w K mg base 2 "_law_going" ["_law_choir_here","_law_many"] sp_lgoing):FnOk P w K mg base CX0 3 f fd ["_law_choir_here","_law_other","_law_many"] sp_due:=by
  refine F.ok sc_due (fun vs H Q E h=>?_) (fun cdv A outer s H vs Q E hr h=>?_)
  · obtain ⟨v1,v2,c,b,p,m,bl,l,many,rfl,_⟩:=h
    rfl
  obtain ⟨v1,v2,c,b,p,m,bl,l,many,rfl,hch,hch2,fc,S,h60,q⟩:=h
  refine ⟨_,(pss_cons (ps_set (i:=3) sc_due.nd rfl (Or.inl rfl) (pe_fn C_going hr (by decide) rfl (pa_cons (pv 0) (pa_cons (pv 2) pa_nil))))
    (pss_cons (ps_set (i:=4) sc_due.nd rfl (Or.inl rfl) (pe_fn C_going hr (by decide) rfl (pa_cons (pv 1) (pa_cons (pv 2) pa_nil))))
    (pss_cons (ps_set (i:=5) sc_due.nd rfl (Or.inl rfl) (pe_lst pa_nil))
    (pss_cons (ps_for PassesOwn.never rfl (pi_range1 rfl B.range_ (pa_cons (pe_op op_add (pv 2) pe_int) pa_nil)) (pg_name (i:=6) sc_due.nd rfl (Or.inl rfl))
    (pss_one (ps_for PassesOwn.never rfl (pi_range1 rfl B.range_ (pa_cons (pe_callB call_len_seq rfl B.len_ PySem.boot_len (pa_cons (pv 0) pa_nil)) pa_nil)) (pg_name (i:=7) sc_due.nd rfl (Or.inl rfl))
    (pss_one (ps_if (PW.pt (pw_and (pt_cmpR op_notN (pe_ix ix_list (pe_ix ix_list (pv 3) (pv 6) (fun _ _=>rfl)) (pv 7) (fun _ _=>rfl)) pe_non (nomark _)) (pw_and1 (pt_cmpR op_ne (pe_ix ix_list (pe_ix ix_list (pv 4) (pv 6) (fun _ _=>rfl)) (pv 7) (fun _ _=>rfl)) (pe_ix ix_list (pe_ix ix_list (pv 3) (pv 6) (fun _ _=>rfl)) (pv 7) (fun _ _=>rfl)) (nomark _)))))
    (pss_one (ps_expr (pe_bm PySem.F.plainAttrs_list PySem.F.slot_list_append PySem.F.type_list_append mt_append (pv 5) (pa_cons (pe_tup (pa_cons (pv 6) (pa_cons (pe_ix ix_tup (pe_ix ix_tup (pv 0) (pv 7) (fun _ _=>rfl)) pe_int (fun _ _=>rfl)) (pa_cons (pe_op op_sub (pe_ix ix_list (pe_ix ix_list (pv 4) (pv 6) (fun _ _=>rfl)) (pv 7) (fun _ _=>rfl)) (pe_ix ix_list (pe_ix ix_list (pv 3) (pv 6) (fun _ _=>rfl)) (pv 7) (fun _ _=>rfl))) pa_nil)))) pa_nil))))
    pss_nil)))))
    (pss_one (ps_ret (pe_callB call_sortedB rfl B.sorted_ PyProof.Rows.boot_sorted (pa_cons (pv 5) pa_nil)))))))),?_⟩
  have fc2:=slower_fine S fc
  obtain ⟨rows,hl1,R1⟩:=rows_ex fc.slow (fine_wanted fc) many
  obtain ⟨rows',hl2,R2⟩:=rows_ex fc2.slow (fine_wanted fc2) many
  have late:=rows_late S fc.slow R1 R2
  have c6:=fc.1
  refine ⟨_,rfl,_,rfl,v1,c,many,rows,rfl,hch,fc,by omega,hl1,R1,fun H1 t1 told1 s1 n1 ht1 pr1=>?_⟩
  refine ⟨_,rfl,_,rfl,v2,_,many,rows',rfl,hch2.mono (Same.tup s1),fc2,by omega,hl2,R2,fun H2 t2 told2 s2 n2 ht2 pr2=>?_⟩
  refine ⟨(by show 0≤sizeLine; decide),fun t ht=>?_⟩
  have s3:=same_new ht (.lst [])
  have s02:=s1.trans s2
  have nt:H t=none:=s02.free ht
  have s03:=s02.trans s3
  have htt:(upd H2 t (.lst [])) t=some (.lst []):=upd_same
  have ht13:=s3 _ _ (s2 _ _ ht1)
  have ht23:=s3 _ _ ht2
  have t1t:t1≠t:=ne_of_none (s2 _ _ ht1) ht
  have t2t:t2≠t:=ne_of_none ht2 ht
  have e1:=paired_len pr1
  have e2:=paired_len pr2
  obtain ⟨ca,bs,rfl,hca,prb⟩:=id hch
  have lb:=paired_len prb
  have hca3:=s03 _ _ hca
  have cat:ca≠t:=ne_of_none hca nt
  generalize upd H2 t (.lst [])=H3 at s3 s03 htt ht13 ht23 hca3 ⊢
  refine ⟨_,rfl,_,_,rfl,rfl,((many+1:Nat):Int),rfl,by omega,by omega,?_⟩
  rw [Int.toNat_natCast]
  refine for_range (lo:=0) (n:=many+1) (fun i σ H4=>∃ (o6 o7:Option V) (ws:List V),σ=[some (.ref ca),some v2,some (.int many),some (.ref t1),some (.ref t2),some (.ref t),o6,o7]∧But t H3 H4∧H4 t=some (.lst ws)∧Paired (D3At H4) ws (lateAll c rows rows' i))
    ⟨none,none,[],rfl,.refl t H3,htt,.nil⟩ ?_ ?_
  · rintro i σ H4 hi ⟨o6,o7,ws,rfl,b4,ht4,pd⟩
    rw [Int.zero_add]
    have f1:=List.getElem?_eq_getElem (show i<told1.length by omega)
    have f2:=List.getElem?_eq_getElem (show i<told2.length by omega)
    obtain ⟨rx,erx,xa,exa,_,hxa⟩:=paired_at pr1 f1
    obtain ⟨ry,ery,ya,eya,_,hya⟩:=paired_at pr2 f2
    rw [exa] at f1
    rw [eya] at f2
    have BT:=late i rx ry erx ery
    have lx:=R1.len i rx erx
    have hxa3:=s3 _ _ (s2 _ _ hxa)
    have hya3:=s3 _ _ hya
    have xt:xa≠t:=ne_of_none (s2 _ _ hxa) ht
    have yt:ya≠t:=ne_of_none hya ht
    refine ⟨_,rfl,ca,_,rfl,.inr (SqT.of (b4 _ _ cat hca3)),_,rfl,(by rw [lb]; omega),(by rw [lb]; omega),?_⟩
    rw [lb,Int.toNat_natCast]
    refine for_range (lo:=0) (n:=c.length) (fun k σ H6=>∃ (o7:Option V) (ws:List V),σ=[some (.ref ca),some v2,some (.int many),some (.ref t1),some (.ref t2),some (.ref t),some (.int (i:Int)),o7]∧But t H3 H6∧H6 t=some (.lst ws)∧Paired (D3At H6) ws (lateAll c rows rows' i++lateRow c i rx ry k))
      ⟨o7,ws,rfl,b4,ht4,by unfold lateRow; rw [List.append_nil]; exact pd⟩ ?_ ?_
    · rintro k σ H7 hk ⟨o7,ws,rfl,b7,ht7,pd7⟩
      rw [Int.zero_add]
      have eo:=List.getElem?_eq_getElem (show k<rx.length by omega)
      have hb:=List.getElem?_eq_getElem hk
      have A1:SqL K H7 t1 told1:=SqL.of (b7 _ _ t1t ht13)
      have A2:SqL K H7 t2 told2:=SqL.of (b7 _ _ t2t ht23)
      have X1:SqL K H7 xa (rx.map oV):=SqL.of (b7 _ _ xt hxa3)
      have Y1:SqL K H7 ya (ry.map oV):=SqL.of (b7 _ _ yt hya3)
      generalize rx[k]=o at eo
      refine ⟨_,rfl,_,rfl,t1,_,_,_,rfl,rfl,A1,atI_nat f1,_,rfl,xa,_,_,_,rfl,rfl,X1,atI_oV eo,rfl,_,rfl,?_⟩
      cases o with
      | none =>
        refine iteF (iteF ⟨_,ws,rfl,b7,ht7,?_⟩)
        unfold lateRow
        rw [lateAt_none eo,List.append_nil]
        exact pd7
      | some u =>
        obtain ⟨v,ev,hvl⟩:=BT.ge k u eo
        obtain ⟨u',eu',hle⟩:=BT.le k v ev
        rw [eo] at eu'
        cases eu'
        refine iteT ⟨_,rfl,_,rfl,t2,_,_,_,rfl,rfl,A2,atI_nat f2,_,rfl,ya,_,_,_,rfl,rfl,Y1,atI_oV ev,_,rfl,_,rfl,t1,_,_,_,rfl,rfl,A1,atI_nat f1,_,rfl,xa,_,_,_,rfl,rfl,X1,atI_oV eo,rfl,_,rfl,?_⟩
        refine ite2 (fun cc=>?_) (fun cc=>?_)
        · have cl:u<v:=by
            refine Classical.byContradiction fun no=>?_
            have e:v=u:=by omega
            subst e
            exact absurd cc (by show ¬ (!decide (V.int v=V.int v))=true; simp)
          obtain ⟨bv,ebv,ba,tt,ls,rfl,hba,_⟩:=paired_at' prb hb
          have hba7:=b7 _ _ (ne_of_none hba nt) (s03 _ _ hba)
          refine ⟨_,rfl,.inl ⟨rfl,_,SqL.of ht7⟩,_,rfl,_,rfl,_,rfl,ca,_,_,_,rfl,rfl,SqT.of (b7 _ _ cat hca3),atI_nat ebv,ba,_,_,_,rfl,rfl,SqT.of hba7,rfl,_,rfl,_,rfl,t2,_,_,_,rfl,rfl,A2,atI_nat f2,_,rfl,ya,_,_,_,rfl,rfl,Y1,atI_oV ev,_,rfl,_,rfl,t1,_,_,_,rfl,rfl,A1,atI_nat f1,_,rfl,xa,_,_,_,rfl,rfl,X1,atI_oV eo,_,_,rfl,rfl,(by show 3≤sizeLine; decide),fun d hd=>?_⟩
          have s8:=same_new hd (.tup [.int (i:Int),.str c[k].name,.int (v - u)])
          have ht8:=s8 _ _ ht7
          have hd8:(upd H7 d (.tup [.int (i:Int),.str c[k].name,.int (v - u)])) d=some (.tup [.int (i:Int),.str c[k].name,.int (v - u)]):=upd_same
          have dt:d≠t:=ne_of hd8 ht8 (by intro z; cases z)
          have lw:=paired_len pd7
          rw [List.length_append] at lw
          have l1:=lateAll_len c6 rows rows' i
          have l2:=lateRow_len c i rx ry k
          refine ⟨t,ws,_,rfl,rfl,ht8,small1000 (by omega),?_⟩
          have b9:But t H7 (upd (upd H7 d (.tup [.int (i:Int),.str c[k].name,.int (v - u)])) t (.lst (ws++[.ref d]))):=(Same.but s8).upd _
          refine ⟨_,ws++[.ref d],rfl,b7.trans b9,upd_same,?_⟩
          unfold lateRow
          rw [lateAt_some hb eo ev,if_pos cl,← List.append_assoc]
          exact paired_snoc ⟨d,rfl,by rw [upd_ne dt]; exact hd8⟩ (paired_imp (fun _ _ z=>D3At.but ht7 b9 z) pd7)
        · refine ⟨_,ws,rfl,b7,ht7,?_⟩
          have cl:¬ u<v:=fun z=>cc (by
            have ne:V.int v≠V.int u:=fun e=>by injection e with e; omega
            show (!decide (V.int v=V.int u))=true
            rw [decide_eq_false ne]
            rfl)
          unfold lateRow
          rw [lateAt_some hb eo ev,if_neg cl,List.append_nil]
          exact pd7
    · rintro σ H6 ⟨o7,ws,rfl,b6,ht6,pd6⟩
      refine ⟨_,o7,ws,rfl,b6,ht6,?_⟩
      unfold lateAll
      rw [rowOf_at erx,rowOf_at ery]
      exact pd6
  · rintro σ H4 ⟨o6,o7,ws,rfl,b4,ht4,pd⟩
    have l1:=lateAll_len c6 rows rows' (many+1)
    refine ⟨_,rfl,t,ws,_,rfl,SqL.of ht4,pd,by omega,fun r vs' hr' pd'=>?_⟩
    have s9:=same_new hr' (.lst vs')
    refine q _ r vs' rows rows' ?_ ?_ upd_same hl1 hl2 R1 R2 (paired_imp (fun _ _ ⟨a,e,z⟩=>⟨a,e,s9 _ _ z⟩) pd')
    · exact fun a o e=>s9 _ _ (b4 _ _ (ne_of_none e nt) (s03 _ _ e))
    · cases e:H r with
      | none=>rfl
      | some o =>
        have:=b4 _ _ (ne_of_none e nt) (s03 _ _ e)
        rw [this] at hr'
        cases hr'
end
end K62.S
namespace K62.S
open PySem L2
theorem not_slow {c:List Bell} {b p:Nat} {bl:Bell} {l:Lis} (hb:c[b]?=some bl) (hp:bl.lis[p]?=some l) {x y z:V} (h:(∀ i:Int,x=.int i→i<0∨(c.length:Int)≤i)∨(x=.int b∧∀ i:Int,y=.int i→i<0∨(bl.lis.length:Int)≤i)∨(x=.int b∧y=.int p∧∀ i:Int,z=.int i→i<0∨1001 - l.beats≤i)):∀ b' p' m bl' l',¬ K62.Slow c x y z b' p' m bl' l':=fun b' p' m bl' l' S=>by
  rcases h with h | ⟨hx,h⟩ | ⟨hx,hy,h⟩
  · have h1:=h _ S.hx
    have:=(List.getElem?_eq_some_iff.mp S.hb).1
    omega
  · have eb:b'=b:=by have:=V.int.inj (S.hx.symm.trans hx); omega
    subst eb
    have ebl:bl'=bl:=Option.some.inj (S.hb.symm.trans hb)
    subst ebl
    have h1:=h _ S.hy
    have:=(List.getElem?_eq_some_iff.mp S.hp).1
    omega
  · have eb:b'=b:=by have:=V.int.inj (S.hx.symm.trans hx); omega
    subst eb
    have ebl:bl'=bl:=Option.some.inj (S.hb.symm.trans hb)
    subst ebl
    have ep:p'=p:=by have:=V.int.inj (S.hy.symm.trans hy); omega
    subst ep
    have el:l'=l:=Option.some.inj (S.hp.symm.trans hp)
    subst el
    have h1:=h _ S.hz
    have:=S.m0
    have:=S.m1
    omega
section
variable {P:Program} {w:World} {K:PySem.W.Frag} {mg:Str→Option Value} {base:Heap} {f:Addr} {fd:FuncData}
def sp_refused:Sp:=fun vs H Q _=>∃ (ch:V) (c:List Bell) (ta:Addr) (x y z:V) (many:Nat),vs=[ch,.ref ta,.int many]∧H ta=some (.tup [x,y,z])∧ChoirAt H ch c∧Fine c∧(∀ bl∈c,bl.lis.length≤6)∧Fl x∧Fl y∧Fl z∧many≤60∧(∀ b p m bl l,¬ K62.Slow c x y z b p m bl l)∧∀ H',Same H H'→Q (.bl true) H'
theorem sc_refused:FnScope ["_law_choir_here","_law_asked","_law_many","_law_error","e","_law_bell_here","_law_place","_law_more"] ["_law_choir_here","_law_asked","_law_many"] (defScope s_refused):=⟨rfl,rfl,rfl,by decide +kernel,rfl,by decide +kernel,by decide +kernel⟩
theorem ok_refused {N cB:Addr} (F:Fun K "_law_refused" "_law_refused" s_refused f fd) (mB:mg "BellError"=some (.ref cB)) (xm:PySem.W.exmOne K (.ref N) (.ref cB)=some true) (C_lstrokes:CalX P w K mg base 8 "later_strokes" ["choir","bell","place","more","many"] (sp_lstrokes N)) (C_only:Cal P w K mg base 1 "_law_only" ["_law_error","_law_at"] (K62.sp_only N 7)) :
    FnOk P w K mg base CX0 9 f fd ["_law_choir_here","_law_asked","_law_many"] sp_refused:=by
  refine F.ok sc_refused (fun vs H Q E h=>?_) (fun cdv A outer s H vs Q E hr h=>?_)
  · obtain ⟨ch,c,ta,x,y,z,many,rfl,_⟩:=h
    rfl
  obtain ⟨ch,c,ta,x,y,z,many,rfl,hta,hch,fc,l6,fx,fy,fz,h60,no,q⟩:=h
  refine ⟨_,(pss_cons (ps_asg (pv 1) (pg_tup rfl (pgs_cons (pg_name (i:=5) sc_refused.nd rfl (Or.inl rfl)) (pgs_cons (pg_name (i:=6) sc_refused.nd rfl (Or.inl rfl)) (pgs_cons (pg_name (i:=7) sc_refused.nd rfl (Or.inl rfl)) pgs_nil)))))
    (pss_cons (ps_set (i:=3) sc_refused.nd rfl (Or.inl rfl) pe_non)
    (pss_cons (ps_tryAs rfl rfl sc_refused.nd (i:=4) rfl rfl rfl mB (psx_expr (px_fn C_lstrokes hr (by decide) rfl (pa_cons (pv 0) (pa_cons (pv 5) (pa_cons (pv 6) (pa_cons (pv 7) (pa_cons (pv 2) pa_nil))))))) (fun _=>(pss_one (ps_set (i:=3) sc_refused.nd rfl (Or.inl rfl) (pv 4)))))
    (pss_one (ps_ret (pe_fn C_only hr (by decide) rfl (pa_cons (pv 3) (pa_cons pe_int pa_nil)))))))),?_⟩
  refine ⟨_,rfl,ta,_,rfl,SqT.of hta,rfl,_,_,rfl,_,_,rfl,_,_,rfl,rfl,?_⟩
  refine ⟨_,rfl,_,rfl,_,rfl,_,rfl,_,rfl,ch,c,x,y,z,many,rfl,hch,fc,l6,fx,fy,fz,h60,fun b p m bl l S=>absurd S (no b p m bl l),fun _=>?_⟩
  refine ⟨xm,fun a C e na=>?_⟩
  cases e
  refine ⟨_,rfl,?_⟩
  refine ⟨_,rfl,a,none,rfl,upd_same,.inl rfl,fun H' s'=>q H' ((same_new na _).trans s')⟩
def sp_odd:Sp:=fun vs H Q _=>∃ (ch:V) (c:List Bell) (b p:Nat) (m:Int) (kd pk:Nat) (bl:Bell) (l:Lis),vs=[ch,.int b,.int p,.int m,.int kd,.int pk]∧ChoirAt H ch c∧c[b]?=some bl∧bl.lis[p]?=some l∧kd<3∧pk<6∧
  ∀ (H':Hp) (ta:Addr) (x y z:V),Same H H'→H' ta=some (.tup [x,y,z])→Fl x→Fl y→Fl z→(∀ b p m bl l,¬ K62.Slow c x y z b p m bl l)→Q (.ref ta) H'
theorem sc_odd:FnScope ["_law_choir_here","_law_bell_here","_law_place","_law_more","_law_kind","_law_pick","_law_beats","_law_odd_here"] ["_law_choir_here","_law_bell_here","_law_place","_law_more","_law_kind","_law_pick"] (defScope s_odd):=⟨rfl,rfl,rfl,by decide +kernel,rfl,by decide +kernel,by decide +kernel⟩
theorem ok_odd (F:Fun K "_law_odd" "_law_odd" s_odd f fd) (B:Blt mg):FnOk P w K mg base CX0 1 f fd ["_law_choir_here","_law_bell_here","_law_place","_law_more","_law_kind","_law_pick"] sp_odd:=by
  refine F.ok sc_odd (fun vs H Q E h=>?_) (fun cdv A outer s H vs Q E hr h=>?_)
  · obtain ⟨ch,c,b,p,m,kd,pk,bl,l,rfl,_⟩:=h
    rfl
  obtain ⟨ch,c,b,p,m,kd,pk,bl,l,rfl,⟨a,vs,rfl,ha,pr⟩,hb,hp,k3,p6,q⟩:=h
  refine ⟨_,(pss_cons (ps_set (i:=6) sc_odd.nd rfl (Or.inl rfl) (pe_ix ix_tup (pe_ix ix_tup (pe_ix ix_tup (pe_ix ix_tup (pv 0) (pv 1) (fun _ _=>rfl)) pe_int (fun _ _=>rfl)) (pv 2) (fun _ _=>rfl)) pe_int (fun _ _=>rfl)))
    (pss_cons (ps_set (i:=7) sc_odd.nd rfl (Or.inl rfl) (pe_ix ix_list (pe_lst (pa_cons (pe_op op_sub pe_int pe_int) (pa_cons (pe_ix ix_list (pe_lst (pa_cons (pe_callB call_len_seq rfl B.len_ PySem.boot_len (pa_cons (pv 0) pa_nil)) (pa_cons (pe_callB call_len_seq rfl B.len_ PySem.boot_len (pa_cons (pe_ix ix_tup (pe_ix ix_tup (pv 0) (pv 1) (fun _ _=>rfl)) pe_int (fun _ _=>rfl)) pa_nil)) (pa_cons (pe_op op_sub pe_int (pv 6)) pa_nil)))) (pv 4) (fun _ _=>rfl)) (pa_cons pe_bl (pa_cons pe_non (pa_cons pe_str (pa_cons pe_bl pa_nil))))))) (pv 5) (fun _ _=>rfl)))
    (pss_cons (ps_if (pt_cmpR op_eq (pv 4) pe_int (nomark _))
    (pss_one (ps_ret (pe_tup (pa_cons (pv 7) (pa_cons (pv 2) (pa_cons (pv 3) pa_nil))))))
    pss_nil)
    (pss_cons (ps_if (pt_cmpR op_eq (pv 4) pe_int (nomark _))
    (pss_one (ps_ret (pe_tup (pa_cons (pv 1) (pa_cons (pv 7) (pa_cons (pv 3) pa_nil))))))
    pss_nil)
    (pss_one (ps_ret (pe_tup (pa_cons (pv 1) (pa_cons (pv 2) (pa_cons (pv 7) pa_nil)))))))))),?_⟩
  have hvl:=paired_len pr
  obtain ⟨bv,hv,ba,t,ls,rfl,hba,ht,prl⟩:=paired_at' pr hb
  obtain ⟨lv,hlv,la,rfl,hla⟩:=paired_at' prl hp
  have hll:=paired_len prl
  refine ⟨_,rfl,_,rfl,a,_,_,_,rfl,rfl,SqT.of ha,atI_nat hv,ba,_,_,_,rfl,rfl,SqT.of hba,rfl,_,rfl,t,_,_,_,rfl,rfl,SqT.of ht,atI_nat hlv,la,_,_,_,rfl,rfl,SqT.of hla,rfl,?_⟩
  refine ⟨_,_,rfl,rfl,_,rfl,a,_,rfl,.inr (SqT.of ha),_,rfl,_,rfl,a,_,_,_,rfl,rfl,SqT.of ha,atI_nat hv,ba,_,_,_,rfl,rfl,SqT.of hba,rfl,t,_,rfl,.inr (SqT.of ht),_,rfl,_,_,rfl,rfl,(by show 3≤sizeLine; decide),fun L1 hL1=>?_⟩
  have s1:=same_new hL1 (.lst [.int vs.length,.int ls.length,.int (1001 - l.beats)])
  have hL1':(upd H L1 (.lst [.int vs.length,.int ls.length,.int (1001 - l.beats)])) L1=some (.lst [.int vs.length,.int ls.length,.int (1001 - l.beats)]):=upd_same
  obtain ⟨gr,egr⟩:∃ gr:Int,([V.int vs.length,V.int ls.length,V.int (1001 - l.beats)])[kd]?=some (.int gr):=by
    match kd,k3 with
    | 0,_=>exact ⟨_,rfl⟩
    | 1,_=>exact ⟨_,rfl⟩
    | 2,_=>exact ⟨_,rfl⟩
  refine ⟨_,rfl,L1,_,_,_,rfl,rfl,SqL.of hL1',atI_nat egr,(by show 6≤sizeLine; decide),fun L2 hL2=>?_⟩
  have s2:=same_new hL2 (.lst [.int (0 - 1),.int gr,.bl true,.non,.str "0",.bl false])
  have hL2':(upd (upd H L1 (.lst [.int vs.length,.int ls.length,.int (1001 - l.beats)])) L2 (.lst [.int (0 - 1),.int gr,.bl true,.non,.str "0",.bl false])) L2=some (.lst [.int (0 - 1),.int gr,.bl true,.non,.str "0",.bl false]):=upd_same
  have s02:=s1.trans s2
  obtain ⟨od,eod,fod,wod⟩:∃ od:V,([V.int (0 - 1),.int gr,.bl true,.non,.str "0",.bl false])[pk]?=some od∧Fl od∧∀ i:Int,od=.int i→i<0∨i=gr:=by
    match pk,p6 with
    | 0,_=>exact ⟨_,rfl,.int _,fun i e=>by have:=V.int.inj e; omega⟩
    | 1,_=>exact ⟨_,rfl,.int _,fun i e=>.inr (V.int.inj e).symm⟩
    | 2,_=>exact ⟨_,rfl,.bl _,fun i e=>by cases e⟩
    | 3,_=>exact ⟨_,rfl,.non,fun i e=>by cases e⟩
    | 4,_=>exact ⟨_,rfl,.str _,fun i e=>by cases e⟩
    | 5,_=>exact ⟨_,rfl,.bl _,fun i e=>by cases e⟩
  refine ⟨_,rfl,L2,_,_,_,rfl,rfl,SqL.of hL2',atI_nat eod,?_⟩
  generalize (upd (upd H L1 (.lst [.int vs.length,.int ls.length,.int (1001 - l.beats)])) L2 (.lst [.int (0 - 1),.int gr,.bl true,.non,.str "0",.bl false]))=H2 at s02 ⊢
  refine ⟨_,rfl,rfl,_,rfl,?_⟩
  match kd,k3,egr with
  | 0,_,egr =>
    have e:(vs.length:Int)=gr:=V.int.inj (Option.some.inj egr)
    refine iteT ⟨_,rfl,_,rfl,_,rfl,(by show 3≤sizeLine; decide),fun ta hta=>?_⟩
    exact q _ ta od (.int p) (.int m) (s02.trans (same_new hta _)) upd_same fod (.int _) (.int _) (not_slow hb hp (.inl fun i ei=>by rcases wod i ei with h | h <;> omega))
  | 1,_,egr =>
    have e:(ls.length:Int)=gr:=V.int.inj (Option.some.inj egr)
    refine iteF ⟨_,rfl,rfl,_,rfl,iteT ⟨_,rfl,_,rfl,_,rfl,(by show 3≤sizeLine; decide),fun ta hta=>?_⟩⟩
    exact q _ ta (.int b) od (.int m) (s02.trans (same_new hta _)) upd_same (.int _) fod (.int _) (not_slow hb hp (.inr (.inl ⟨rfl,fun i ei=>by rcases wod i ei with h | h <;> omega⟩)))
  | 2,_,egr =>
    have e:1001 - l.beats=gr:=V.int.inj (Option.some.inj egr)
    refine iteF ⟨_,rfl,rfl,_,rfl,iteF ⟨_,rfl,_,rfl,_,rfl,(by show 3≤sizeLine; decide),fun ta hta=>?_⟩⟩
    exact q _ ta (.int b) (.int p) od (s02.trans (same_new hta _)) upd_same (.int _) (.int _) fod (not_slow hb hp (.inr (.inr ⟨rfl,rfl,fun i ei=>by rcases wod i ei with h | h <;> omega⟩)))
end
end K62.S
namespace K62.S
open PySem L2
theorem rng6_ok:∀ m∈[(6:Int),6,1000,549,3,6],1≤m∧Big m:=by
  unfold Big
  decide +kernel
theorem six {ns:List Int} (h:InR ns [6,6,1000,549,3,6]):∃ a b c d e g,ns=[a,b,c,d,e,g]∧(0≤d∧d<549)∧(0≤e∧e<3)∧(0≤g∧g<6):=by
  cases h with
  | cons a0 a1 h =>
  cases h with
  | cons b0 b1 h =>
  cases h with
  | cons c0 c1 h =>
  cases h with
  | cons d0 d1 h =>
  cases h with
  | cons e0 e1 h =>
  cases h with
  | cons g0 g1 h =>
  cases h
  exact ⟨_,_,_,_,_,_,rfl,⟨d0,d1⟩,⟨e0,e1⟩,⟨g0,g1⟩⟩
theorem at_mod {xs:List V} {n:Int} (h:xs≠[]):∃ (k:Nat) (v:V),n % ((xs.length:Nat):Int)=(k:Int)∧xs[k]?=some v:=by
  have hl:0<xs.length:=List.length_pos_iff.mpr h
  have g1:=Int.emod_nonneg n (show ((xs.length:Nat):Int)≠0 by omega)
  have g2:=Int.emod_lt_of_pos n (show (0:Int)<((xs.length:Nat):Int) by omega)
  have hk:(n % ((xs.length:Nat):Int)).toNat<xs.length:=by omega
  exact ⟨_,_,by omega,List.getElem?_eq_getElem hk⟩
theorem kit_ll (K:PySem.W.Frag):PySem.W.kitOne K (.type "list") (.type "list")=some true:=by kernel_rfl
theorem D3At.same {H H':Hp} (s:Same H H') {v:V} {d:D3} (h:D3At H v d):D3At H' v d:=by
  obtain ⟨a,e,q⟩:=h
  exact ⟨a,e,s _ _ q⟩
theorem range_tr (n:Nat):(List.range n).all (fun _=>true)=true:=by simp
theorem d3_eqH {K:PySem.W.Frag} {H:Hp} {v v':V} {d:D3} (h:D3At H v d) (h':D3At H v' d):EqH K H 1 v v' true:=by
  obtain ⟨a,rfl,ha⟩:=h
  obtain ⟨a',rfl,ha'⟩:=h'
  by_cases e:a=a'
  · subst e
    exact .same
  have hi:∀ z:Int,eqV (.int z) (.int z)=true:=fun z=>beq_self_eq_true z
  have hs:∀ z:Str,eqV (.str z) (.str z)=true:=fun z=>beq_self_eq_true z
  have:=EqH.tup (K:=K) (H:=H) (n:=0) (fun _=>true) e (SqT.of ha) (SqT.of ha') fun i u v eu ev=>by
    rw [eu] at ev
    cases ev
    have eu':u=.int d.1∨u=.str d.2.1∨u=.int d.2.2:=by
      have:=List.mem_of_getElem? eu
      simpa [d3V] using this
    rcases eu' with rfl | rfl | rfl
    · have:=EqH.flat (K:=K) (H:=H) (n:=0) (x:=.int d.1) (y:=.int d.1) rfl rfl
      rw [hi] at this
      exact this
    · have:=EqH.flat (K:=K) (H:=H) (n:=0) (x:=.str d.2.1) (y:=.str d.2.1) rfl rfl
      rw [hs] at this
      exact this
    · have:=EqH.flat (K:=K) (H:=H) (n:=0) (x:=.int d.2.2) (y:=.int d.2.2) rfl rfl
      rw [hi] at this
      exact this
  rw [range_tr,beq_self_eq_true] at this
  exact this
theorem d3s_eqH {K:PySem.W.Frag} {H:Hp} {p q:Addr} {xs ys:List V} {ds:List D3} (ne:p≠q) (hp:H p=some (.lst xs)) (hq:H q=some (.lst ys)) (px:Paired (D3At H) xs ds) (py:Paired (D3At H) ys ds):EqH K H 2 (.ref p) (.ref q) true:=by
  have l1:=paired_len px
  have l2:=paired_len py
  have:=EqH.lst (K:=K) (H:=H) (n:=1) (fun _=>true) ne (SqL.of hp) (SqL.of hq) (by omega) fun i u v eu ev=>by
    obtain ⟨d,ed,h⟩:=paired_at px eu
    obtain ⟨d',ed',h'⟩:=paired_at py ev
    rw [ed] at ed'
    cases ed'
    exact d3_eqH h h'
  rw [range_tr] at this
  exact this
theorem rows_one {c:List Bell} (hc:Slow c) {rows rows':List (List (Option Int))} (h:Rows c rows) (h':Rows c rows') (hl:rows.length=rows'.length):rows=rows':=by
  have at_:∀ n,n<rows.length→rows[n]?=rows'[n]?:=by
    intro n
    induction n with
    | zero =>
      intro h1
      have e1:=List.getElem?_eq_getElem h1
      have e2:=List.getElem?_eq_getElem (show 0<rows'.length by omega)
      rw [e1,e2,h.first _ e1,h'.first _ e2]
    | succ n ih =>
      intro h1
      have e1:=List.getElem?_eq_getElem h1
      have e2:=List.getElem?_eq_getElem (show n+1<rows'.length by omega)
      have d1:=List.getElem?_eq_getElem (show n<rows.length by omega)
      have d2:=List.getElem?_eq_getElem (show n<rows'.length by omega)
      have i:=ih (by omega)
      have f1:=h.next n _ _ d1 e1
      have f2:=h'.next n _ _ d2 e2
      rw [d1,d2] at i
      rw [Option.some.inj i] at f1
      rw [e1,e2,fix_unique hc f1 f2]
  refine List.ext_getElem? fun n=>?_
  by_cases hn:n<rows.length
  · exact at_ n hn
  · rw [List.getElem?_eq_none (by omega),List.getElem?_eq_none (by omega)]
theorem fine_of {c:List Bell} (c6:c.length≤6) (h:∀ b∈c,GoodB c.length 0 true b):Fine c:=by
  refine ⟨c6,fun k b hb=>?_⟩
  have g:=h b (List.mem_of_getElem? hb)
  have:=g.n6
  exact ⟨g.n1,by omega,g.r,fun l hl=>⟨(g.l l hl).1,(g.l l hl).2.1⟩⟩
section
variable {P:Program} {w:World} {K:PySem.W.Frag} {mg:Str→Option Value} {base:Heap} {f:Addr} {fd:FuncData}
def sp_law (K:PySem.W.Frag):Sp:=fun vs H Q _=>∃ (a:Addr) (ns:List Int),vs=[.ref a]∧SqL K H a (ns.map V.int)∧ns.length≤63∧∀ H',Q (.bl true) H'
theorem sc_law:FnScope ["_law_script","_law_choir_here","_law_k","_law_bell_here","_law_many","_law_place","_law_more","_law_due_here","_law_answer","_law_kind","_law_pick"] ["_law_script"] (defScope s_law):=⟨rfl,rfl,rfl,by decide +kernel,rfl,by decide +kernel,by decide +kernel⟩
theorem ok_law {N:Addr} (F:Fun K "law" "law" s_law f fd) (B:Blt mg) (C_names:Cal P w K mg base 3 "_law_names" ["_law_script","_law_at","_law_ahead"] (sp_names K)) (C_choir:Cal P w K mg base 3 "_law_choir" ["_law_script","_law_at","_law_names_here"] (sp_choir K)) (C_part:Cal P w K mg base 2 "_law_part" ["_law_script","_law_k","_law_ranges"] (sp_part K))
    (C_due:Cal P w K mg base 3 "_law_due" ["_law_choir_here","_law_other","_law_many"] sp_due) (C_lslower:Cal P w K mg base 1 "_law_slower" ["_law_choir_here","_law_bell_here","_law_place","_law_more"] sp_lslower) (C_ls:Cal P w K mg base 8 "later_strokes" ["choir","bell","place","more","many"] (fun vs H Q _=>sp_lstrokes N vs H Q E0))
    (C_same:Cal P w K mg base 4 "_law_same" ["_law_answer","_law_due_here"] (K62.sp_like 3)) (C_refused:Cal P w K mg base 9 "_law_refused" ["_law_choir_here","_law_asked","_law_many"] sp_refused) (C_odd:Cal P w K mg base 1 "_law_odd" ["_law_choir_here","_law_bell_here","_law_place","_law_more","_law_kind","_law_pick"] sp_odd) :
    FnOk P w K mg base CX0 10 f fd ["_law_script"] (sp_law K):=by
  refine F.ok sc_law (fun vs H Q E h=>?_) (fun cdv A outer s H vs Q E hr h=>?_)
  · obtain ⟨a,ns,rfl,_⟩:=h
    rfl
  obtain ⟨a,ns,rfl,hS,h63,q⟩:=h
  refine ⟨_,(pss_cons (ps_set (i:=1) sc_law.nd rfl (Or.inl rfl) (pe_fn C_choir hr (by decide) rfl (pa_cons (pv 0) (pa_cons pe_int (pa_cons (pe_fn C_names hr (by decide) rfl (pa_cons (pv 0) (pa_cons pe_int (pa_cons (pe_lst pa_nil) pa_nil)))) pa_nil)))))
    (pss_cons (ps_for PassesOwn.never rfl (pi_range2 rfl B.range_ (pa_cons pe_int (pa_cons (pe_callB (call_max2 rfl) rfl B.max_ PyProof.Rows.boot_max (pa_cons pe_int (pa_cons (pe_callB (call_min2 rfl) rfl B.min_ PyProof.Rows.boot_min (pa_cons pe_int (pa_cons (pe_callB call_len_seq rfl B.len_ PySem.boot_len (pa_cons (pv 0) pa_nil)) pa_nil))) pa_nil))) pa_nil))) (pg_name (i:=2) sc_law.nd rfl (Or.inl rfl))
    (pss_cons (ps_asg (pe_fn C_part hr (by decide) rfl (pa_cons (pv 0) (pa_cons (pv 2) (pa_cons (pe_lst (pa_cons pe_int (pa_cons pe_int (pa_cons pe_int (pa_cons pe_int (pa_cons pe_int (pa_cons pe_int pa_nil))))))) pa_nil)))) (pg_tupL rfl (pgs_cons (pg_name (i:=3) sc_law.nd rfl (Or.inl rfl)) (pgs_cons (pg_name (i:=5) sc_law.nd rfl (Or.inl rfl)) (pgs_cons (pg_name (i:=6) sc_law.nd rfl (Or.inl rfl)) (pgs_cons (pg_name (i:=4) sc_law.nd rfl (Or.inl rfl)) (pgs_cons (pg_name (i:=9) sc_law.nd rfl (Or.inl rfl)) (pgs_cons (pg_name (i:=10) sc_law.nd rfl (Or.inl rfl)) pgs_nil))))))))
    (pss_cons (ps_set (i:=3) sc_law.nd rfl (Or.inl rfl) (pe_op op_mod (pv 3) (pe_callB call_len_seq rfl B.len_ PySem.boot_len (pa_cons (pv 1) pa_nil))))
    (pss_cons (ps_set (i:=4) sc_law.nd rfl (Or.inl rfl) (pe_op op_mod (pv 4) (pe_ix ix_list (pe_lst (pa_cons pe_int (pa_cons pe_int pa_nil))) (pe_callTy call_int1 rfl B.int_ PyProof.Rows.boot_int (pa_cons (pe_cmpR op_lt (pe_callB (call_sum rfl) rfl B.sum_ PyProof.Rows.boot_sum (pa_cons (pe_comp ["_law_one"] [] [] rfl (pi_tup (pv 1)) (fun _ _ _ _ _=>(pg_name (i:=0) (show List.Nodup [("_law_one":Str)] by decide +kernel) rfl (Or.inl rfl))) (fun _ _ _ _ _=>pts_nil) (fun _ _ _ _ _=>(pe_callB (call_len_seqC (K:=K) rfl) rfl B.len_ PySem.boot_len (pa_cons (pe_ix (ix_tupC (K:=K) rfl) (pv 0) pe_int (fun _ _=>rfl)) pa_nil)))) pa_nil)) pe_int (nomark _)) pa_nil)) (fun _ _=>rfl))))
    (pss_cons (ps_set (i:=5) sc_law.nd rfl (Or.inl rfl) (pe_op op_mod (pv 5) (pe_callB call_len_seq rfl B.len_ PySem.boot_len (pa_cons (pe_ix ix_tup (pe_ix ix_tup (pv 1) (pv 3) (fun _ _=>rfl)) pe_int (fun _ _=>rfl)) pa_nil))))
    (pss_cons (ps_set (i:=6) sc_law.nd rfl (Or.inl rfl) (pe_op op_mod (pv 6) (pe_op op_sub pe_int (pe_ix ix_tup (pe_ix ix_tup (pe_ix ix_tup (pe_ix ix_tup (pv 1) (pv 3) (fun _ _=>rfl)) pe_int (fun _ _=>rfl)) (pv 5) (fun _ _=>rfl)) pe_int (fun _ _=>rfl)))))
    (pss_cons (ps_set (i:=7) sc_law.nd rfl (Or.inl rfl) (pe_fn C_due hr (by decide) rfl (pa_cons (pv 1) (pa_cons (pe_fn C_lslower hr (by decide) rfl (pa_cons (pv 1) (pa_cons (pv 3) (pa_cons (pv 5) (pa_cons (pv 6) pa_nil))))) (pa_cons (pv 4) pa_nil)))))
    (pss_cons (ps_set (i:=8) sc_law.nd rfl (Or.inl rfl) (pe_fn C_ls hr (by decide) rfl (pa_cons (pv 1) (pa_cons (pv 3) (pa_cons (pv 5) (pa_cons (pv 6) (pa_cons (pv 4) pa_nil)))))))
    (pss_cons (ps_if (PW.pt (pw_or (pt_not (pt_val (pe_callB (call_isT "list") rfl B.isinstance_ PyProof.Rows.boot_isinstance (pa_cons (pv 8) (pa_cons (pe_bltn (v:=.ty "list") rfl B.list_ PyProof.Rows.boot_list rfl) pa_nil))))) (pw_or1 (pt_not (pt_val (pe_fn C_same hr (by decide) rfl (pa_cons (pe_callTy call_tuple_of rfl B.tuple_ PyProof.Rows.boot_tuple (pa_cons (pv 8) pa_nil)) (pa_cons (pe_callTy call_tuple_of rfl B.tuple_ PyProof.Rows.boot_tuple (pa_cons (pv 7) pa_nil)) pa_nil))))))))
    (pss_one (ps_ret pe_bl))
    pss_nil)
    (pss_cons (ps_expr (pe_bm PySem.F.plainAttrs_list PySem.F.slot_list_append PySem.F.type_list_append mt_append (pv 8) (pa_cons (pe_tup pa_nil) pa_nil)))
    (pss_cons (ps_if (pt_cmpR (op_neH hr.units) (pe_fn C_ls hr (by decide) rfl (pa_cons (pv 1) (pa_cons (pv 3) (pa_cons (pv 5) (pa_cons (pv 6) (pa_cons (pv 4) pa_nil)))))) (pv 7) (nomark _))
    (pss_one (ps_ret pe_bl))
    pss_nil)
    (pss_one (ps_if (pt_not (pt_val (pe_fn C_refused hr (by decide) rfl (pa_cons (pv 1) (pa_cons (pe_fn C_odd hr (by decide) rfl (pa_cons (pv 1) (pa_cons (pv 3) (pa_cons (pv 5) (pa_cons (pv 6) (pa_cons (pv 9) (pa_cons (pv 10) pa_nil))))))) (pa_cons (pv 4) pa_nil))))))
    (pss_one (ps_ret pe_bl))
    pss_nil)))))))))))))
    (pss_one (ps_ret pe_bl)))),?_⟩
  refine ⟨_,rfl,_,rfl,(by show 0≤sizeLine; decide),fun l hl=>?_⟩
  refine ⟨a,ns,1,l,[],rfl,(same_new hl _).seq hS,by decide,upd_same,by decide,fun H1 p names s1 p0 hp1 n6 good=>?_⟩
  have s01:=(same_new hl (.lst [])).trans s1
  refine ⟨a,ns,2,p,names,rfl,s01.seq hS,by decide,hp1,n6,fun H2 ch c s2 hch c1 c6 hcn gc=>?_⟩
  have s02:=s01.trans s2
  have l6:∀ bl∈c,bl.lis.length≤6:=fun bl h=>(gc bl h).n6
  have fc:=fine_of c6 gc
  clear s1 hl s01 hp1 s2 p0
  refine ⟨_,rfl,a,_,rfl,.inl (s02.seq hS),_,_,rfl,_,_,rfl,_,_,rfl,?_,?_⟩
  · rw [List.length_map]
    refine ⟨by decide,by decide,?_,?_⟩ <;> (split <;> (try split) <;> omega)
  generalize ehi:(if (if (((ns.map V.int).length:Nat):Int)<15 then (((ns.map V.int).length:Nat):Int) else 15) > 10 then (if (((ns.map V.int).length:Nat):Int)<15 then (((ns.map V.int).length:Nat):Int) else 15) else 10)=hi
  have hhi:hi≤15:=by
    rw [← ehi]
    split <;> (try split) <;> omega
  refine for_range (lo:=9) (n:=(hi - 9).toNat) (fun i σ H3=>∃ (o2 o3 o4 o5 o6 o7 o8 o9 o10:Option V),σ=[some (.ref a),some ch,o2,o3,o4,o5,o6,o7,o8,o9,o10]∧Same H2 H3) ⟨none,none,none,none,none,none,none,none,none,rfl,.refl H2⟩ ?_ ?_
  · rintro i σ H3 hi' ⟨o2,o3,o4,o5,o6,o7,o8,o9,o10,rfl,s3⟩
    obtain ⟨kk,hkk,kb⟩:∃ kk:Nat,(9:Int)+(i:Int)=(kk:Int)∧kk≤20:=⟨9+i,by omega,by omega⟩
    rw [hkk]
    refine ⟨_,rfl,_,rfl,(by show 6≤sizeLine; decide),fun l hl=>?_⟩
    have v1:=same_new hl (.lst [.int 6,.int 6,.int 1000,.int 549,.int 3,.int 6])
    refine ⟨a,ns,kk,l,[6,6,1000,549,3,6],rfl,((s02.trans s3).trans v1).seq hS,by omega,SqL.of upd_same,by decide,rng6_ok,fun r H4 nums hr0 s4 hr1 hin=>?_⟩
    have s24:=s3.trans (v1.trans s4)
    clear v1 s4 hl hr0
    obtain ⟨n0,n1,n2,n3,n4,n5,rfl,⟨d0,d1⟩,⟨e0,e1⟩,⟨g0,g1⟩⟩:=six hin
    refine ⟨r,_,rfl,SqL.of hr1,rfl,_,_,rfl,_,_,rfl,_,_,rfl,_,_,rfl,_,_,rfl,_,_,rfl,rfl,?_⟩
    have hch4:=hch.mono (Same.tup s24)
    obtain ⟨ca,cv,rfl,hca,pr⟩:=id hch4
    have hcl:=paired_len pr
    refine ⟨_,rfl,_,rfl,ca,_,rfl,.inr (SqT.of hca),_,_,rfl,rfl,(show (0:Int)<((cv.length:Nat):Int) by omega),?_⟩
    obtain ⟨b,bv,eb,hbv⟩:=at_mod (xs:=cv) (n:=n0) (fun h=>by rw [h] at hcl; simp at hcl; omega)
    dsimp only
    rw [eb]
    obtain ⟨bl,hb,⟨ba,t,ls,rfl,hba,ht,prl⟩⟩:=paired_at pr hbv
    have gb:=gc bl (List.mem_of_getElem? hb)
    have hll:=paired_len prl
    have hl1:=gb.n1
    refine ⟨_,rfl,(by show 2≤sizeLine; decide),fun L9 hL9=>?_⟩
    have s5:=same_new hL9 (.lst [.int 9,.int 61])
    have hL5:(upd H4 L9 (.lst [.int 9,.int 61])) L9=some (.lst [.int 9,.int 61]):=upd_same
    have hca5:=s5 _ _ hca
    generalize upd H4 L9 (.lst [.int 9,.int 61])=H5 at s5 hL5 hca5 ⊢
    refine ⟨_,rfl,ca,rfl,⟨_,SqT.of hca5⟩,fun D hD=>?_⟩
    refine comp_tup (K:=K) (a:=ca) (xs:=cv) (fun j ys H6=>Same H5 H6∧∃ ms:List Int,ys=ms.map V.int∧ms.length=j) ⟨same_new hD _,[],rfl,rfl⟩ (fun j ys H6 _ ⟨z,_⟩=>SqT.of (z _ _ hca5)) ?_ ?_
    · rintro j y ys H6 hj ⟨s6,ms,rfl,hml⟩ hD6
      obtain ⟨b',hb',⟨x',tt',ls',rfl,hx',ht',_⟩⟩:=paired_at pr hj
      have hj6:j<c.length:=(List.getElem?_eq_some_iff.mp hb').1
      refine ⟨rfl,tTrue_ite ?_⟩
      refine ⟨_,rfl,x',_,_,_,rfl,rfl,SqT.of (s6 _ _ (s5 _ _ hx')),rfl,tt',_,rfl,.inr (SqT.of (s6 _ _ (s5 _ _ ht'))),_,hD6,?_,_,⟨s6.upd hD _,ms++[(ls'.length:Int)],rfl,by rw [List.length_append,hml]; rfl⟩,?_⟩
      · rw [List.length_map,hml]
        exact small1000 (by omega)
      · rw [List.map_append]
        exact upd_same
    rintro ys H6 ⟨s6,ms,rfl,hml⟩ hD6
    refine ⟨D,ms,rfl,SqL.of hD6,fun sm=>?_⟩
    refine ⟨_,_,rfl,rfl,.inr ⟨_,rfl,?_⟩⟩
    have s46:=s5.trans s6
    have hL6:=s6 _ _ hL5
    obtain ⟨ix,nn,eix,hnn,nn1,nn2⟩:∃ (ix:Nat) (nn:Int),(if decide (sm<5)=true then (1:Int) else 0)=(ix:Int)∧([V.int 9,V.int 61])[ix]?=some (.int nn)∧0<nn∧nn≤61:=by
      split
      · exact ⟨1,61,rfl,rfl,by decide,by decide⟩
      · exact ⟨0,9,rfl,rfl,by decide,by decide⟩
    refine ⟨L9,_,_,_,rfl,congrArg V.int eix,SqL.of hL6,atI_nat hnn,_,_,rfl,rfl,nn1,?_⟩
    obtain ⟨many,em,hmany⟩:∃ many:Nat,n3 % nn=(many:Int)∧many≤60:=by
      have h1:=Int.emod_nonneg n3 (show nn≠0 by omega)
      have h2:=Int.emod_lt_of_pos n3 nn1
      exact ⟨(n3 % nn).toNat,by omega,by omega⟩
    dsimp only
    rw [em]
    have hca6:=s46 _ _ hca
    have hba6:=s46 _ _ hba
    have ht6:=s46 _ _ ht
    refine ⟨_,rfl,_,rfl,_,rfl,ca,_,_,_,rfl,rfl,SqT.of hca6,atI_nat hbv,ba,_,_,_,rfl,rfl,SqT.of hba6,rfl,t,_,rfl,.inr (SqT.of ht6),_,_,rfl,rfl,(show (0:Int)<((ls.length:Nat):Int) by omega),?_⟩
    obtain ⟨pp,lv,ep,hlv⟩:=at_mod (xs:=ls) (n:=n1) (fun h=>by rw [h] at hll; simp at hll; omega)
    dsimp only
    rw [ep]
    obtain ⟨li,hli,⟨la,rfl,hla⟩⟩:=paired_at prl hlv
    have gl:=gb.l li (List.mem_of_getElem? hli)
    have g2:=gl.2.2.1
    have g3:=gl.2.1
    refine ⟨_,rfl,_,rfl,_,rfl,ca,_,_,_,rfl,rfl,SqT.of hca6,atI_nat hbv,ba,_,_,_,rfl,rfl,SqT.of hba6,rfl,_,rfl,t,_,_,_,rfl,rfl,SqT.of ht6,atI_nat hlv,la,_,_,_,rfl,rfl,SqT.of (s46 _ _ hla),rfl,_,_,rfl,rfl,_,_,rfl,rfl,(show (0:Int)<1001 - li.beats by omega),?_⟩
    have m0:=Int.emod_nonneg n2 (show 1001 - li.beats≠0 by omega)
    have m1:=Int.emod_lt_of_pos n2 (show (0:Int)<1001 - li.beats by omega)
    dsimp only
    generalize n2 % (1001 - li.beats)=mm at m0 m1
    have SL:K62.Slow c (.int b) (.int pp) (.int mm) b pp mm bl li:=⟨rfl,hb,rfl,hli,rfl,m0,by omega⟩
    have S:=toAt SL
    have hch6:=hch4.mono (Same.tup s46)
    refine ⟨_,rfl,_,rfl,_,rfl,_,rfl,_,rfl,.ref ca,c,b,pp,mm,bl,li,rfl,hch6,c6,l6,S,fun v7 H7 s7 hch7=>?_⟩
    have hch67:=hch6.mono (Same.tup s7)
    refine ⟨_,rfl,.ref ca,v7,c,b,pp,mm,bl,li,many,rfl,hch67,hch7,fc,S,hmany,fun H8 u vs8 rows rows' s8 u0 hu8 hl1 hl2 R1 R2 pd8=>?_⟩
    have hch8:=hch67.mono (Same.tup s8)
    have lsz:(sortB (lateAll c rows rows' (many+1))).length≤900:=by
      rw [sortB_len]
      have:=lateAll_len c6 rows rows' (many+1)
      omega
    have same:∀ {r1 r2:List (List (Option Int))},r1.length=many+1→r2.length=many+1→Rows c r1→Rows (slower c b pp mm bl li) r2→r1=rows∧r2=rows':=fun {r1 r2} h1 h2 h3 h4=>⟨rows_one fc.slow h3 R1 (by omega),rows_one (slower_fine S fc).slow h4 R2 (by omega)⟩
    refine ⟨_,rfl,_,rfl,_,rfl,_,rfl,_,rfl,.ref ca,c,.int b,.int pp,.int mm,many,rfl,hch8,fc,l6,.int _,.int _,.int _,hmany,fun b' p' m' bl' l' S'=>?_,fun no=>absurd SL (no _ _ _ _ _)⟩
    obtain rfl:b'=b:=by have:=V.int.inj S'.hx; omega
    obtain rfl:bl'=bl:=Option.some.inj (S'.hb.symm.trans hb)
    obtain rfl:p'=pp:=by have:=V.int.inj S'.hy; omega
    obtain rfl:l'=li:=Option.some.inj (S'.hp.symm.trans hli)
    obtain rfl:m'=mm:=(V.int.inj S'.hz).symm
    intro H9 t9 vs9 r1 r2 s9 n9 ht9 k1 k2 K1 K2 pd9
    obtain ⟨rfl,rfl⟩:=same k1 k2 K1 K2
    have hu9:=s9 _ _ hu8
    have pd89:=paired_imp (fun _ _ z=>D3At.same s9 z) pd8
    refine ⟨_,rfl,_,_,_,rfl,.lst ht9,kit_ll K,_,rfl,iteF ?_⟩
    refine ⟨_,rfl,t9,_,rfl,.inl ⟨SqL.of ht9,fun q1 hq1=>?_⟩⟩
    have w1:=same_new hq1 (.tup vs9)
    refine ⟨_,rfl,u,_,rfl,.inl ⟨SqL.of (w1 _ _ hu9),fun q2 hq2=>?_⟩⟩
    have w2:=same_new hq2 (.tup vs8)
    have w12:=w1.trans w2
    refine ⟨_,_,rfl,d3s_like (w2 _ _ upd_same) upd_same (paired_imp (fun _ _ z=>D3At.same w12 z) pd9) (paired_imp (fun _ _ z=>D3At.same w12 z) pd89) lsz,fun H10 s10=>?_⟩
    refine ⟨_,rfl,iteF ?_⟩
    have s910:=w12.trans s10
    have ht10:=s910 _ _ ht9
    have hu10:=s910 _ _ hu9
    have pd10:=paired_imp (fun _ _ z=>D3At.same s910 z) pd89
    have n9':H8 t9=none:=n9
    refine ⟨_,rfl,.inl ⟨rfl,_,SqL.of ht10⟩,(by show 0≤sizeLine; decide),fun em hem=>?_⟩
    have s11:=same_new hem (.tup [])
    have ht11:=s11 _ _ ht10
    refine ⟨t9,vs9,_,rfl,rfl,ht11,?_,?_⟩
    · have:=paired_len pd9
      exact small1000 (by omega)
    have b12:But t9 H10 (upd (upd H10 em (.tup [])) t9 (.lst (vs9++[.ref em]))):=(Same.but s11).upd _
    have ut9:u≠t9:=fun e=>by rw [← e,hu8] at n9'; cases n9'
    have hu12:=b12 _ _ ut9 hu10
    have pd12:=paired_imp (fun _ _ z=>D3At.but ht10 b12 z) pd10
    have s8_12:Same H8 (upd (upd H10 em (.tup [])) t9 (.lst (vs9++[.ref em]))):=fun x o e=>b12 _ _ (ne_of_none e n9') (s910 _ _ (s9 _ _ e))
    generalize upd (upd H10 em (.tup [])) t9 (.lst (vs9++[.ref em]))=H12 at b12 hu12 pd12 s8_12 ⊢
    have hch12:=hch8.mono (Same.tup s8_12)
    refine ⟨_,rfl,_,rfl,_,rfl,_,rfl,_,rfl,.ref ca,c,.int b',.int p',.int m',many,rfl,hch12,fc,l6,.int _,.int _,.int _,hmany,fun b2 p2 m2 bl2 l2 S2=>?_,fun no=>absurd SL (no _ _ _ _ _)⟩
    obtain rfl:b2=b':=by have:=V.int.inj S2.hx; omega
    obtain rfl:bl2=bl':=Option.some.inj (S2.hb.symm.trans hb)
    obtain rfl:p2=p':=by have:=V.int.inj S2.hy; omega
    obtain rfl:l2=l':=Option.some.inj (S2.hp.symm.trans hli)
    obtain rfl:m2=m':=(V.int.inj S2.hz).symm
    intro H13 t13 vs13 r3 r4 s13 n13 ht13 k3 k4 K3 K4 pd13
    obtain ⟨e3,e4⟩:=same k3 k4 K3 K4
    rw [e3,e4] at pd13
    have hu13:=s13 _ _ hu12
    have pdu13:=paired_imp (fun _ _ z=>D3At.same s13 z) pd12
    have ne:t13≠u:=fun e=>by rw [e,hu12] at n13; cases n13
    refine ⟨_,rfl,2,true,t13,u,rfl,rfl,ne,by decide,d3s_eqH ne ht13 hu13 pd13 pdu13,_,rfl,iteF ?_⟩
    have hch13:=hch12.mono (Same.tup s13)
    obtain ⟨kd,rfl⟩:=Int.eq_ofNat_of_zero_le e0
    obtain ⟨pk,rfl⟩:=Int.eq_ofNat_of_zero_le g0
    refine ⟨_,rfl,_,rfl,_,rfl,_,rfl,_,rfl,_,rfl,_,rfl,.ref ca,c,b2,p2,m2,kd,pk,bl2,l2,rfl,hch13,hb,hli,by omega,by omega,fun H14 ta x y z s14 hta fx fy fz no=>?_⟩
    refine ⟨_,rfl,.ref ca,c,ta,x,y,z,many,rfl,hta,hch13.mono (Same.tup s14),fc,l6,fx,fy,fz,hmany,no,fun H15 s15=>?_⟩
    refine ⟨_,rfl,iteF ?_⟩
    exact ⟨_,_,_,_,_,_,_,_,_,rfl,s24.trans (s46.trans (s7.trans (s8.trans (s8_12.trans (s13.trans (s14.trans s15))))))⟩
  · rintro σ H3 ⟨o2,o3,o4,o5,o6,o7,o8,o9,o10,rfl,_⟩
    exact q _
end
end K62.S
namespace K62
open PySem L2
theorem xcls_mk {K:PySem.W.Frag} {C:Addr} (h1:PySem.W.findIn K (.ref C) "__getattribute__"=some (some (.builtin "BaseException.__getattribute__"))) (h2:PySem.W.findIn K (.ref C) "__getattr__"=some none) (h3:PySem.W.subIn K (.ref C) (.type "BaseException")=some true) (h4:PySem.W.hasDictIn K C=true)
    (h5:PySem.W.findIn K (.ref C) "__class__"=some (some (.builtin "object.__class__"))) (h6:PySem.W.specialIn K (.builtin "object.__class__") "__get__"=some (some (.builtin "getset_descriptor.__get__"))) (h7:PySem.W.takesIn K (.builtin "object.__class__")=some true) (h8:PySem.W.mroIn K C (.type "object")=some true):XCls K C:=⟨h1,h2,h3,h4,h5,h6,h7,h8⟩
theorem excC_mk {K:PySem.W.Frag} {C:Addr} (h:PySem.W.excIn K C [.type "ValueError",.type "Exception",.type "BaseException",.type "object"] "ValueError.__new__"=true):ExcC K C:=h
theorem ten_mk {K:PySem.W.Frag} {h:Heap} {mg:Str→Option Value} {a0 a1 a2 a3 a4 a5 a6 a7 a8 a9 aB:Addr} (X:K.In h) (G:h.Ns mainGlobals mg) (z0:PySem.W.nsIn K mainGlobals "NoRule"=some (some (.ref a0))) (z1:PySem.W.nsIn K mainGlobals "NoChoir"=some (some (.ref a1))) (z2:PySem.W.nsIn K mainGlobals "NoText"=some (some (.ref a2)))
    (z3:PySem.W.nsIn K mainGlobals "Waiting"=some (some (.ref a3))) (z4:PySem.W.nsIn K mainGlobals "Mixed"=some (some (.ref a4))) (z5:PySem.W.nsIn K mainGlobals "NoName"=some (some (.ref a5))) (z6:PySem.W.nsIn K mainGlobals "NoRound"=some (some (.ref a6))) (z7:PySem.W.nsIn K mainGlobals "NoListening"=some (some (.ref a7)))
    (z8:PySem.W.nsIn K mainGlobals "NoRow"=some (some (.ref a8))) (z9:PySem.W.nsIn K mainGlobals "NoStand"=some (some (.ref a9))) (zB:PySem.W.nsIn K mainGlobals "BellError"=some (some (.ref aB))):TenOk mg ⟨a0,a1,a2,a3,a4,a5,a6,a7,a8,a9,aB⟩ :=
  ⟨PySem.W.mg_of X G z0,PySem.W.mg_of X G z1,PySem.W.mg_of X G z2,PySem.W.mg_of X G z3,PySem.W.mg_of X G z4,PySem.W.mg_of X G z5,PySem.W.mg_of X G z6,PySem.W.mg_of X G z7,PySem.W.mg_of X G z8,PySem.W.mg_of X G z9,PySem.W.mg_of X G zB⟩
theorem only_mk {K:PySem.W.Frag} {C:Addr} {at_:Int} {a0 a1 a2 a3 a4 a5 a6 a7 a8 a9 aB:Addr} {b0 b1 b2 b3 b4 b5 b6 b7 b8 b9:Bool} (k0:PySem.W.kitOne K (.ref C) (.ref a0)=some b0) (k1:PySem.W.kitOne K (.ref C) (.ref a1)=some b1) (k2:PySem.W.kitOne K (.ref C) (.ref a2)=some b2) (k3:PySem.W.kitOne K (.ref C) (.ref a3)=some b3)
    (k4:PySem.W.kitOne K (.ref C) (.ref a4)=some b4) (k5:PySem.W.kitOne K (.ref C) (.ref a5)=some b5) (k6:PySem.W.kitOne K (.ref C) (.ref a6)=some b6) (k7:PySem.W.kitOne K (.ref C) (.ref a7)=some b7) (k8:PySem.W.kitOne K (.ref C) (.ref a8)=some b8) (k9:PySem.W.kitOne K (.ref C) (.ref a9)=some b9)
    (kB:PySem.W.kitOne K (.ref C) (.ref aB)=some true) (kV:PySem.W.kitOne K (.ref C) (.type "ValueError")=some true) (xc:XCls K C) (e:[b0,b1,b2,b3,b4,b5,b6,b7,b8,b9]=(List.range 10).map (isAt at_)):OnlyF K C at_ ⟨a0,a1,a2,a3,a4,a5,a6,a7,a8,a9,aB⟩:=by
  have e':[b0,b1,b2,b3,b4,b5,b6,b7,b8,b9]=[isAt at_ 0,isAt at_ 1,isAt at_ 2,isAt at_ 3,isAt at_ 4,isAt at_ 5,isAt at_ 6,isAt at_ 7,isAt at_ 8,isAt at_ 9]:=e
  injection e' with e0 e'
  injection e' with e1 e'
  injection e' with e2 e'
  injection e' with e3 e'
  injection e' with e4 e'
  injection e' with e5 e'
  injection e' with e6 e'
  injection e' with e7 e'
  injection e' with e8 e'
  injection e' with e9 e'
  exact ⟨e0▸k0,e1▸k1,e2▸k2,e3▸k3,e4▸k4,e5▸k5,e6▸k6,e7▸k7,e8▸k8,e9▸k9,kB,kV,xc⟩
end K62
namespace K62.S
open PySem L2
theorem own_mk {K:PySem.W.Frag} {C fi ff:Addr} (i:PySem.W.findIn K (.ref C) "__init__"=some (some (.ref fi))) (fl:PySem.W.findIn K (.ref C) "falls"=some (some (.ref ff))) (pg:PySem.W.plainGet K C Str.empty=true) (hd:PySem.W.hasDictIn K C=true) (po:PySem.W.plainOver K C=true)
    (sa:PySem.W.findIn K (.ref C) "__setattr__"=some (some (.builtin "object.__setattr__"))) (n:PySem.W.findIn K (.ref C) "need"=some none) (mk:PySem.W.makesIn K C=true) (fn:PySem.W.isFn K (.ref fi)=true) (kc:PySem.W.keepIn K (.ref C)=true)
    (ffn:PySem.W.isFn K (.ref ff)=true) (fk:PySem.W.keepIn K (.ref ff)=true):Own K C fi ff:=⟨⟨pg,hd,po,sa⟩,n,⟨mk,i,fn,kc⟩,⟨fl,ffn,fk⟩⟩
theorem clsfn_mk {K:PySem.W.Frag} {C g:Addr} {m:Str} (a:PySem.W.findCls K (.ref C) (.type "type") m=some (.val (.ref g))) (rd:PySem.W.readsIn K C (.type "type")=true)
    (sp:PySem.W.specialIn K (.ref C) "__getattribute__"=some (some (.builtin "type.__getattribute__"))) (kp:PySem.W.keepIn K (.ref g)=true):ClsFn K C m g:=⟨rd,a,sp,kp⟩
theorem all {t:Ten} {t_mM:Tok} {P:Program} {w:World} {K:PySem.W.Frag} {h:Heap} {mg:Str→Option Value} {fa R A Y S fR fA fY fS ff:Addr} (X:K.In h) (G:h.Ns mainGlobals mg) (hfa:mg "law"=some (.ref fa)) (B:Blt mg)
    (T:TenOk mg t) (xN:ExcC K t.c7) (O:OnlyF K t.c7 7 t) (xm:PySem.W.exmOne K (.ref t.c7) (.ref t.cB)=some true) (mM:mg "MOST_BEATS"=some (.int 1000 t_mM))
    (aR:PySem.W.nsIn K mainGlobals "Rule"=some (some (.ref R))) (aA:PySem.W.nsIn K mainGlobals "All"=some (some (.ref A))) (aY:PySem.W.nsIn K mainGlobals "Any"=some (some (.ref Y))) (aS:PySem.W.nsIn K mainGlobals "Some"=some (some (.ref S)))
    (cR:ClsFn K R "__init__" fR) (oA:Own K A fA ff) (oY:Own K Y fY ff) (oS:Own K S fS ff)
    (FR:∃ fd,Fun K "__init__" "Rule.__init__" s_Rinit fR fd) (FA:∃ fd,Fun K "__init__" "All.__init__" s_Ainit fA fd) (FY:∃ fd,Fun K "__init__" "Any.__init__" s_Yinit fY fd) (FS:∃ fd,Fun K "__init__" "Some.__init__" s_Sinit fS fd) (FF:∃ fd,Fun K "falls" "Rule.falls" s_falls ff fd)
    (F__law_cell:FunAt K "_law_cell" s_cell) (F__law_blended:FunAt K "_law_blended" s_blended) (F__law_figures:FunAt K "_law_figures" s_figures) (F__law_part:FunAt K "_law_part" s_part) (F__law_names:FunAt K "_law_names" s_names) (F__law_bell:FunAt K "_law_bell" s_bell) (F__law_choir:FunAt K "_law_choir" s_choir) (F_is_whole:FunAt K "is_whole" s_is_whole) (F_is_whole_within:FunAt K "is_whole_within" s_is_whole_within) (F_refuse_beyond:FunAt K "refuse_beyond" s_refuse_beyond) (F_with_other:FunAt K "with_other" s_with_other) (F_made_slower:FunAt K "made_slower" s_made_slower) (F__law_only:FunAt K "_law_only" s_only) (F__law_same:FunAt K "_law_same" s_same) (F_rule_of_text:FunAt K "rule_of_text" s_text) (F_rule_of:FunAt K "rule_of" s_rule_of) (F_rule_of_bell:FunAt K "rule_of_bell" s_rule_of_bell) (F_listening_comes:FunAt K "listening_comes" s_comes) (F_next_found:FunAt K "next_found" s_found) (F_strokes_behind:FunAt K "strokes_behind" s_behind) (F_strokes:FunAt K "strokes" s_strokes) (F__law_comes:FunAt K "_law_comes" s_lcomes) (F__law_going:FunAt K "_law_going" s_going) (F_later_strokes:FunAt K "later_strokes" s_later_strokes) (F__law_slower:FunAt K "_law_slower" s_lslower) (F__law_due:FunAt K "_law_due" s_due) (F__law_refused:FunAt K "_law_refused" s_refused) (F__law_odd:FunAt K "_law_odd" s_odd) (F_law:FunAt K "law" s_law) :
    ∃ fd:FuncData,(∀ (s:Shared) (u:Value),BindsTo s fd ⟨[u],[]⟩ [("_law_script",u)])∧∀ base:Heap,K.In base→base.Ns mainGlobals mg→FnOk P w K mg base CX0 10 fa fd ["_law_script"] (K62.S.sp_law K):=by
  refine F_law.law X G hfa (fun _ _ _ _ _ _ _=>rfl) fun base _ _ f fd F=>?_
  obtain ⟨dR,FR⟩:=FR; obtain ⟨dA,FA⟩:=FA; obtain ⟨dY,FY⟩:=FY; obtain ⟨dS,FS⟩:=FS; obtain ⟨df,FF⟩:=FF
  have mR:=PySem.W.mg_of X G aR
  have bR:Binds K dR ["self","need"] []:=FR.binds (ps:=["self","need"]) fun _ _ _ _ _ _ us hl=>by obtain ⟨a,b,rfl⟩:=len2 hl; rfl
  have bA:Binds K dA ["self","many"] []:=FA.binds (ps:=["self","many"]) fun _ _ _ _ _ _ us hl=>by obtain ⟨a,b,rfl⟩:=len2 hl; rfl
  have bY:Binds K dY ["self"] []:=FY.binds (ps:=["self"]) fun _ _ _ _ _ _ us hl=>by obtain ⟨a,rfl⟩:=len1 hl; rfl
  have bS:Binds K dS ["self","need"] []:=FS.binds (ps:=["self","need"]) fun _ _ _ _ _ _ us hl=>by obtain ⟨a,b,rfl⟩:=len2 hl; rfl
  have bF:Binds K df ["self","beats"] []:=FF.binds (ps:=["self","beats"]) fun _ _ _ _ _ _ us hl=>by obtain ⟨a,b,rfl⟩:=len2 hl; rfl
  have HR:FnOk P w K mg base CX0 1 fR dR ["self","need"] (K62.S.sp_init K):=K62.S.ok_Rinit FR
  have HA:FnOk P w K mg base CX0 2 fA dA ["self","many"] (K62.S.sp_init K):=K62.S.ok_Ainit FA mR cR HR bR
  have HY:FnOk P w K mg base CX0 2 fY dY ["self"] (K62.S.sp_init1 K):=K62.S.ok_Yinit FY mR cR HR bR
  have HS:FnOk P w K mg base CX0 2 fS dS ["self","need"] (K62.S.sp_init K):=K62.S.ok_Sinit FS mR cR HR bR
  have HF:FnOk P w K mg base CX0 1 ff df ["self","beats"] (K62.S.sp_falls K):=K62.S.ok_falls FF B
  have C__law_cell:Cal P w K mg base 1 "_law_cell" ["_law_script","_law_k"] (K62.sp_cell K):=F__law_cell.cal X G (fun _ _ _ _ _ _ us hl=>by obtain ⟨a,b,rfl⟩:=len2 hl; rfl) fun f fd F=>K62.ok_cell F B
  have C__law_blended:Cal P w K mg base 1 "_law_blended" ["_law_cell_here","_law_ranges"] (K62.sp_blended K):=F__law_blended.cal X G (fun _ _ _ _ _ _ us hl=>by obtain ⟨a,b,rfl⟩:=len2 hl; rfl) fun f fd F=>K62.ok_blended F B
  have C__law_figures:Cal P w K mg base 1 "_law_figures" ["_law_cell_here","_law_ranges","_law_spare"] (K62.sp_figures K):=F__law_figures.cal X G (fun _ _ _ _ _ _ us hl=>by obtain ⟨a,b,c,rfl⟩:=len3 hl; rfl) fun f fd F=>K62.ok_figures F B
  have C__law_part:Cal P w K mg base 2 "_law_part" ["_law_script","_law_k","_law_ranges"] (K62.sp_part K):=F__law_part.cal X G (fun _ _ _ _ _ _ us hl=>by obtain ⟨a,b,c,rfl⟩:=len3 hl; rfl) fun f fd F=>K62.ok_part F C__law_cell C__law_blended C__law_figures
  have C__law_names:Cal P w K mg base 3 "_law_names" ["_law_script","_law_at","_law_ahead"] (K62.sp_names K):=F__law_names.cal X G (fun _ _ _ _ _ _ us hl=>by obtain ⟨a,b,c,rfl⟩:=len3 hl; rfl) fun f fd F=>K62.ok_names F B C__law_cell C__law_blended C__law_part
  have C__law_bell:Cal P w K mg base 1 "_law_bell" ["_law_numbers","_law_name","_law_many","_law_scale"] K62.sp_bell:=F__law_bell.cal X G (fun _ _ _ _ _ _ us hl=>by obtain ⟨a,b,c,d,rfl⟩:=len4 hl; rfl) fun f fd F=>K62.ok_bell F B
  have C__law_choir:Cal P w K mg base 3 "_law_choir" ["_law_script","_law_at","_law_names_here"] (K62.sp_choir K):=F__law_choir.cal X G (fun _ _ _ _ _ _ us hl=>by obtain ⟨a,b,c,rfl⟩:=len3 hl; rfl) fun f fd F=>K62.ok_choir F B C__law_cell C__law_part C__law_bell
  have C_is_whole:Cal P w K mg base 1 "is_whole" ["thing"] (K62.sp_whole K):=F_is_whole.cal X G (fun _ _ _ _ _ _ us hl=>by obtain ⟨a,rfl⟩:=len1 hl; rfl) fun f fd F=>K62.ok_is_whole F B
  have C_is_whole_within:Cal P w K mg base 2 "is_whole_within" ["thing","least","most"] K62.sp_within:=F_is_whole_within.cal X G (fun _ _ _ _ _ _ us hl=>by obtain ⟨a,b,c,rfl⟩:=len3 hl; rfl) fun f fd F=>K62.ok_within F C_is_whole
  have C_refuse_beyond:CalX P w K mg base 3 "refuse_beyond" ["number","most"] (K62.sp_beyond t.c7):=F_refuse_beyond.calX X G (fun _ _ _ _ _ _ us hl=>by obtain ⟨a,b,rfl⟩:=len2 hl; rfl) fun f fd F=>K62.ok_beyond F T.m7 xN C_is_whole_within
  have C_with_other:Cal P w K mg base 1 "with_other" ["things","place","thing"] K62.sp_other:=F_with_other.cal X G (fun _ _ _ _ _ _ us hl=>by obtain ⟨a,b,c,rfl⟩:=len3 hl; rfl) fun f fd F=>K62.ok_other F
  have C_made_slower:CalX P w K mg base 4 "made_slower" ["choir","bell","place","more"] (K62.sp_slower t.c7):=F_made_slower.calX X G (fun _ _ _ _ _ _ us hl=>by obtain ⟨a,b,c,d,rfl⟩:=len4 hl; rfl) fun f fd F=>K62.ok_slower F B mM C_refuse_beyond C_with_other
  have C__law_only:Cal P w K mg base 1 "_law_only" ["_law_error","_law_at"] (K62.sp_only t.c7 7):=F__law_only.cal X G (fun _ _ _ _ _ _ us hl=>by obtain ⟨a,b,rfl⟩:=len2 hl; rfl) fun f fd F=>K62.ok_only F B T O
  have C__law_same_0:Cal P w K mg base 1 "_law_same" ["_law_answer","_law_due_here"] (K62.sp_like 0):=F__law_same.cal X G (fun _ _ _ _ _ _ us hl=>by obtain ⟨a,b,rfl⟩:=len2 hl; rfl) fun f fd F=>K62.ok_like0 F
  have C__law_same_1:Cal P w K mg base 2 "_law_same" ["_law_answer","_law_due_here"] (K62.sp_like 1):=F__law_same.cal X G (fun _ _ _ _ _ _ us hl=>by obtain ⟨a,b,rfl⟩:=len2 hl; rfl) fun f fd F=>K62.ok_like F B C__law_same_0
  have C__law_same_2:Cal P w K mg base 3 "_law_same" ["_law_answer","_law_due_here"] (K62.sp_like 2):=F__law_same.cal X G (fun _ _ _ _ _ _ us hl=>by obtain ⟨a,b,rfl⟩:=len2 hl; rfl) fun f fd F=>K62.ok_like F B C__law_same_1
  have C__law_same_3:Cal P w K mg base 4 "_law_same" ["_law_answer","_law_due_here"] (K62.sp_like 3):=F__law_same.cal X G (fun _ _ _ _ _ _ us hl=>by obtain ⟨a,b,rfl⟩:=len2 hl; rfl) fun f fd F=>K62.ok_like F B C__law_same_2
  have C_is_whole_S:Cal P w K mg base 1 "is_whole" ["thing"] K62.S.sp_whole:=F_is_whole.cal X G (fun _ _ _ _ _ _ us hl=>by obtain ⟨a,rfl⟩:=len1 hl; rfl) fun f fd F=>K62.S.ok_is_whole F B
  have C_text_S:Cal P w K mg base 4 "rule_of_text" ["text","many"] (K62.S.sp_text K ff):=F_rule_of_text.cal X G (fun _ _ _ _ _ _ us hl=>by obtain ⟨a,b,rfl⟩:=len2 hl; rfl) fun f fd F=>K62.S.ok_text F (PySem.W.mg_of X G aA) (PySem.W.mg_of X G aY) oA oY HA bA HY bY
  have C_rule_S:Cal P w K mg base 5 "rule_of" ["word","many"] (K62.S.sp_rule K ff):=F_rule_of.cal X G (fun _ _ _ _ _ _ us hl=>by obtain ⟨a,b,rfl⟩:=len2 hl; rfl) fun f fd F=>K62.S.ok_rule_of F B (PySem.W.mg_of X G aS) oS HS bS C_text_S C_is_whole_S
  have C_rule_of_bell:Cal P w K mg base 6 "rule_of_bell" ["bell"] (K62.S.sp_bellrule K ff):=F_rule_of_bell.cal X G (fun _ _ _ _ _ _ us hl=>by obtain ⟨a,rfl⟩:=len1 hl; rfl) fun f fd F=>K62.S.ok_rule_of_bell F B C_rule_S
  have C_listening_comes:Cal P w K mg base 1 "listening_comes" ["listening","before","now"] K62.S.sp_comes:=F_listening_comes.cal X G (fun _ _ _ _ _ _ us hl=>by obtain ⟨a,b,c,rfl⟩:=len3 hl; rfl) fun f fd F=>K62.S.ok_comes F
  have C_next_found:Cal P w K mg base 2 "next_found" ["choir","rules","before","now"] (K62.S.sp_found K ff):=F_next_found.cal X G (fun _ _ _ _ _ _ us hl=>by obtain ⟨a,b,c,d,rfl⟩:=len4 hl; rfl) fun f fd F=>K62.S.ok_found F B C_listening_comes HF bF
  have C_strokes_behind:Cal P w K mg base 3 "strokes_behind" ["choir","rules","before"] (K62.S.sp_behind K ff):=F_strokes_behind.cal X G (fun _ _ _ _ _ _ us hl=>by obtain ⟨a,b,c,rfl⟩:=len3 hl; rfl) fun f fd F=>K62.S.ok_behind F C_next_found
  have C_strokes:Cal P w K mg base 7 "strokes" ["choir","many"] K62.S.sp_strokes:=F_strokes.cal X G (fun _ _ _ _ _ _ us hl=>by obtain ⟨a,b,rfl⟩:=len2 hl; rfl) fun f fd F=>K62.S.ok_strokes F B C_rule_of_bell C_strokes_behind
  have C__law_comes:Cal P w K mg base 1 "_law_comes" ["_law_bell_here","_law_ahead","_law_here"] K62.S.sp_lcomes:=F__law_comes.cal X G (fun _ _ _ _ _ _ us hl=>by obtain ⟨a,b,c,rfl⟩:=len3 hl; rfl) fun f fd F=>K62.S.ok_lcomes F B
  have C__law_going:Cal P w K mg base 2 "_law_going" ["_law_choir_here","_law_many"] K62.S.sp_lgoing:=F__law_going.cal X G (fun _ _ _ _ _ _ us hl=>by obtain ⟨a,b,rfl⟩:=len2 hl; rfl) fun f fd F=>K62.S.ok_lgoing F B C__law_comes
  have C_later_strokes:CalX P w K mg base 8 "later_strokes" ["choir","bell","place","more","many"] (K62.S.sp_lstrokes t.c7):=F_later_strokes.calX X G (fun _ _ _ _ _ _ us hl=>match us,hl with | [_,_,_,_,_],_=>rfl) fun f fd F=>K62.S.ok_lstrokes F B C_made_slower C_strokes
  have C__law_slower:Cal P w K mg base 1 "_law_slower" ["_law_choir_here","_law_bell_here","_law_place","_law_more"] K62.S.sp_lslower:=F__law_slower.cal X G (fun _ _ _ _ _ _ us hl=>by obtain ⟨a,b,c,d,rfl⟩:=len4 hl; rfl) fun f fd F=>K62.S.ok_lslower F
  have C__law_due:Cal P w K mg base 3 "_law_due" ["_law_choir_here","_law_other","_law_many"] K62.S.sp_due:=F__law_due.cal X G (fun _ _ _ _ _ _ us hl=>by obtain ⟨a,b,c,rfl⟩:=len3 hl; rfl) fun f fd F=>K62.S.ok_due F B C__law_going
  have C__law_refused:Cal P w K mg base 9 "_law_refused" ["_law_choir_here","_law_asked","_law_many"] K62.S.sp_refused:=F__law_refused.cal X G (fun _ _ _ _ _ _ us hl=>by obtain ⟨a,b,c,rfl⟩:=len3 hl; rfl) fun f fd F=>K62.S.ok_refused F T.mB xm C_later_strokes C__law_only
  have C__law_odd:Cal P w K mg base 1 "_law_odd" ["_law_choir_here","_law_bell_here","_law_place","_law_more","_law_kind","_law_pick"] K62.S.sp_odd:=F__law_odd.cal X G (fun _ _ _ _ _ _ us hl=>match us,hl with | [_,_,_,_,_,_],_=>rfl) fun f fd F=>K62.S.ok_odd F B
  exact K62.S.ok_law F B C__law_names C__law_choir C__law_part C__law_due C__law_slower C_later_strokes.to0 C__law_same_3 C__law_refused C__law_odd
end K62.S
def PySem.W.Fast.tw5328182139905289976:Nat:=0
def PySem.W.Fast.tw2135912536960691264:Nat:=0
def PySem.W.Fast.tw12545877072942207424:Nat:=0
def PySem.W.Fast.tw8688260278597020639:Nat:=0
def PySem.W.Fast.tw11546956745059708139:Nat:=0
def PySem.W.Fast.tw18439982423564127327:Nat:=0
def PySem.W.Fast.tw15209303906630727792:Nat:=0
def PySem.W.Fast.tw1108040315758282706:Nat:=0
def PySem.W.Fast.tw10115512127285558076:Nat:=0
def PySem.W.Fast.tw8454006259059132193:Nat:=0
def PySem.W.Fast.tw10186952058640222733:Nat:=0
def PySem.W.Fast.tw11517803049283913955:Nat:=0
def PySem.W.Fast.tw11308239109967415916:Nat:=0
def PySem.W.Fast.tw5476143825950618564:Nat:=0
def PySem.W.Fast.tw14585419480782216178:Nat:=0
def PySem.W.Fast.tw5203238045891676687:Nat:=0
def PySem.W.Fast.tw7141625942581969026:Nat:=0
def PySem.W.Fast.tw17091085352259555257:Nat:=0
def PySem.W.Fast.tw13815863528941302700:Nat:=0
def PySem.W.Fast.tw525364272364787436:Nat:=0
def PySem.W.Fast.tw4894520551128800545:Nat:=0
def PySem.W.Fast.tw2657016566066205405:Nat:=0
open PySem PySem.W PyProof.Rows
set_option maxRecDepth 100000 in
set_option maxHeartbeats 0 in
theorem PySem.Challenge.cw_earbells_k62_later_strokes_holds : PySem.Challenge.rw_earbells_k62_later_strokes.Holds := by
  w_on; o_law; k_head; (case hw=>w_witness2)
  k_fill
  refine L2.walk_ofK (l:=PySem.Challenge.rw_earbells_k62_later_strokes) (n:=63) (k:=10) (x:="_law_script") (CX:=L2.CX0) (sp:=K62.S.sp_law) rfl (by decide) rfl ⟨rfl,by decide,by decide⟩ (fun w h Y=>PySem.W.kIn_of Y) ?F (fun K H a ns hl hO hS=>⟨a,ns,rfl,hS,hl,fun _=>rfl⟩) (fun _ _ _ _ z=>z)
  case F =>
    intro w mg fa h KX G hmg
    refine' K62.S.all KX G hmg ?B ?T ?xN ?O ?xm ?mM ?aR ?aA ?aY ?aS ?cR ?oA ?oY ?oS ?FR ?FA ?FY ?FS ?FF ?F__law_cell ?F__law_blended ?F__law_figures ?F__law_part ?F__law_names ?F__law_bell ?F__law_choir ?F_is_whole ?F_is_whole_within ?F_refuse_beyond ?F_with_other ?F_made_slower ?F__law_only ?F__law_same ?F_rule_of_text ?F_rule_of ?F_rule_of_bell ?F_listening_comes ?F_next_found ?F_strokes_behind ?F_strokes ?F__law_comes ?F__law_going ?F_later_strokes ?F__law_slower ?F__law_due ?F__law_refused ?F__law_odd ?F_law
    case B =>
      refine' K62.blt_mk KX G ?z1 ?z2 ?z3 ?z4 ?z5 ?z6 ?z7 ?z8 ?z9 ?z10 ?z11 ?z12 ?z13 ?z14 ?z15 ?z16 ?z17 ?z18 ?z19 ?z20
      all_goals k_is
    (case T=>refine' K62.ten_mk KX G ?y0 ?y1 ?y2 ?y3 ?y4 ?y5 ?y6 ?y7 ?y8 ?y9 ?yB; (case y0=>k_is); (case y1=>k_is); (case y2=>k_is); (case y3=>k_is); (case y4=>k_is); (case y5=>k_is); (case y6=>k_is); (case y7=>k_is); (case y8=>k_is); (case y9=>k_is); (case yB=>k_is))
    (case xN=>refine' K62.excC_mk ?xNa; (case xNa=>k_exc))
    (case O=>refine' K62.only_mk ?Oa ?Ob ?Oc ?Od ?Oe ?Of ?Og ?Oh ?Oi ?Oj ?Ok ?Ol ?Om ?On; (case Om=>(refine' K62.xcls_mk ?qa ?qb ?qc ?qd ?qe ?qf ?qg ?qh; all_goals k_is)); (case On=>rfl); all_goals kit_is)
    (case xm=>kts_exm)
    (case mM=>refine' PySem.W.mg_of KX G ?imM; (case imM=>k_is))
    (case aR=>k_is); (case aA=>k_is); (case aY=>k_is); (case aS=>k_is)
    (case cR=>refine' K62.S.clsfn_mk ?cRa ?cRb ?cRc ?cRd; (case cRa=>k_is); (case cRb=>k_is); (case cRc=>k_is); (case cRd=>k_is))
    (case oA=>refine' K62.S.own_mk ?oAa ?oAb ?oAc ?oAd ?oAe ?oAf ?oAg ?oAh ?oAi ?oAj ?oAk ?oAl; (case oAa=>k_is); (case oAb=>k_is); all_goals k_is)
    (case oY=>refine' K62.S.own_mk ?oYa ?oYb ?oYc ?oYd ?oYe ?oYf ?oYg ?oYh ?oYi ?oYj ?oYk ?oYl; (case oYa=>k_is); (case oYb=>k_is); all_goals k_is)
    (case oS=>refine' K62.S.own_mk ?oSa ?oSb ?oSc ?oSd ?oSe ?oSf ?oSg ?oSh ?oSi ?oSj ?oSk ?oSl; (case oSa=>k_is); (case oSb=>k_is); all_goals k_is)
    (case FR=>refine' L2.fun_ex ?FRl ?FRc ?FRk; (case FRl=>k_is); (case FRc=>k_is); (case FRk=>k_is))
    (case FA=>refine' L2.fun_ex ?FAl ?FAc ?FAk; (case FAl=>k_is); (case FAc=>k_is); (case FAk=>k_is))
    (case FY=>refine' L2.fun_ex ?FYl ?FYc ?FYk; (case FYl=>k_is); (case FYc=>k_is); (case FYk=>k_is))
    (case FS=>refine' L2.fun_ex ?FSl ?FSc ?FSk; (case FSl=>k_is); (case FSc=>k_is); (case FSk=>k_is))
    (case FF=>refine' L2.fun_ex ?FFl ?FFc ?FFk; (case FFl=>k_is); (case FFc=>k_is); (case FFk=>k_is))
    all_goals (refine' L2.funAt_mk ?a ?l ?c ?k; (case a=>k_is); (case l=>k_is); (case c=>k_is); (case k=>k_is))
#print axioms PySem.Challenge.cw_earbells_k62_later_strokes_holds
end
