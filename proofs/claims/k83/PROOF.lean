import PyProof.Rows.All
import Wide.All
import OpenK.AllK
import Wide.FinOn
import Lean
import PyProof.EqAt
import PyProof.EqKinds
import PyProof.TupleCall
import PyProof.NeKinds
import PySem.Challenge.RW_earbells_k83_whole_slower_and_joined
set_option Elab.async false
set_option linter.all false
set_option maxRecDepth 100000
noncomputable section
namespace PySem.W.Fast
def tw10200868725734548779:Nat:=0
def tw6933861799647080939:Nat:=0
def tw386212114864042870:Nat:=0
def tw17245744392330109644:Nat:=0
def tw459751154247249423:Nat:=0
def tw16014484472925239013:Nat:=0
def tw4535995688528947374:Nat:=0
def tw17933125439174849581:Nat:=0
def tw15653219747990636396:Nat:=0
def tw15318718798399295433:Nat:=0
def tw5511457936159990879:Nat:=0
def tw16858684243925191307:Nat:=0
def tw15115250415262914329:Nat:=0
def tw16109320755754459300:Nat:=0
def tw4012856401779013892:Nat:=0
def tw525863650372811480:Nat:=0
def tw17122720351255910474:Nat:=0
def tw7036742442384851392:Nat:=0
def tw3568546316931475639:Nat:=0
def tw11754254328297576157:Nat:=0
def tw2298155768667307019:Nat:=0
def tw3261012163246195899:Nat:=0
def tw3034979157008903358:Nat:=0
def tw10141816466938345066:Nat:=0
def tw17640341481854208017:Nat:=0
def tw5566329382841451883:Nat:=0
def tw6644547362211545956:Nat:=0
def tw16348176646747678704:Nat:=0
def tw8903626826408937828:Nat:=0
def tw4429100696809692692:Nat:=0
def tw5981594706886516348:Nat:=0
def tw6808275688927793180:Nat:=0
def tw17812687193347757590:Nat:=0
def tw1873623636961346712:Nat:=0
def tw15953533004429689345:Nat:=0
def tw12840683808328791077:Nat:=0
def tw9578550312204055120:Nat:=0
def tw12556609813575204461:Nat:=0
def tw7336955107120936731:Nat:=0
def tw16126076344720235607:Nat:=0
def tw1484242261813738209:Nat:=0
def tw570389277881414526:Nat:=0
def tw3999976915123867994:Nat:=0
def tw18273738750549464971:Nat:=0
def tw11912118327018654441:Nat:=0
def tw17642944243040484151:Nat:=0
def tw6186246817201569768:Nat:=0
def tw16553920271322191943:Nat:=0
def tw153215229640264750:Nat:=0
def tw4254002848189276636:Nat:=0
def tw4609805473521150916:Nat:=0
def tw11644149115374133361:Nat:=0
def tw7780142598468203822:Nat:=0
def tw16063625026092775012:Nat:=0
def tw13149815600426781934:Nat:=0
def tw7721299212456841820:Nat:=0
def tw4246068678636218028:Nat:=0
def tw5455794307523517689:Nat:=0
def tw14967061466372988323:Nat:=0
def tw1131115550300414063:Nat:=0
def tw16266496984595464400:Nat:=0
def tw4322999452982753541:Nat:=0
def tw15922337215373356362:Nat:=0
def tw7273125152362167679:Nat:=0
def tw5260559993025630562:Nat:=0
def tw17285404190560253440:Nat:=0
def tw8646384468665113320:Nat:=0
def tw8014442424201414590:Nat:=0
def tw11414167464817686706:Nat:=0
def tw17524309148106059255:Nat:=0
def tw17771638997468000895:Nat:=0
def tw8123191865128298196:Nat:=0
def tw4076804244761402202:Nat:=0
def tw13610799411795836723:Nat:=0
def tw8526015933328845451:Nat:=0
def tw2931161064117303971:Nat:=0
def tw9317177081753028860:Nat:=0
def tw85496447537945077:Nat:=0
def tw16942844468106019288:Nat:=0
def tw781114648494319537:Nat:=0
def tw10943956546486325120:Nat:=0
def tw2036465895997018304:Nat:=0
def tw18233763813270586913:Nat:=0
def tw3979355952264924087:Nat:=0
def tw12836702661585142765:Nat:=0
def tw2707986348215540784:Nat:=0
def tw16277014925767772420:Nat:=0
def tw16740654072054454305:Nat:=0
def tw6409381742508987978:Nat:=0
def tw12852980192942811567:Nat:=0
def tw1335506195824023181:Nat:=0
def tw15792900271924203173:Nat:=0
def tw5721882437463706495:Nat:=0
def tw13664222056786727935:Nat:=0
def tw1807437732068714648:Nat:=0
def tw8831787103915939564:Nat:=0
def tw2808773478571870058:Nat:=0
def tw6988742767100633721:Nat:=0
def tw15566726527493818764:Nat:=0
def tw10353273745975927929:Nat:=0
def tw12644663789696959616:Nat:=0
def tw13046492533534960309:Nat:=0
def tw3089707823232994449:Nat:=0
def tw11564594016870668174:Nat:=0
def tw15448885375475925517:Nat:=0
def tw6493100764389751245:Nat:=0
def tw6891695951870221234:Nat:=0
def tw63624019042501187:Nat:=0
def tw4217908985428305357:Nat:=0
def tw2494926943345946202:Nat:=0
def tw16873857819713287702:Nat:=0
def tw12123041339139924983:Nat:=0
def tw7602874611281391543:Nat:=0
def tw13364243853206222497:Nat:=0
def tw9115451570874678518:Nat:=0
def tw16574727345402075063:Nat:=0
def tw1433259365302420885:Nat:=0
def tw17081892431470322792:Nat:=0
def tw4836096820215994290:Nat:=0
def tw8063274153871042775:Nat:=0
def tw6026486251669109852:Nat:=0
def tw17338809963792890114:Nat:=0
def tw870586220456125738:Nat:=0
def tw9919471483757053070:Nat:=0
def tw8568264929482545874:Nat:=0
def tw4991858246645713276:Nat:=0
def tw18130173172429916710:Nat:=0
def tw4014049339768347738:Nat:=0
def tw8564100965106522625:Nat:=0
def tw7203673914431858701:Nat:=0
def tw17368830007239385135:Nat:=0
def tw15074962499530437695:Nat:=0
def tw5703515668736175936:Nat:=0
def tw8869660264093528366:Nat:=0
def tw6177121032594941966:Nat:=0
def tw13131253351743227940:Nat:=0
def tw15784241015280868591:Nat:=0
def tw7690810524353624398:Nat:=0
def tw10267302679758717856:Nat:=0
def tw12773033089224900871:Nat:=0
def tw2967437159399353058:Nat:=0
def tw5607437543746673937:Nat:=0
def tw16005231579415026370:Nat:=0
def tw16939226616786342334:Nat:=0
def tw11409278559642471501:Nat:=0
def tw10789724028708584011:Nat:=0
def tw13582913107632775986:Nat:=0
def tw14113500663057867297:Nat:=0
def tw4616710727474539113:Nat:=0
def tw4069383769973944706:Nat:=0
def tw13058729710330858005:Nat:=0
def tw8028354248361438071:Nat:=0
def tw9871181480816442336:Nat:=0
def tw17392079182891740561:Nat:=0
def tw5670550202039866663:Nat:=0
def tw16540525142401685185:Nat:=0
def tw8770481630082454497:Nat:=0
def tw8363248878658344257:Nat:=0
def tw11912653214928725320:Nat:=0
def tw1842439609033727023:Nat:=0
def tw13869561712503775974:Nat:=0
def tw4265872388106786947:Nat:=0
def tw2229087254454616166:Nat:=0
def tw433343820886380792:Nat:=0
def tw11795466275055458778:Nat:=0
def tw6049362799811966999:Nat:=0
def tw11354702775510840307:Nat:=0
def tw9968555254255685356:Nat:=0
def tw7850572188724087461:Nat:=0
def tw5445182935711098804:Nat:=0
def tw3807401226061346260:Nat:=0
def tw14725569229343763872:Nat:=0
def tw14019160244182231235:Nat:=0
def tw13784473583134338982:Nat:=0
def tw1529021630904527273:Nat:=0
def tw16926545402168104447:Nat:=0
def tw10731500845786059301:Nat:=0
def tw3059573509854946901:Nat:=0
def tw16755289702663297138:Nat:=0
def tw9707737181316174322:Nat:=0
def tw14693923698968693364:Nat:=0
def tw10235582608456069911:Nat:=0
def tw16739870970212255393:Nat:=0
def tw5079397005606612822:Nat:=0
def tw16696760386207803442:Nat:=0
def tw17180463282103535776:Nat:=0
def tw17820203454499485012:Nat:=0
def tw3398165638546507117:Nat:=0
def tw15311142654686641233:Nat:=0
def tw10248753694875846184:Nat:=0
def tw13278039038408017162:Nat:=0
def tw3374275233536501729:Nat:=0
def tw2881570595209689904:Nat:=0
def tw15225665513668475217:Nat:=0
def tw2877925940149231992:Nat:=0
def tw9187579424924109590:Nat:=0
def tw8386422431911876830:Nat:=0
def tw17754816572904983990:Nat:=0
def tw541662377307646423:Nat:=0
def tw11370632253505221836:Nat:=0
def tw12770055879518836627:Nat:=0
def tw6487557106362120816:Nat:=0
def tw14573485914882695595:Nat:=0
def tw3391516254584788556:Nat:=0
def tw6198565592326906557:Nat:=0
def tw8258952509324200687:Nat:=0
def tw16082559438201682128:Nat:=0
def tw973331041684824361:Nat:=0
def tw8746522775099927262:Nat:=0
def tw13443420978136145450:Nat:=0
def tw12155085526597552041:Nat:=0
def tw15228578634106032964:Nat:=0
def tw18173151039281389649:Nat:=0
def tw15524674847906491770:Nat:=0
def tw8483865361239024955:Nat:=0
def tw3569984176657189394:Nat:=0
def tw6971582762497556305:Nat:=0
def tw16152057492758371184:Nat:=0
def tw156826516728684171:Nat:=0
def tw8381819940406275046:Nat:=0
def tw17294887426973991176:Nat:=0
def tw16154615609633555282:Nat:=0
def tw10158739478916328324:Nat:=0
def tw12730501366397623547:Nat:=0
def tw10282942201095682959:Nat:=0
def tw2028576230132948258:Nat:=0
def tw11782098059718077451:Nat:=0
def tw15539208818575285964:Nat:=0
def tw17230121705459117713:Nat:=0
def tw4954909695225806137:Nat:=0
def tw16172344815126826015:Nat:=0
def tw8803956668210416582:Nat:=0
def tw2612603655361813205:Nat:=0
def tw10330768628423181309:Nat:=0
def tw9848431301839351055:Nat:=0
def tw13753081702936078694:Nat:=0
def tw11471108278564485295:Nat:=0
def tw5592594097706519478:Nat:=0
def tw14171411537012711900:Nat:=0
def tw6861101123065736363:Nat:=0
def tw11232844298356663663:Nat:=0
def tw3593427526039988681:Nat:=0
def tw15173345583811503357:Nat:=0
def tw7025586922862585151:Nat:=0
def tw16858875459093182486:Nat:=0
def tw58880412637543383:Nat:=0
def tw8843869947915446260:Nat:=0
def tw5883269679462975612:Nat:=0
def tw11680740593800200374:Nat:=0
def tw1045721520235275732:Nat:=0
def tw8567894268033083863:Nat:=0
def tw8834033017318415350:Nat:=0
def tw2440639951277331967:Nat:=0
def tw5182583690092181407:Nat:=0
def tw5544920640562130530:Nat:=0
def tw9617285937200845324:Nat:=0
def tw7581872566496260160:Nat:=0
def tw244148882675825681:Nat:=0
def tw16174206774140949426:Nat:=0
def tw1288127040053968638:Nat:=0
def tw7221623276618320671:Nat:=0
def tw7499217195320944562:Nat:=0
def tw11945956719251573313:Nat:=0
def tw4099108472504013462:Nat:=0
def tw14501986539339059380:Nat:=0
def tw10647908065020556168:Nat:=0
def tw10082537193506796854:Nat:=0
def tw14799883049579217725:Nat:=0
def tw6781690618155971858:Nat:=0
def tw16865477382854160036:Nat:=0
def tw13455746609054619185:Nat:=0
def tw4469483562175779915:Nat:=0
def tw14308159279038811969:Nat:=0
def tw1941066450722588938:Nat:=0
def tw3095805326398481418:Nat:=0
def tw17601689807242825526:Nat:=0
def tw8735798078138715589:Nat:=0
def tw13971120754088216568:Nat:=0
def tw8865875323251080617:Nat:=0
def tw7835604905136623763:Nat:=0
def tw13474336169144631918:Nat:=0
def tw15377625336609262887:Nat:=0
def tw3968741180819002495:Nat:=0
def tw13388379928812470074:Nat:=0
def tw6482152571407604630:Nat:=0
def tw9327427266332393083:Nat:=0
def tw13766293012093059790:Nat:=0
def tw5580713833561684872:Nat:=0
def tw6678155863636215887:Nat:=0
def tw5288432069215284733:Nat:=0
def tw15589653178288941463:Nat:=0
def tw6492501894627013429:Nat:=0
def tw7773588305437165675:Nat:=0
def tw1734286132860948321:Nat:=0
def tw1396841630956978538:Nat:=0
def tw15654593893661818147:Nat:=0
def tw864333102807877731:Nat:=0
def tw4687308657448434611:Nat:=0
def tw9276958324095165036:Nat:=0
def tw9595705536761455326:Nat:=0
def tw18080125614712601137:Nat:=0
def tw17964194779019386752:Nat:=0
def tw2569971821623409077:Nat:=0
def tw14837796556794802912:Nat:=0
def tw3719813108555642473:Nat:=0
def tw3272169892349204148:Nat:=0
def tw3982678072209670155:Nat:=0
def tw5725587582052619202:Nat:=0
def tw4355865727104910795:Nat:=0
def tw13045993156457099909:Nat:=0
def tw1702618381583611943:Nat:=0
def tw16363092470365381036:Nat:=0
def tw8600252068662323447:Nat:=0
def tw7082562768361989257:Nat:=0
def tw10043342803309872328:Nat:=0
def tw2095153147389766242:Nat:=0
def tw14613503504170737315:Nat:=0
def tw7830133380354432223:Nat:=0
def tw13405206256828984695:Nat:=0
def tw15834063857233704094:Nat:=0
def tw4876531737850510804:Nat:=0
def tw5092234142944051373:Nat:=0
def tw15897003573440877351:Nat:=0
def tw4419789340963815895:Nat:=0
def tw13919133268396975767:Nat:=0
def tw2614520041001495332:Nat:=0
def tw6911226382951485965:Nat:=0
def tw7745103932643319664:Nat:=0
def tw12638624012770582571:Nat:=0
def tw12005636589094615755:Nat:=0
def tw5086536810913168523:Nat:=0
def tw12153886005815709416:Nat:=0
def tw4082344975071347841:Nat:=0
def tw5027471486896668400:Nat:=0
def tw2030078618203581658:Nat:=0
def tw11054865319203334330:Nat:=0
def tw14987773882220354946:Nat:=0
def tw7635386170316989660:Nat:=0
def tw8174327229145534246:Nat:=0
def tw5961730250165788425:Nat:=0
def tw14869633137194126705:Nat:=0
def tw5127968615212313633:Nat:=0
def tw8826992808121150108:Nat:=0
def tw15891112476759516342:Nat:=0
def tw2464474304245857458:Nat:=0
def tw13492299724187019331:Nat:=0
def tw8288224041040808941:Nat:=0
def tw14760417688259132149:Nat:=0
def tw15067164244874534752:Nat:=0
def tw383293030482596853:Nat:=0
def tw89664799386714496:Nat:=0
def tw18273260442595324397:Nat:=0
def tw13593406658203038745:Nat:=0
def tw8427002236673598309:Nat:=0
def tw18272678471966048002:Nat:=0
def tw4239658204831510580:Nat:=0
def tw1369033893501605903:Nat:=0
def tw2807370180627567242:Nat:=0
def tw3686804720641125463:Nat:=0
def tw13794340102263338346:Nat:=0
def tw2603596220787494555:Nat:=0
def tw6662758870428164053:Nat:=0
def tw7340096451289837011:Nat:=0
def tw11155722567719409487:Nat:=0
def tw207346980588032464:Nat:=0
def tw4092199431408924909:Nat:=0
def tw8186291226482936082:Nat:=0
def tw15737178198912067515:Nat:=0
def tw549909698125934645:Nat:=0
def tw16453572323880374904:Nat:=0
def tw14980658235097226892:Nat:=0
def tw11435385956423765407:Nat:=0
def tw17248044226977956479:Nat:=0
def tw4575794015088457469:Nat:=0
def tw2540594787723577642:Nat:=0
def tw884462329688485042:Nat:=0
def tw3294015509707510125:Nat:=0
def tw17498313988298200444:Nat:=0
def tw13297727204955846780:Nat:=0
def tw15446932167814673143:Nat:=0
def tw752453824490878824:Nat:=0
def tw5125801763215379714:Nat:=0
def tw9192241496018102393:Nat:=0
def tw16216754017283867494:Nat:=0
def tw8562918751774408787:Nat:=0
def tw12123702678561090786:Nat:=0
def tw10084662895945102121:Nat:=0
def tw6185178366984004954:Nat:=0
def tw8373308288342769915:Nat:=0
def tw18284806542035723637:Nat:=0
def tw1984558914771561682:Nat:=0
def tw6099094613208201589:Nat:=0
def tw10475546741313087893:Nat:=0
def tw1492647929983949645:Nat:=0
def tw3742305221530582943:Nat:=0
def tw3124788749147248953:Nat:=0
def tw6080741928711702613:Nat:=0
def tw2514932367550070661:Nat:=0
def tw8194683067878218501:Nat:=0
def tw7468060144953659709:Nat:=0
def tw16418514756090415029:Nat:=0
def tw5343212565636562191:Nat:=0
def tw18232196840506284755:Nat:=0
def tw17190735159446079183:Nat:=0
def tw6480802626945003438:Nat:=0
def tw18341219631166513430:Nat:=0
def tw5016122747207457948:Nat:=0
def tw10383332342508201917:Nat:=0
def tw12657053106008575732:Nat:=0
def tw16435991560150072320:Nat:=0
def tw16617035824496568803:Nat:=0
def tw738274061332030528:Nat:=0
def tw1891701275620307245:Nat:=0
def tw18361706492252103206:Nat:=0
def tw3524873515774495528:Nat:=0
def tw4885129819921835425:Nat:=0
def tw12464254874446098498:Nat:=0
def tw5034592184439610720:Nat:=0
def tw4165135667169553745:Nat:=0
def tw12654126465284451601:Nat:=0
def tw11920874637976032252:Nat:=0
def tw7220206639327850456:Nat:=0
def tw11765665333579542906:Nat:=0
def tw5278431515012095789:Nat:=0
def tw14948912170616529528:Nat:=0
def tw3384919260203234647:Nat:=0
def tw7860841966364095516:Nat:=0
def tw4763477957547545462:Nat:=0
def tw14895907216090969867:Nat:=0
def tw13765105704916034990:Nat:=0
def tw4841559837700850884:Nat:=0
def tw8305996500786786472:Nat:=0
def tw4755716882084152872:Nat:=0
def tw11408725005677796607:Nat:=0
def tw4958276972320049271:Nat:=0
def tw15373883083184978373:Nat:=0
def tw17363202715584806770:Nat:=0
def tw7200926597418187166:Nat:=0
def tw4316714494001553492:Nat:=0
def tw16003848199476505916:Nat:=0
def tw6397611692679211195:Nat:=0
def tw7923622149636620581:Nat:=0
def tw16017452178023162622:Nat:=0
def tw13612319177629728823:Nat:=0
def tw2379208056870685330:Nat:=0
def tw10290955457537524432:Nat:=0
def tw7982783383510722837:Nat:=0
def tw14154151666335605968:Nat:=0
def tw11811387633128682444:Nat:=0
def tw16074327435391416511:Nat:=0
def tw1717719257344782073:Nat:=0
def tw8625961437723855941:Nat:=0
def tw5415622673154287815:Nat:=0
def tw16579339934194928652:Nat:=0
def tw9004097150408235113:Nat:=0
def tw9845733173512791301:Nat:=0
def tw9493921202750571769:Nat:=0
def tw6127346129930046470:Nat:=0
def tw11376236963491698992:Nat:=0
def tw5953073502803921433:Nat:=0
def tw120622358204377301:Nat:=0
def tw2399694425323189826:Nat:=0
def tw16985163752959693970:Nat:=0
def tw14496107015192822178:Nat:=0
def tw6067746321676296214:Nat:=0
def tw10894782474814299366:Nat:=0
def tw5797334074537658914:Nat:=0
def tw12451729976789402041:Nat:=0
def tw6671696959404026579:Nat:=0
def tw9996035242385213214:Nat:=0
def tw10576136654445266713:Nat:=0
def tw9806295655340221512:Nat:=0
def tw10445146771485937186:Nat:=0
def tw13886560328191939094:Nat:=0
def tw11501029743627946802:Nat:=0
def tw8854118772465409124:Nat:=0
def tw612706126270481288:Nat:=0
def tw7169155228169070210:Nat:=0
def tw5998156570818965814:Nat:=0
def tw5100731675553157297:Nat:=0
def tw555281323575542740:Nat:=0
def tw15754350234406176974:Nat:=0
def tw18016957930738182882:Nat:=0
def tw18377249439569569499:Nat:=0
def tw11159845356416366942:Nat:=0
def tw8713293613938130607:Nat:=0
def tw9744233374932564808:Nat:=0
def tw6720240018765959077:Nat:=0
def tw4887296452519739546:Nat:=0
def tw2238788365417000951:Nat:=0
def tw17708894544293588402:Nat:=0
def tw1183466909249072755:Nat:=0
def tw5397789043237721979:Nat:=0
def tw13159239646720921264:Nat:=0
def tw13618141602484928713:Nat:=0
def tw4635176878813870499:Nat:=0
def tw8417389033526698880:Nat:=0
def tw7395793100030945786:Nat:=0
def tw7580360484321086612:Nat:=0
def tw3463855153783248734:Nat:=0
def tw7957751277212504055:Nat:=0
def tw12572684534292293841:Nat:=0
def tw6496701401849576847:Nat:=0
def tw17394452312584048838:Nat:=0
def tw13421371831104749273:Nat:=0
def tw15277832399752644200:Nat:=0
def tw9386089033149297319:Nat:=0
def tw9377690694046088450:Nat:=0
def tw12682244545665010916:Nat:=0
def tw13172995868257318545:Nat:=0
def tw75946872977537180:Nat:=0
def tw12908864815448915555:Nat:=0
def tw3231643620078255864:Nat:=0
def tw2531987554852355114:Nat:=0
def tw5157849656728705287:Nat:=0
def tw685074765597649062:Nat:=0
def tw14453378806723763298:Nat:=0
def tw1466509301805910445:Nat:=0
def tw18439492305051536565:Nat:=0
def tw1810534598941179884:Nat:=0
def tw12900234646832712799:Nat:=0
def tw4699569159237356639:Nat:=0
def tw2065663050730370728:Nat:=0
def tw14227418079469561714:Nat:=0
def tw18314555081452025356:Nat:=0
def tw3339484379355607869:Nat:=0
def tw953455795925266385:Nat:=0
def tw13921782443484527275:Nat:=0
def tw8129956914993781540:Nat:=0
def tw16208572264077062007:Nat:=0
def tw13481133246856727770:Nat:=0
def tw9946429270590545196:Nat:=0
def tw17646519344797413854:Nat:=0
def tw10516496068395971393:Nat:=0
def tw3808363907887165792:Nat:=0
def tw4836533663118380817:Nat:=0
def tw5472991032072121450:Nat:=0
def tw3485998181583317371:Nat:=0
def tw326867522446015996:Nat:=0
def tw9438308172540463391:Nat:=0
def tw4728844038234216254:Nat:=0
def tw4001674321028230063:Nat:=0
def tw9324728560731953942:Nat:=0
def tw3093776242958087526:Nat:=0
def tw15576539094918831602:Nat:=0
def tw15218639550543261344:Nat:=0
def tw7068258789881333134:Nat:=0
def tw10958957190731122535:Nat:=0
def tw10096785396152505958:Nat:=0
def tw17832223525444932375:Nat:=0
def tw13553454747366505276:Nat:=0
def tw1864843306018857884:Nat:=0
def tw1037192222254634205:Nat:=0
def tw3502131089648503645:Nat:=0
def tw10810062770571960057:Nat:=0
def tw17165262307786163360:Nat:=0
def tw10245467719444681222:Nat:=0
def tw8329577906658961063:Nat:=0
def tw11505196241693293168:Nat:=0
def tw12993187829399717291:Nat:=0
def tw6489912440747058928:Nat:=0
def tw8688947974804070087:Nat:=0
def tw60146299263357579:Nat:=0
def tw16829757043496088078:Nat:=0
def tw5163813198412983560:Nat:=0
def tw3095672636408526483:Nat:=0
def tw10061614671722714145:Nat:=0
def tw10163217590204329256:Nat:=0
def tw9064173840807717815:Nat:=0
def tw15684851354092221107:Nat:=0
def tw13080944965903364055:Nat:=0
def tw12486094204834118222:Nat:=0
def tw1127271722079666794:Nat:=0
def tw17611562847275347368:Nat:=0
def tw1838783095807222775:Nat:=0
def tw12350715649453680609:Nat:=0
def tw17583642484812325651:Nat:=0
def tw7682902463026526658:Nat:=0
def tw3217915769778844200:Nat:=0
def tw2258441316993031879:Nat:=0
def tw8530019260520552642:Nat:=0
def tw17876157107285167544:Nat:=0
def tw8164705818078983640:Nat:=0
def tw17247949886879349352:Nat:=0
def tw6701351192206707336:Nat:=0
def tw8270562293592154003:Nat:=0
def tw10581850735137967526:Nat:=0
def tw3900650492222024593:Nat:=0
def tw12824296694405570264:Nat:=0
def tw8351517086514836003:Nat:=0
def tw15733279011674967953:Nat:=0
def tw2084015827313439821:Nat:=0
def tw1423756750532430808:Nat:=0
def tw10114004566572783278:Nat:=0
def tw4534361244710299537:Nat:=0
def tw8030166626297677668:Nat:=0
def tw4367657088639502913:Nat:=0
def tw15818914613974745832:Nat:=0
def tw5260396929074273529:Nat:=0
def tw16632424945456519175:Nat:=0
def tw1827582803266985217:Nat:=0
def tw6378271706110117646:Nat:=0
def tw7109978246561900963:Nat:=0
def tw1773181678277878201:Nat:=0
def tw9529593221542528473:Nat:=0
def tw13715140899131032845:Nat:=0
def tw7213010574707115545:Nat:=0
def tw5235721513681826324:Nat:=0
def tw15198885549696620615:Nat:=0
def tw14394476078047570476:Nat:=0
def tw5000201083540958772:Nat:=0
def tw2859938715695960904:Nat:=0
def tw7319034349876812939:Nat:=0
def tw359739864361571161:Nat:=0
def tw16420018191910127545:Nat:=0
def tw9595044154964377626:Nat:=0
def tw2076819286629374612:Nat:=0
def tw4033462031080819380:Nat:=0
def tw16690549926423803694:Nat:=0
def tw8783643640576417858:Nat:=0
def tw298853805931998309:Nat:=0
def tw8296131365780845639:Nat:=0
def tw3920290657221618770:Nat:=0
def tw1088705105957568276:Nat:=0
def tw5762656214743074676:Nat:=0
def tw12084813359903215066:Nat:=0
def tw6260143334631623783:Nat:=0
def tw13513030822331599991:Nat:=0
def tw17232577491960651322:Nat:=0
def tw10674976360043880262:Nat:=0
def tw15739744459929344634:Nat:=0
def tw3041771118110935674:Nat:=0
def tw1989987259362791066:Nat:=0
def tw11797722074403426010:Nat:=0
def tw6188849615420453989:Nat:=0
def tw6541881521817918452:Nat:=0
def tw14197093380446103386:Nat:=0
def tw5101228552391975945:Nat:=0
def tw11712372171065191395:Nat:=0
def tw1821818073488405734:Nat:=0
def tw11353110057116980101:Nat:=0
def tw6895154993369367020:Nat:=0
def tw5513918440909100137:Nat:=0
def tw14337652517927010683:Nat:=0
def tw9739791265008779729:Nat:=0
def tw6129074672630850139:Nat:=0
def tw11966098648366916394:Nat:=0
def tw4300723563187759088:Nat:=0
def tw10199174405652775221:Nat:=0
def tw16172128314050686293:Nat:=0
def tw11221135763792388859:Nat:=0
def tw6679312546779652748:Nat:=0
def tw16959869712988853761:Nat:=0
def tw17545401762480356283:Nat:=0
def tw13196868621020951779:Nat:=0
def tw14502806961244782854:Nat:=0
def tw12427507177236406355:Nat:=0
def tw13611352947618314537:Nat:=0
def tw13263011078893395755:Nat:=0
def tw2845564027670188802:Nat:=0
def tw12821189692867386866:Nat:=0
def tw15278639858593704019:Nat:=0
def tw10753830256943978752:Nat:=0
def tw5832485889204118863:Nat:=0
def tw4917439826688784053:Nat:=0
def tw14301466328370828130:Nat:=0
def tw17213775927010917835:Nat:=0
def tw17939283412587459983:Nat:=0
def tw16819615721170140653:Nat:=0
def tw11438311652046197505:Nat:=0
def tw2320139631866351164:Nat:=0
def tw10337045523104019552:Nat:=0
def tw11712828993703865141:Nat:=0
def tw5257644996410761775:Nat:=0
def tw18188274768481389212:Nat:=0
def tw6267856650245529975:Nat:=0
def tw2659313839408191324:Nat:=0
def tw8168119357018297121:Nat:=0
def tw348799986403538876:Nat:=0
def tw9213404002340782044:Nat:=0
def tw2438159940061212178:Nat:=0
def tw11097144637137240157:Nat:=0
def tw3872184654191388829:Nat:=0
def tw6581552426396613590:Nat:=0
def tw13343077159250492038:Nat:=0
def tw18412085705389762066:Nat:=0
def tw1536296564659639908:Nat:=0
def tw14058166588664396317:Nat:=0
def tw2405451802618284573:Nat:=0
def tw4936351719313809053:Nat:=0
def tw7478908396153533129:Nat:=0
def tw7804146985123445266:Nat:=0
def tw975023441341390177:Nat:=0
def tw11636833590838969117:Nat:=0
def tw16156103150316611357:Nat:=0
def tw9720676114529350276:Nat:=0
def tw9163940977257267762:Nat:=0
def tw9320064558454485856:Nat:=0
def tw16368013000109248080:Nat:=0
def tw6626881459337014853:Nat:=0
def tw15845817902990751838:Nat:=0
def tw1540086255668751151:Nat:=0
def tw6031311740085688510:Nat:=0
def tw1927691896924034793:Nat:=0
def tw9502917140313575074:Nat:=0
def tw12697752415318517446:Nat:=0
def tw9665215256439124273:Nat:=0
def tw11454399433475590220:Nat:=0
def tw9077019692050516334:Nat:=0
def tw13516691460914892118:Nat:=0
def tw9988207826404936489:Nat:=0
def tw5243869706030246326:Nat:=0
def tw7825202306694087363:Nat:=0
def tw15390979694163650919:Nat:=0
def tw2708375881884122483:Nat:=0
def tw14724693753769168734:Nat:=0
def tw6503355491374500374:Nat:=0
def tw14515540965896799952:Nat:=0
def tw9240730186785863614:Nat:=0
def tw13059388560437373769:Nat:=0
def tw4798624322365935639:Nat:=0
def tw9246903676584982441:Nat:=0
def tw14554604659977309639:Nat:=0
def tw13821991072485553686:Nat:=0
def tw9659825648813982183:Nat:=0
def tw14203449645933615968:Nat:=0
def tw11583979914979731030:Nat:=0
def tw7326121860413025867:Nat:=0
def tw8745831381120130303:Nat:=0
def tw10114137119252351734:Nat:=0
def tw3782045225388359287:Nat:=0
def tw17818472233774543042:Nat:=0
def tw17586510016938102079:Nat:=0
def tw4823399834302602828:Nat:=0
def tw11279045376352146027:Nat:=0
def tw10272773563640898656:Nat:=0
def tw6845271816345239792:Nat:=0
def tw14186731307622176351:Nat:=0
def tw9775226942313734998:Nat:=0
def tw7213988074545523722:Nat:=0
def tw11747801678957050591:Nat:=0
def tw18248433378291027216:Nat:=0
def tw18363389133779016407:Nat:=0
def tw3661241851271562512:Nat:=0
def tw34162956788975395:Nat:=0
def tw11627424624212615892:Nat:=0
end PySem.W.Fast
namespace L2
open PySem PySem.Spec PyProof.Rows
abbrev Key:=Sum Int Str
def m7:Key→Value→Bool
 | .inl k,v=>Value.isInt k v
 | .inr x,v=>Value.isStrOf x v
def Du (w:World):Key→Int
 | .inl k=>hashInt k
 | .inr x=>hashStr w x
theorem bX:∀ {k:Key} {v:Value},m7 k v=true→(∃ i t,k=Sum.inl i∧v=Value.int i t)∨(∃ x t,k=Sum.inr x∧v=Value.str x t)
 | .inl i,v,h=>by
  obtain ⟨t,e⟩:=Value.isInt_shape (k:=i) (v:=v) h
  exact .inl ⟨i,t,rfl,e⟩
 | .inr x,v,h=>by
  obtain ⟨t,e⟩:=Value.isStrOf_shape (x:=x) (v:=v) h
  exact .inr ⟨x,t,rfl,e⟩
theorem uV (i:Int) (t:Tok):m7 (.inl i) (.int i t)=true:=by simp [m7,Value.isInt]
theorem ve (x:Str) (t:Tok):m7 (.inr x) (.str x t)=true:=by simp [m7,Value.isStrOf]
theorem A4 (a b:Int):decide ((Sum.inl a:Key)=Sum.inl b)=(a == b):=by
 by_cases e:a=b
 ·subst e; simp
 ·have h:¬ (Sum.inl a:Key)=Sum.inl b:=fun q=>e (Sum.inl.inj q)
  rw [decide_eq_false h]
  exact (beq_eq_false_iff_ne.mpr e).symm
theorem Be (a b:Str):decide ((Sum.inr a:Key)=Sum.inr b)=decide (a=b):=by
 by_cases e:a=b
 ·subst e; simp
 ·have h:¬ (Sum.inr a:Key)=Sum.inr b:=fun q=>e (Sum.inr.inj q)
  rw [decide_eq_false h,decide_eq_false e]
theorem BH (a:Int) (b:Str):decide ((Sum.inl a:Key)=Sum.inr b)=false:=decide_eq_false (fun q=>nomatch q)
theorem BV (a:Str) (b:Int):decide ((Sum.inr a:Key)=Sum.inl b)=false:=decide_eq_false (fun q=>nomatch q)
def bH (prog:Program) (w:World):PySem.KeyKind prog w Key where
 is:=m7
 hash:=Du w
 inj:=fun v a b ha hb=>by
  rcases bX ha with ⟨i,t,rfl,rfl⟩ | ⟨x,t,rfl,rfl⟩
  ·rcases bX hb with ⟨j,u,rfl,e⟩ | ⟨y,u,rfl,e⟩
   ·injection e with e1 _; rw [e1]
   ·exact nomatch e
  ·rcases bX hb with ⟨j,u,rfl,e⟩ | ⟨y,u,rfl,e⟩
   ·exact nomatch e
   ·injection e with e1 _; rw [e1]
 byValue:=fun k v h=>by
  rcases bX h with ⟨i,t,rfl,rfl⟩ | ⟨x,t,rfl,rfl⟩ <;> rfl
 pyHash:=fun hv h=>by
  rcases bX hv with ⟨i,t,rfl,rfl⟩ | ⟨x,t,rfl,rfl⟩
  ·exact wpAny_pyHash_int h
  ·exact wpAny_pyHash_str h
 eqBool:=fun hu hv h=>by
  rcases bX hu with ⟨i,t,rfl,rfl⟩ | ⟨x,t,rfl,rfl⟩
  ·rcases bX hv with ⟨j,u,rfl,rfl⟩ | ⟨y,u,rfl,rfl⟩
   ·rw [A4] at h; exact wpAny_eqBool_int h
   ·rw [BH] at h; exact SeqAt.EqAt.int_str i t y u _ _ _ _ h
  ·rcases bX hv with ⟨j,u,rfl,rfl⟩ | ⟨y,u,rfl,rfl⟩
   ·rw [BV] at h; exact SeqAt.EqAt.str_int x t j u _ _ _ _ h
   ·rw [Be] at h; exact wpAny_eqBool_str h
 «strs»:=fun k x t v h=>by
  rcases bX h with ⟨i,u,rfl,e⟩ | ⟨y,u,rfl,e⟩
  ·exact nomatch e
  ·injection e with e1 _
   subst e1
   cases v <;> rfl
theorem pq (prog:Program) (w:World) (i:Int) (t:Tok):(bH prog w).is (.inl i) (.int i t)=true:=uV i t
theorem j1 (prog:Program) (w:World) (x:Str) (t:Tok):(bH prog w).is (.inr x) (.str x t)=true:=ve x t
end L2
namespace L2
open PySem PySem.Spec PyProof.Rows
inductive V where
 | non | bl (b:Bool) | int (i:Int) | str (x:Str) | byt (b:Array UInt8) | flt (b:UInt64) | ref (a:Addr) | ty (n:String)
 deriving DecidableEq
def RelV:V→Value→Prop
 | .non,u=>u=Value.none
 | .bl b,u=>u=Value.bool b
 | .int i,u=>∃ t,u=Value.int i t
 | .str x,u=>∃ t,u=Value.str x t
 | .byt b,u=>∃ t,u=Value.bytes b t
 | .flt b,u=>∃ t,u=Value.float b t
 | .ref a,u=>u=Value.ref a
 | .ty n,u=>u=Value.type n
abbrev Vals:List V→List Value→Prop:=Paired RelV
theorem Vals.length {xs:List V} {us:List Value} (r:Vals xs us):xs.length=us.length:=Paired.length r
theorem Vals.get:∀ {xs:List V} {us:List Value} {i:Nat} {x:V},Vals xs us→xs[i]?=some x→∃ u,us[i]?=some u∧RelV x u
 | _,_,_,_,.nil,e=>by simp at e
 | _,_,0,_,.cons r _,e=>by simp at e; subst e; exact ⟨_,rfl,r⟩
 | _,_,i+1,x,.cons _ t,e=>by
  obtain ⟨u,h1,h2⟩:=Vals.get (i:=i) (x:=x) t (by simpa using e)
  exact ⟨u,by simpa using h1,h2⟩
theorem Vals.set {x:V} {u:Value} (r:RelV x u):∀ {xs:List V} {us:List Value} (i:Nat),Vals xs us→Vals (xs.set i x) (us.set i u)
 | _,_,_,.nil=>.nil
 | _,_,0,.cons _ t=>.cons r t
 | _,_,i+1,.cons q t=>.cons q (Vals.set r i t)
theorem Vals.append:∀ {xs ys:List V} {us ws:List Value},Vals xs us→Vals ys ws→Vals (xs++ys) (us++ws)
 | _,_,_,_,.nil,s=>s
 | _,_,_,_,.cons r t,s=>.cons r (Vals.append t s)
theorem Vals.take:∀ {xs:List V} {us:List Value} (n:Nat),Vals xs us→Vals (xs.take n) (us.take n)
 | _,_,0,_=>.nil
 | _,_,_+1,.nil=>.nil
 | _,_,n+1,.cons r t=>.cons r (Vals.take n t)
theorem Vals.drop:∀ {xs:List V} {us:List Value} (n:Nat),Vals xs us→Vals (xs.drop n) (us.drop n)
 | _,_,0,r=>r
 | _,_,_+1,.nil=>.nil
 | _,_,n+1,.cons _ t=>Vals.drop n t
def RelO:Option V→Option Value→Prop
 | some v,some u=>RelV v u
 | none,none=>True
 | _,_=>False
def KV {κ:Type}:List (κ×V)→List (κ×Value)→Prop:=Paired fun (p:κ×V) (q:κ×Value)=>p.1=q.1∧RelV p.2 q.2
def kV:Key→V
 | .inl i=>.int i
 | .inr x=>.str x
inductive HO where
 | lst (xs:List V)
 | tup (xs:List V)
 | dK (kvs:List (Key×V)) | dT (kvs:List (List Key×V))
 | set (S:Int→Bool) (n:Nat)
 | ins (C dx:Addr) (fs:List (Str×V))
 | own (x:Addr)
 | xd (fs:List (Str×V))
 | met (f x:Addr)
 | rng (lo hi:Int)
 | frz (o:Obj) (u:HO)
 | tbl (ps:Array Value)
 | ext (φ:Heap→Prop)
abbrev Hp:=Addr→Option HO
def upd (H:Hp) (a:Addr) (o:HO):Hp:=fun b=>if b=a then some o else H b
theorem ah {H:Hp} {a:Addr} {o:HO}:upd H a o a=some o:=by unfold upd; rw [if_pos rfl]
theorem au {H:Hp} {a b:Addr} {o:HO} (h:b≠a):upd H a o b=H b:=by unfold upd; rw [if_neg h]
theorem d6 {H:Hp} {a b:Addr} {o u:HO} (h:H a=some o) (h':H b=some u) (d:o≠u):a≠b:=by
 intro e; subst e; rw [h] at h'; exact d (Option.some.inj h')
theorem aG {H:Hp} {a b:Addr} {o:HO} (h:H a=some o) (h':H b=none):a≠b:=by
 intro e; subst e; rw [h] at h'; cases h'
section
variable (P:Program) (w:World)
def ObjOk (H:Hp) (h:Heap) (a:Addr):HO→Prop
 | .lst xs=>xs.length≤sizeLine∧∃ (its:List Value) (n:Nat),Vals xs its∧h.get? a=some { cls:=.type "list",data:=.seq its.toArray n }
 | .tup xs=>xs.length≤sizeLine∧∃ its:List Value,Vals xs its∧IsTup h a its.toArray
 | .dK kvs=>kvs.length≤sizeLine∧(a == sysModules)=false∧∃ vs,KV kvs vs∧h.DictOf (bH P w) a vs
 | .dT kvs=>kvs.length≤sizeLine∧(a == sysModules)=false∧∃ xs:List (List Key×Addr×Value),
   Paired (fun (p:List Key×V) (q:List Key×Addr×Value)=>p.1=q.1∧H q.2.1=some (.tup (p.1.map kV))∧RelV p.2 q.2.2) kvs xs∧
   ∃ o es ep,h.get? a=some o∧o.ExactDict∧o.data=.dict es ep∧es.toList=xs.map (entryOfKey (tupleKind (bH P w)))∧(xs.map (·.1)).Nodup
 | .set S n=>h.SetOf (intKind P w) a S n
 | .ins C dx fs=>H dx=some (.own a)∧fs.length≤1000∧dx≠a∧h.get? a=some (PySem.W.instObj C dx)∧
   ∃ mA,h.Ns1 dx mA∧(∀ f,RelO (fs.lookup f) (mA f))∧PySem.Within mA (fs.map (·.1))
 | .own _=>∃ o,h.get? a=some o
 | .xd fs=>∃ mA,h.Ns1 a mA∧∀ f,RelO (fs.lookup f) (mA f)
 | .rng lo hi=>∃ t u v,h.get? a=some { cls:=.type "range",data:=.fields #[.int lo t,.int hi u,.int 1 v] }
 | .frz o u=>h.get? a=some o∧ObjOk H h a u
 | .tbl ps=>h.get? a=some { cls:=.none,data:=.fields ps }
 | .met f x=>h.get? a=some (PySem.W.methodObj (.ref f) (.ref x))
 | .ext φ=>φ h∧(∃ o,h.get? a=some o)∧∀ h1 h2:Heap,φ h1→(∀ o,h1.get? a=some o→h2.get? a=some o)→φ h2
def HOk (H:Hp) (h:Heap):Prop:=∀ a o,H a=some o→ObjOk P w H h a o
end
section
variable {P:Program} {w:World} {H H':Hp} {h h':Heap} {a:Addr} {o:HO}
theorem ObjOk.lt (x:ObjOk P w H h a o):a<h.objs.size:=by
 cases o with
 | lst xs=>obtain ⟨_,_,_,_,e⟩:=x; exact Heap.lt_size e
 | tup xs=>obtain ⟨_,_,_,p⟩:=x; exact p.lt
 | dK kvs=>obtain ⟨_,_,_,_,o,_,_,e,_⟩:=x; exact Heap.lt_size e
 | dT kvs=>obtain ⟨_,_,_,_,o,_,_,e,_⟩:=x; exact Heap.lt_size e
 | set S n=>obtain ⟨o,_,_,_,e,_⟩:=x; exact Heap.lt_size e
 | ins C dx fs=>obtain ⟨_,_,_,e,_⟩:=x; exact Heap.lt_size e
 | own y=>obtain ⟨_,e⟩:=x; exact Heap.lt_size e
 | xd fs=>obtain ⟨_,⟨_,_,_,e,_⟩,_⟩:=x; exact Heap.lt_size e
 | rng lo hi=>obtain ⟨_,_,_,e⟩:=x; exact Heap.lt_size e
 | frz ob u=>obtain ⟨e,_⟩:=x; exact Heap.lt_size e
 | tbl ps=>exact Heap.lt_size (show h.get? a=some _ from x)
 | met f y=>exact Heap.lt_size (show h.get? a=some _ from x)
 | ext φ=>obtain ⟨_,⟨_,e⟩,_⟩:=x; exact Heap.lt_size e
theorem Paired.mapP {α β:Type} {F G:α→β→Prop}:∀ {l₁:List α} {l₂:List β},Paired F l₁ l₂→(∀ a b,F a b→G a b)→Paired G l₁ l₂
 | _,_,.nil,_=>.nil
 | _,_,.cons r t,f=>.cons (f _ _ r) (Paired.mapP t f)
theorem ObjOk.stay (x:ObjOk P w H h a o) (k:∀ b u,(b=a∨H b=some (.own a))→h.get? b=some u→h'.get? b=some u)
  (ho:∀ b,H b=some (.own a)→H' b=some (.own a)) (ht:∀ b xs,H b=some (.tup xs)→H' b=some (.tup xs)):ObjOk P w H' h' a o:=by
 induction o with
 | lst xs=>obtain ⟨z,its,n,r,e⟩:=x; exact ⟨z,its,n,r,k _ _ (.inl rfl) e⟩
 | tup xs=>obtain ⟨z,its,r,ob,e,c⟩:=x; exact ⟨z,its,r,ob,k _ _ (.inl rfl) e,c⟩
 | dK kvs=>obtain ⟨z,y,vs,r,ob,es,ep,e,c⟩:=x; exact ⟨z,y,vs,r,ob,es,ep,k _ _ (.inl rfl) e,c⟩
 | dT kvs =>
  obtain ⟨z,y,xs,r,ob,es,ep,e,c⟩:=x
  exact ⟨z,y,xs,Paired.mapP r fun p q z=>⟨z.1,ht _ _ z.2.1,z.2.2⟩,ob,es,ep,k _ _ (.inl rfl) e,c⟩
 | set S n=>obtain ⟨ob,es,ep,t,e,c⟩:=x; exact ⟨ob,es,ep,t,k _ _ (.inl rfl) e,c⟩
 | ins C dx fs =>
  obtain ⟨d,z,ne,e,mA,⟨od,es,ep,e2,c⟩,r⟩:=x
  exact ⟨ho _ d,z,ne,k _ _ (.inl rfl) e,mA,⟨od,es,ep,k _ _ (.inr d) e2,c⟩,r⟩
 | own y=>obtain ⟨ob,e⟩:=x; exact ⟨ob,k _ _ (.inl rfl) e⟩
 | xd fs=>obtain ⟨mA,⟨od,es,ep,e,c⟩,r⟩:=x; exact ⟨mA,⟨od,es,ep,k _ _ (.inl rfl) e,c⟩,r⟩
 | rng lo hi=>obtain ⟨t,u,v,e⟩:=x; exact ⟨t,u,v,k _ _ (.inl rfl) e⟩
 | frz ob u ih=>obtain ⟨e,q⟩:=x; exact ⟨k _ _ (.inl rfl) e,ih q⟩
 | tbl ps =>
  have e:h.get? a=some { cls:=.none,data:=.fields ps }:=x
  show h'.get? a=some { cls:=.none,data:=.fields ps }
  exact k a _ (.inl rfl) e
 | met f y =>
  have e:h.get? a=some (PySem.W.methodObj (.ref f) (.ref y)):=x
  show h'.get? a=some (PySem.W.methodObj (.ref f) (.ref y))
  exact k a _ (.inl rfl) e
 | ext φ=>obtain ⟨p,⟨o,e⟩,st⟩:=x; exact ⟨st _ _ p fun o q=>k _ _ (.inl rfl) q,⟨o,k _ _ (.inl rfl) e⟩,st⟩
theorem HOk.lt (x:HOk P w H h) (e:H a=some o):a<h.objs.size:=(x a o e).lt
theorem HOk.fresh (x:HOk P w H h) (e:h.objs.size≤a):H a=none:=by
 cases q:H a with
 | none=>rfl
 | some u=>exact absurd (Nat.lt_of_lt_of_le (x.lt q) e) (Nat.lt_irrefl _)
theorem HOk.kept (x:HOk P w H h) (k:∀ b u,h.get? b=some u→h'.get? b=some u):HOk P w H h':=fun a o e =>
 (x a o e).stay (fun b u _ q=>k b u q) (fun _ q=>q) fun _ _ q=>q
theorem HOk.laid (x:HOk P w H h) (k:∀ b u,h.get? b=some u→h'.get? b=some u) (hp:h.objs.size≤a) (new:ObjOk P w (upd H a o) h' a o):HOk P w (upd H a o) h':=fun b u e=>by
 have hn:=x.fresh hp
 by_cases hb:b=a
 ·subst hb; rw [ah] at e; cases e; exact new
 ·rw [au hb] at e
  exact (x b u e).stay (fun c v _ q=>k c v q) (fun c q=>by rw [au (aG q hn)]; exact q) fun c xs q=>by rw [au (aG q hn)]; exact q
end
def Rd (H:Hp) (a:Addr) (u:HO):Prop:=H a=some u∨∃ o,H a=some (.frz o u)
theorem Rd.ok {P:Program} {w:World} {H:Hp} {h:Heap} {a:Addr} {u:HO} (r:Rd H a u) (x:HOk P w H h):ObjOk P w H h a u:=by
 rcases r with r | ⟨o,r⟩
 ·exact x a u r
 ·obtain ⟨_,q⟩:=x a _ r
  exact q
def Mut:Option HO→Prop
 | some (.lst _)=>True
 | some (.dK _)=>True
 | some (.dT _)=>True
 | some (.set _ _)=>True
 | some (.ins _ _ _)=>True
 | some (.ext _)=>True
 | _=>False
section
variable {P:Program} {w:World} {H:Hp} {h h':Heap} {x e:Addr} {o':HO}
theorem HOk.write (ok:HOk P w H h) (mu:Mut (H x)) (he:e=x∨H e=some (.own x)) (k:∀ b u,b≠e→h.get? b=some u→h'.get? b=some u) (heo:∃ u,h'.get? e=some u)
  (new:ObjOk P w (upd H x o') h' x o'):HOk P w (upd H x o') h':=fun b u q=>by
 have nown:∀ c y,H c=some (.own y)→c≠x:=fun c y r z=>by subst z; rw [r] at mu; exact mu
 have ntup:∀ c xs,H c=some (.tup xs)→c≠x:=fun c xs r z=>by subst z; rw [r] at mu; exact mu
 by_cases hb:b=x
 ·subst hb; rw [ah] at q; cases q; exact new
 ·rw [au hb] at q
  by_cases hbe:b=e
  ·have q':H b=some (.own x):=by
    rcases he with z | z
    ·exact absurd (hbe.trans z) hb
    ·rw [hbe]; exact z
   rw [q] at q'; cases q'
   obtain ⟨v,hv⟩:=heo
   exact ⟨v,by rw [hbe]; exact hv⟩
  ·refine (ok b u q).stay (fun c v hc r=>k c v ?_ r) (fun c r=>by rw [au (nown c b r)]; exact r) fun c xs r=>by rw [au (ntup c xs r)]; exact r
   rcases hc with rfl | hc
   ·exact hbe
   ·rintro rfl
    rcases he with z | z
    ·exact nown c b hc z
    ·rw [hc] at z; cases z; exact hb rfl
end
structure Un (fs ex:List Addr) (H H':Hp) (h h':Heap):Prop where
 keep:∀ b o,h.get? b=some o→H b=none→b∉fs→b∉ex→h'.get? b=some o
 slot:∀ b o,h.get? b=some o→H b=none→b∈fs→b∉ex→∃ sl,h'.get? b=some { o with slots:=sl }
 free:∀ b o,h.get? b=some o→H b=none→b∉ex→H' b=none
 there:∀ b o,h.get? b=some o→b∉ex→∃ o',h'.get? b=some o'
 tups:∀ b xs,H b=some (.tup xs)→H' b=some (.tup xs)
 frzs:∀ b o u,H b=some (.frz o u)→H' b=some (.frz o u)
 tbls:∀ b ps,H b=some (.tbl ps)→∃ more,H' b=some (.tbl (ps++more))
section
variable {fs fs' ex ex':List Addr} {H H1 H2:Hp} {h h1 h2 h':Heap} {a x e:Addr} {o:HO}
theorem Un.any (u:Un fs ex H H1 h h1) {b:Addr} {ob:Obj} (q:h.get? b=some ob) (n:H b=none) (hx:b∉ex):∃ sl,h1.get? b=some { ob with slots:=sl }:=by
 by_cases hb:b∈fs
 ·exact u.slot b ob q n hb hx
 ·exact ⟨ob.slots,u.keep b ob q n hb hx⟩
theorem Un.kept (k:∀ b u,h.get? b=some u→h'.get? b=some u):Un fs ex H H h h' :=
 ⟨fun b ob q _ _ _=>k b ob q,fun b ob q _ _ _=>⟨ob.slots,k b ob q⟩,fun _ _ _ n _=>n,fun b ob q _=>⟨ob,k b ob q⟩,fun _ _ q=>q,fun _ _ _ q=>q,fun _ ps q=>⟨#[],by rw [q]; simp⟩⟩
theorem Un.refl:Un fs ex H H h h:=Un.kept fun _ _ q=>q
theorem Un.laid (k:∀ b u,h.get? b=some u→h'.get? b=some u) (hp:h.objs.size≤a) (hn:H a=none):Un fs ex H (upd H a o) h h' where
 keep:=fun b u q _ _ _=>k b u q
 slot:=fun b u q _ _ _=>⟨u.slots,k b u q⟩
 free:=fun b u q n _=>by rw [au (Nat.ne_of_lt (Nat.lt_of_lt_of_le (Heap.lt_size q) hp))]; exact n
 there:=fun b u q _=>⟨u,k b u q⟩
 tups:=fun b xs q=>by rw [au (aG q hn)]; exact q
 frzs:=fun b u xs q=>by rw [au (aG q hn)]; exact q
 tbls:=fun b ps q=>⟨#[],by rw [au (aG q hn),q]; simp⟩
theorem Un.write (mu:Mut (H x)) (he:e=x∨H e=some (.own x)) (k:∀ b u,b≠e→h.get? b=some u→h'.get? b=some u) (heo:∃ u,h'.get? e=some u):Un fs ex H (upd H x o) h h':=by
 have hx:∀ b,H b=none→b≠x:=fun b n z=>by subst z; rw [n] at mu; exact mu
 have hb:∀ b,H b=none→b≠e:=fun b n z=>by
  subst z
  rcases he with r | r
  ·exact hx b n r
  ·rw [n] at r; cases r
 have hm:∀ b u,H b=some u→¬ Mut (some u)→b≠x:=fun b u q nm z=>by subst z; rw [q] at mu; exact nm mu
 refine ⟨fun b u q n _ _=>k b u (hb b n) q,fun b u q n _ _=>⟨u.slots,k b u (hb b n) q⟩,fun b u q n _=>by rw [au (hx b n)]; exact n,fun b u q _=>?_,
  fun b xs q=>by rw [au (hm b _ q fun z=>z)]; exact q,fun b u xs q=>by rw [au (hm b _ q fun z=>z)]; exact q,fun b ps q=>⟨#[],by rw [au (hm b _ q fun z=>z),q]; simp⟩⟩
 by_cases hbe:b=e
 ·subst hbe; exact heo
 ·exact ⟨u,k b u hbe q⟩
end
def trk (h:Heap) (H:Hp):List Addr:=(List.range h.objs.size).filter fun a=>(H a).isSome
def oJ (h:Heap) (H:Hp):Heap:=PySem.W.hideAll h (trk h H)
theorem uL (h:Heap) (H:Hp):(oJ h H).objs.size=h.objs.size:=PySem.W.hideAll_size _ _
theorem wR {h:Heap} {H:Hp} {b:Addr} {o:Obj} (e:h.get? b=some o) (n:H b=none):(oJ h H).get? b=some o :=
 PySem.W.hideAll_get _ e fun hm=>by
  have q:(H b).isSome=true:=(List.mem_filter.mp hm).2
  rw [n] at q; simp at q
theorem zh {h:Heap} {H:Hp} {b:Addr} {o:Obj} (e:(oJ h H).get? b=some o):h.get? b=some o∧H b=none:=by
 have e':h.get? b=some o:=PySem.W.of_hideAll (trk h H) e
 refine ⟨e',?_⟩
 cases q:H b with
 | none=>rfl
 | some x =>
  have hm:b∈trk h H:=List.mem_filter.mpr ⟨List.mem_range.mpr (Heap.lt_size e'),by simp [q]⟩
  have z:(oJ h H).get? b=none:=PySem.W.hideAll_none (trk h H) hm
  rw [z] at e; cases e
def z0 (g h:Heap) (L:Addr):List (Addr×Obj):=(List.range h.objs.size).filterMap fun a=>if a=L∨(g.get? a).isSome=true then none else (h.get? a).map fun o=>(a,o)
def rest (g h:Heap) (L d:Addr):List (Addr×Obj):=(z0 g h L).filter fun p=>decide (p.1≠d)
end L2
namespace L2
open PySem PySem.Spec PyProof.Rows
structure Mod (K:PySem.W.Frag) (mg:Str→Option Value) (base:Heap):Prop where
 kin:K.In base
 glob:base.Ns mainGlobals mg
 blt:∃ mb,base.Ns builtinsNs mb∧∀ x:Str,x≠"__name__"→mb x=bootBuiltins x
 nolimit:base.NoLimit
structure Cx where
 prog:Program
 w:World
 K:PySem.W.Frag
 mg:Str→Option Value
 base:Heap
 A:Around
 N:List Str
 s₀:Shared
 H₀:Hp
 env:Env
 outer:List Env
 stack:List Env
 ex:List Addr
 fn:Str→Bool
 calm:Bool
 pn:List (Addr×Obj)
 xe:Value→Shared→Prop
def frs (l:List Env):List Addr:=l.filterMap (·.frame)
abbrev Cx.fs (X:Cx):List Addr:=frs X.outer
def Vis (sc:Scope) (x:Str):Prop:=sc.names.lookup x=some .local∨sc.names.lookup x=some .cell∨sc.names.lookup x=some .free
def Loc (sc:Scope) (x:Str):Prop:=sc.names.lookup x=some .local∨sc.names.lookup x=some .cell
def Look (env:Env) (h:Heap) (m:Str→Option Value) (x:Str) (u:Value):Prop :=
 (env.kindOf x=some .local∧m x=some u)∨((env.kindOf x=some .cell∨env.kindOf x=some .free)∧∃ c,env.cells.lookup x=some c∧h.IsCell c (some u))
structure Cx.Ok (X:Cx):Prop where
 mod:Mod X.K X.mg X.base
 kind:X.env.scope.kind=.function
 glob:X.env.globals=mainGlobals
 blt:X.env.builtins=builtinsNs
 above:X.s₀.heap.objs.size≤X.env.locals
 inj:∀ x y c,X.env.cells.lookup x=some c→X.env.cells.lookup y=some c→x=y
 has:∀ x,(X.env.kindOf x=some .cell∨X.env.kindOf x=some .free)→∃ c,X.env.cells.lookup x=some c
 cab:∀ x c,X.fn x=true→X.env.cells.lookup x=some c→X.s₀.heap.objs.size≤c
 hd:X.calm=true→X.A.handled=none
 frames:X.A.frames=some X.stack
 stk:X.stack=X.outer∨(X.stack=X.env::X.outer∧X.env.frame=some X.env.locals)
 exf:∀ b∈X.ex,b≠X.env.locals∧∀ x c,X.env.cells.lookup x=some c→c≠b
 bs:∀ b o,X.base.get? b=some o→X.s₀.heap.get? b=some o∧X.H₀ b=none
 bsz:X.base.objs.size≤X.s₀.heap.objs.size
 noex:∀ b o,X.base.get? b=some o→b∉X.ex
 exfs:∀ b∈X.ex,b∉X.fs
 funs:X.s₀.heap.FunFrames X.base X.outer
 frf:∀ b∈X.fs,X.H₀ b=none
structure Inv (X:Cx) (pins:List (Addr×Obj)) (σ:List (Option V)) (H:Hp) (s:Shared):Prop where
 ok:X.Ok
 os:s.os=X.s₀.os
 bare:AllBare s.gens
 base:Un X.fs X.ex X.H₀ H X.s₀.heap s.heap
 loc:∃ m,s.heap.Ns X.env.locals m∧∀ (i:Nat) (x:Str) (v:V),X.N[i]?=some x→σ[i]?=some (some v)→Vis X.env.scope x→∃ u,RelV v u∧Look X.env s.heap m x u
 cell:∀ x c,X.env.cells.lookup x=some c→∃ v,s.heap.IsCell c v
 free:H X.env.locals=none
 freeC:∀ x c,X.env.cells.lookup x=some c→H c=none
 pin:∀ p∈X.pn++pins,s.heap.get? p.1=some p.2∧H p.1=none∧p.1≠X.env.locals∧p.1∉X.fs∧∀ v,p.2.data≠.cell v
 hok:HOk X.prog X.w H s.heap
 len:σ.length=X.N.length
section
variable {X:Cx} {pins:List (Addr×Obj)} {σ:List (Option V)} {H H':Hp} {s:Shared} {h':Heap}
theorem Cx.Ok.nofr (ok:X.Ok) {b:Addr} {o:Obj} (e:X.base.get? b=some o):b∉X.fs:=fun hb=>by
 have:=(ok.funs.mem hb).1
 rw [e] at this; cases this
theorem Inv.bs (I:Inv X pins σ H s):∀ b o,X.base.get? b=some o→s.heap.get? b=some o∧H b=none:=fun b o e =>
 ⟨I.base.keep b o (I.ok.bs b o e).1 (I.ok.bs b o e).2 (I.ok.nofr e) (I.ok.noex b o e),I.base.free b o (I.ok.bs b o e).1 (I.ok.bs b o e).2 (I.ok.noex b o e)⟩
theorem Inv.bk (I:Inv X pins σ H s):∀ b o,X.base.get? b=some o→s.heap.get? b=some o:=fun b o e=>(I.bs b o e).1
theorem Inv.mod (I:Inv X pins σ H s):Mod X.K X.mg X.base:=I.ok.mod
theorem Inv.kIn (I:Inv X pins σ H s):X.K.In s.heap:=I.ok.mod.kin.keeps I.bk
theorem Inv.fr (I:Inv X pins σ H s):∃ m,Fr X.base X.env.locals s.heap m :=
 let ⟨m,hn,_⟩:=I.loc
 ⟨m,hn,I.bk,Nat.le_trans I.ok.bsz I.ok.above⟩
theorem Inv.lt (I:Inv X pins σ H s):X.env.locals<s.heap.objs.size:=let ⟨_,hn,_⟩:=I.loc; hn.lt
theorem Inv.sz (I:Inv X pins σ H s):X.s₀.heap.objs.size≤s.heap.objs.size:=Nat.le_trans I.ok.above (Nat.le_of_lt I.lt)
theorem Inv.nofs (I:Inv X pins σ H s) {a:Addr} (h:s.heap.objs.size≤a):a∉X.fs:=fun hb=>by
 obtain ⟨_,o,ho,_⟩:=I.ok.funs.mem hb
 exact absurd (Nat.lt_of_lt_of_le (Heap.lt_size ho) (Nat.le_trans I.sz h)) (Nat.lt_irrefl _)
theorem Inv.cne (I:Inv X pins σ H s):∀ x c,X.env.cells.lookup x=some c→c≠X.env.locals:=fun x c e z=>by
 obtain ⟨v,o,ho,hd⟩:=I.cell x c e
 obtain ⟨m,⟨o',es,ep,ho',hd',_⟩,_⟩:=I.loc
 rw [z,ho'] at ho; cases ho; rw [hd'] at hd; cases hd
theorem Inv.funs (I:Inv X pins σ H s):s.heap.FunFrames X.base X.outer:=by
 have all:∀ (l:List Env),(∀ b∈frs l,b∈X.fs)→X.s₀.heap.FunFrames X.base l→s.heap.FunFrames X.base l:=by
  intro l
  induction l with
  | nil=>intro _ _; trivial
  | cons env r ih =>
   intro hs hl
   obtain ⟨hk,⟨L,o,hf,hn,ho,hd⟩,hr⟩:=hl
   have hL:L∈X.fs:=hs L (by unfold frs; rw [List.filterMap_cons,hf]; exact List.mem_cons_self)
   obtain ⟨sl,e⟩:=I.base.slot L o ho (I.ok.frf L hL) hL fun z=>I.ok.exfs L z hL
   exact ⟨hk,⟨L,_,hf,hn,e,hd⟩,ih (fun b hb=>hs b (by unfold frs; rw [List.filterMap_cons,hf]; exact List.mem_cons_of_mem _ hb)) hr⟩
 exact all X.outer (fun _ hb=>hb) I.ok.funs
theorem Inv.stack (I:Inv X pins σ H s):s.heap.FunFrames X.base X.stack:=by
 rcases I.ok.stk with e | ⟨e,hf⟩
 ·rw [e]; exact I.funs
 ·rw [e]
  obtain ⟨m,hn,_⟩:=I.loc
  refine .cons (by rw [I.ok.kind]; decide) hf hn ?_ I.funs
  exact Heap.get?_none_of_le (Nat.le_trans I.ok.bsz I.ok.above)
theorem Inv.stkSub (I:Inv X pins σ H s):∀ b∈frs X.stack,b∈X.env.locals::X.fs:=fun b hb=>by
 rcases I.ok.stk with e | ⟨e,hf⟩
 ·rw [e] at hb; exact List.mem_cons_of_mem _ hb
 ·rw [e] at hb
  unfold frs at hb
  rw [List.filterMap_cons,hf] at hb
  exact hb
theorem Inv.stkFree (I:Inv X pins σ H s):∀ b∈frs X.stack,H b=none:=fun b hb=>by
 rcases List.mem_cons.mp (I.stkSub b hb) with e | hb
 ·rw [e]; exact I.free
 ·obtain ⟨_,o,ho,_⟩:=I.ok.funs.mem hb
  exact I.base.free b o ho (I.ok.frf b hb) fun z=>I.ok.exfs b z hb
theorem Inv.step {g':Array GenState} {t':Nat} {d':Drawn} {ch:List Addr} (I:Inv X pins σ H s)
  (hch:∀ b∈ch,(b∈X.ex∨X.s₀.heap.objs.size≤b)∧b≠X.env.locals∧(∀ x c,X.env.cells.lookup x=some c→c≠b)∧∀ p∈X.pn++pins,p.1≠b)
  (keep:∀ b o,b≠X.env.locals→b∉X.fs→b∉ch→s.heap.get? b=some o→H b=none→h'.get? b=some o)
  (slot:∀ b o,b≠X.env.locals→b∈X.fs→b∉ch→s.heap.get? b=some o→H b=none→∃ sl,h'.get? b=some { o with slots:=sl }) (free:∀ b o,b∉ch→s.heap.get? b=some o→H b=none→H' b=none)
  (there:∀ b o,b∉ch→s.heap.get? b=some o→∃ o',h'.get? b=some o')
  (tups:∀ b xs,H b=some (.tup xs)→H' b=some (.tup xs)) (frzs:∀ b o u,H b=some (.frz o u)→H' b=some (.frz o u)) (tbls:∀ b ps,H b=some (.tbl ps)→∃ more,H' b=some (.tbl (ps++more)))
  (ns:∀ m,s.heap.Ns X.env.locals m→h'.Ns X.env.locals m) (hok:HOk X.prog X.w H' h') (hg:AllBare g') :
  Inv X pins σ H' { s with heap:=h',gens:=g',drawn:=d',toks:=t' }:=by
 have neL:∀ b o,X.s₀.heap.get? b=some o→b≠X.env.locals:=fun b o e=>Nat.ne_of_lt (Nat.lt_of_lt_of_le (Heap.lt_size e) I.ok.above)
 have neC:∀ b o,X.s₀.heap.get? b=some o→b∉X.ex→b∉ch:=fun b o e hx hb=>by
  rcases (hch b hb).1 with z | z
  ·exact hx z
  ·exact absurd (Nat.lt_of_lt_of_le (Heap.lt_size e) z) (Nat.lt_irrefl _)
 have cellK:∀ x c,X.env.cells.lookup x=some c→∀ v,s.heap.IsCell c v→h'.IsCell c v:=fun x c e v ⟨o,ho,hd⟩=>by
  have nch:c∉ch:=fun z=>(hch c z).2.2.1 x c e rfl
  by_cases hc:c∈X.fs
  ·obtain ⟨sl,q⟩:=slot c o (I.cne x c e) hc nch ho (I.freeC x c e)
   exact ⟨_,q,hd⟩
  ·exact ⟨o,keep c o (I.cne x c e) hc nch ho (I.freeC x c e),hd⟩
 refine ⟨I.ok,I.os,hg,⟨fun b o e n hb hx=>?_,fun b o e n hb hx=>?_,fun b o e n hx=>?_,fun b o e hx=>?_,fun b xs e=>tups b xs (I.base.tups b xs e),fun b o xs e=>frzs b o xs (I.base.frzs b o xs e),fun b ps e=>?_⟩,?_,fun x c e=>?_,?_,fun x c e=>?_,fun p hp=>?_,hok,I.len⟩
 ·exact keep b o (neL b o e) hb (neC b o e hx) (I.base.keep b o e n hb hx) (I.base.free b o e n hx)
 ·obtain ⟨sl,e1⟩:=I.base.slot b o e n hb hx
  obtain ⟨sl',e2⟩:=slot b _ (neL b o e) hb (neC b o e hx) e1 (I.base.free b o e n hx)
  exact ⟨sl',e2⟩
 ·obtain ⟨o',e1⟩:=I.base.there b o e hx
  exact free b o' (neC b o e hx) e1 (I.base.free b o e n hx)
 ·obtain ⟨o',e1⟩:=I.base.there b o e hx
  exact there b o' (neC b o e hx) e1
 ·obtain ⟨m1,e1⟩:=I.base.tbls b ps e
  obtain ⟨m2,e2⟩:=tbls b _ e1
  exact ⟨m1++m2,by rw [e2,Array.append_assoc]⟩
 ·obtain ⟨m,hn,hl⟩:=I.loc
  refine ⟨m,ns m hn,fun i x v e1 e2 e3=>?_⟩
  obtain ⟨u,r,l⟩:=hl i x v e1 e2 e3
  refine ⟨u,r,?_⟩
  rcases l with l | ⟨k,c,e,z⟩
  ·exact .inl l
  ·exact .inr ⟨k,c,e,cellK x c e _ z⟩
 ·obtain ⟨v,z⟩:=I.cell x c e
  exact ⟨v,cellK x c e v z⟩
 ·obtain ⟨m,⟨o,_,_,ho,_⟩,_⟩:=I.loc
  exact free _ o (fun z=>(hch _ z).2.1 rfl) ho I.free
 ·obtain ⟨v,o,ho,hd⟩:=I.cell x c e
  exact free c o (fun z=>(hch c z).2.2.1 x c e rfl) ho (I.freeC x c e)
 ·obtain ⟨e,n,ne,nf,d⟩:=I.pin p hp
  have nch:p.1∉ch:=fun z=>(hch p.1 z).2.2.2 p hp rfl
  exact ⟨keep p.1 p.2 ne nf nch e n,free p.1 p.2 nch e n,ne,nf,d⟩
theorem Inv.un {t':Nat} (I:Inv X pins σ H s) (u:Un X.fs [] H H' s.heap h') (hok:HOk X.prog X.w H' h'):Inv X pins σ H' { s with heap:=h',toks:=t' }:=by
 obtain ⟨m,⟨o,es,ep,ho,r⟩,_⟩:=id I.loc
 obtain ⟨sl,hL⟩:=u.any ho I.free (by simp)
 exact I.step (g':=s.gens) (d':=s.drawn) (ch:=[]) (fun _ z=>nomatch z) (fun b o _ hb _ e n=>u.keep b o e n hb (by simp)) (fun b o _ hb _ e n=>u.slot b o e n hb (by simp)) (fun b o _ e n=>u.free b o e n (by simp)) (fun b o _ e=>u.there b o e (by simp)) u.tups u.frzs u.tbls (fun m' hm=>by
  obtain ⟨o',es',ep',ho',r'⟩:=hm
  rw [ho] at ho'; cases ho'
  exact ⟨_,es',ep',hL,r'⟩) hok I.bare
theorem Inv.call {g':Array GenState} {t':Nat} {d':Drawn} {ch:List Addr} (I:Inv X pins σ H s) (u:Un (frs X.stack) ch H H' s.heap h') (hok:HOk X.prog X.w H' h') (hg:AllBare g')
  (hch:∀ b∈ch,(b∈X.ex∨X.s₀.heap.objs.size≤b)∧b≠X.env.locals∧(∀ x c,X.env.cells.lookup x=some c→c≠b)∧∀ p∈X.pn++pins,p.1≠b) :
  Inv X pins σ H' { s with heap:=h',gens:=g',drawn:=d',toks:=t' }:=by
 obtain ⟨m,⟨o,es,ep,ho,r⟩,_⟩:=id I.loc
 obtain ⟨sl,hL⟩:=u.any ho I.free fun z=>(hch _ z).2.1 rfl
 exact I.step (ch:=ch) hch (fun b o hL hb hc e n=>u.keep b o e n (fun z=>(List.mem_cons.mp (I.stkSub b z)).elim hL hb) hc) (fun b o _ _ hc e n=>u.any e n hc) (fun b o hc e n=>u.free b o e n hc) (fun b o hc e=>u.there b o e hc) u.tups u.frzs u.tbls (fun m' hm=>by
  obtain ⟨o',es',ep',ho',r'⟩:=hm
  rw [ho] at ho'; cases ho'
  exact ⟨_,es',ep',hL,r'⟩) hok hg
theorem Inv.turned {t':Nat} {it:Addr} (I:Inv X pins σ H s) (k:∀ b o,b≠it→s.heap.get? b=some o→h'.get? b=some o) (hn:H it=none) (hL:it≠X.env.locals)
  (h1:it∈X.ex∨X.s₀.heap.objs.size≤it) (h2:∀ x c,X.env.cells.lookup x=some c→c≠it) (h3:∀ p∈X.pn++pins,p.1≠it):Inv X pins σ H { s with heap:=h',toks:=t' }:=by
 have nit:∀ b u,H b=some u→b≠it:=fun b u e z=>by rw [z,hn] at e; cases e
 refine I.step (g':=s.gens) (d':=s.drawn) (ch:=[it]) (fun b hb=>?_) (fun b o _ _ hc e _=>k b o (fun z=>hc (by simp [z])) e) (fun b o _ _ hc e _=>⟨o.slots,k b o (fun z=>hc (by simp [z])) e⟩) (fun _ _ _ _ n=>n)
  (fun b o hc e=>⟨o,k b o (fun z=>hc (by simp [z])) e⟩) (fun _ _ e=>e) (fun _ _ _ e=>e) (fun b ps e=>⟨#[],by rw [e]; simp⟩) (fun m hm=>?_) (fun b u e=>?_) I.bare
 ·have e:b=it:=by simpa using hb
  subst e
  exact ⟨h1,hL,h2,h3⟩
 ·obtain ⟨o,es,ep,ho,r⟩:=hm
  exact ⟨o,es,ep,k _ o (Ne.symm hL) ho,r⟩
 ·refine (I.hok b u e).stay (fun c v hc q=>k c v ?_ q) (fun _ q=>q) fun _ _ q=>q
  rcases hc with z | z
  ·rw [z]; exact nit b u e
  ·exact nit c _ z
theorem Inv.tok (I:Inv X pins σ H s) (t:Nat):Inv X pins σ H { s with toks:=t }:=I.un (h':=s.heap) (t':=t) Un.refl I.hok
theorem Inv.kept {t':Nat} (I:Inv X pins σ H s) (k:∀ b u,s.heap.get? b=some u→h'.get? b=some u):Inv X pins σ H { s with heap:=h',toks:=t' }:=I.un (Un.kept k) (I.hok.kept k)
theorem Inv.laid {a:Addr} {o:HO} {t':Nat} (I:Inv X pins σ H s) (k:∀ b u,s.heap.get? b=some u→h'.get? b=some u) (hp:s.heap.objs.size≤a) (new:ObjOk X.prog X.w (upd H a o) h' a o) :
  Inv X pins σ (upd H a o) { s with heap:=h',toks:=t' }:=I.un (Un.laid k hp (I.hok.fresh hp)) (I.hok.laid k hp new)
theorem Inv.write {x e:Addr} {o:HO} {t':Nat} (I:Inv X pins σ H s) (mu:Mut (H x)) (he:e=x∨H e=some (.own x)) (k:∀ b u,b≠e→s.heap.get? b=some u→h'.get? b=some u) (heo:∃ u,h'.get? e=some u)
  (new:ObjOk X.prog X.w (upd H x o) h' x o):Inv X pins σ (upd H x o) { s with heap:=h',toks:=t' }:=I.un (Un.write mu he k heo) (I.hok.write mu he k heo new)
theorem Inv.weak {σ':List (Option V)} (I:Inv X pins σ H s) (hl:σ'.length=σ.length) (w:∀ (i:Nat) v,σ'[i]?=some (some v)→σ[i]?=some (some v)):Inv X pins σ' H s :=
 ⟨I.ok,I.os,I.bare,I.base,let ⟨m,hn,hl'⟩:=I.loc; ⟨m,hn,fun i x v e1 e2 e3=>hl' i x v e1 (w i v e2) e3⟩,I.cell,I.free,I.freeC,I.pin,I.hok,hl.trans I.len⟩
theorem Inv.pins_of {pins':List (Addr×Obj)} (I:Inv X pins σ H s) (h:∀ p∈pins',s.heap.get? p.1=some p.2∧H p.1=none∧p.1≠X.env.locals∧p.1∉X.fs∧∀ v,p.2.data≠.cell v):Inv X pins' σ H s :=
 ⟨I.ok,I.os,I.bare,I.base,I.loc,I.cell,I.free,I.freeC,fun p hp=>(List.mem_append.mp hp).elim (fun z=>I.pin p (List.mem_append_left _ z)) (h p),I.hok,I.len⟩
theorem pD {N:List Str} (hN:N.Nodup) {i j:Nat} {x:Str} (a:N[i]?=some x) (b:N[j]?=some x):i=j:=by
 obtain ⟨h1,e1⟩:=List.getElem?_eq_some_iff.mp a
 obtain ⟨h2,e2⟩:=List.getElem?_eq_some_iff.mp b
 exact (List.getElem_inj hN).mp (e1.trans e2.symm)
theorem ua {M:Model} {A:Around} {E:Value→Shared→Prop} {i:Nat} {x:Str} {v:V} {u:Value} {Q:Unit→Shared→Prop} (I:Inv X pins σ H s) (hN:X.N.Nodup) (hi:X.N[i]?=some x) (hx:Loc X.env.scope x) (r:RelV v u)
  (h:∀ s',Inv X pins (σ.set i (some v)) H s'→(∃ a,Heap.SameBut a s.heap s'.heap∧(a=X.env.locals∨X.env.cells.lookup x=some a))→Q () s') (hf:X.fn x=true∨X.env.scope.names.lookup x=some .local:=by first | exact .inl rfl | exact .inr rfl | assumption):wpAny M A (storeName X.env x u) Q E s:=by
 obtain ⟨m,hn,hl⟩:=id I.loc
 have hcls:(X.env.scope.kind == .class || (X.env.scope.kind == .module && X.env.locals != X.env.globals))=false:=by rw [I.ok.kind]; rfl
 have hiσ:i<σ.length:=by rw [I.len]; exact (List.getElem?_eq_some_iff.mp hi).1
 have cne:=I.cne
 have tracked:∀ {a:Addr} {h':Heap},(∃ o,s.heap.get? a=some o∧H a=none)→Heap.SameBut a s.heap h'→HOk X.prog X.w H h':=fun {a h'} ha hs b ob e=>by
  obtain ⟨_,_,hfree⟩:=ha
  refine (I.hok b ob e).stay (fun c w' hc q=>(hs.2 c ?_).trans q) (fun _ q=>q) fun _ _ q=>q
  rintro rfl
  rcases hc with rfl | hc
  ·rw [hfree] at e; cases e
  ·rw [hfree] at hc; cases hc
 rcases hx with hk | hk
 ·refine wpAny_storeName_local hk hn (fun h' hn' hs=>?_) hcls
  obtain ⟨oL,_,_,hoL,_⟩:=id hn
  refine h _ ⟨I.ok,I.os,I.bare,⟨fun b o e n hb hx=>?_,fun b o e n hb hx=>?_,I.base.free,fun b o e hx=>?_,I.base.tups,I.base.frzs,I.base.tbls⟩,⟨_,hn',fun j y v' e1 e2 e3=>?_⟩,fun y c e=>?_,I.free,I.freeC,fun p hp=>?_,tracked ⟨oL,hoL,I.free⟩ hs,by simpa using I.len⟩ ⟨_,hs,.inl rfl⟩
  ·exact (hs.2 b (Nat.ne_of_lt (Nat.lt_of_lt_of_le (Heap.lt_size e) I.ok.above))).trans (I.base.keep b o e n hb hx)
  ·obtain ⟨sl,e1⟩:=I.base.slot b o e n hb hx
   exact ⟨sl,(hs.2 b (Nat.ne_of_lt (Nat.lt_of_lt_of_le (Heap.lt_size e) I.ok.above))).trans e1⟩
  ·obtain ⟨o',e1⟩:=I.base.there b o e hx
   exact ⟨o',(hs.2 b (Nat.ne_of_lt (Nat.lt_of_lt_of_le (Heap.lt_size e) I.ok.above))).trans e1⟩
  ·by_cases hj:j=i
   ·subst hj
    rw [hi] at e1; cases e1
    rw [List.getElem?_set_self hiσ] at e2
    cases e2
    exact ⟨u,r,.inl ⟨hk,by simp⟩⟩
   ·rw [List.getElem?_set_ne (Ne.symm hj)] at e2
    obtain ⟨u',r',q⟩:=hl j y v' e1 e2 e3
    refine ⟨u',r',?_⟩
    rcases q with ⟨k,e⟩ | ⟨k,c,e,z⟩
    ·refine .inl ⟨k,?_⟩
     have:y≠x:=fun e=>hj (pD hN e1 (e▸hi))
     simp [this,e]
    ·exact .inr ⟨k,c,e,z.sameBut hs (cne y c e)⟩
  ·obtain ⟨w',z⟩:=I.cell y c e
   exact ⟨w',z.sameBut hs (cne y c e)⟩
  ·obtain ⟨e,n,ne,nf,d⟩:=I.pin p hp
   exact ⟨(hs.2 p.1 ne).trans e,n,ne,nf,d⟩
 ·have hfn:X.fn x=true:=by
   rcases hf with z | z
   ·exact z
   ·rw [z] at hk; cases hk
  obtain ⟨c,hc⟩:=I.ok.has x (.inl hk)
  obtain ⟨w',z⟩:=I.cell x c hc
  refine wpAny_storeName_cell I.ok.kind hk hc z (fun h' hc' hs=>?_)
  obtain ⟨oc,hoc,hocd⟩:=id z
  refine h { s with heap:=h' } ⟨I.ok,I.os,I.bare,⟨fun b o e n hb hx=>?_,fun b o e n hb hx=>?_,I.base.free,fun b o e hx=>?_,I.base.tups,I.base.frzs,I.base.tbls⟩,⟨m,hn.sameBut hs (Ne.symm (cne x c hc)),fun j y v' e1 e2 e3=>?_⟩,fun y c' e=>?_,I.free,I.freeC,fun p hp=>?_,tracked ⟨oc,hoc,I.freeC x c hc⟩ hs,by simpa using I.len⟩ ⟨c,hs,.inr hc⟩
  ·exact (hs.2 b (Nat.ne_of_lt (Nat.lt_of_lt_of_le (Heap.lt_size e) (I.ok.cab x c hfn hc)))).trans (I.base.keep b o e n hb hx)
  ·obtain ⟨sl,e1⟩:=I.base.slot b o e n hb hx
   exact ⟨sl,(hs.2 b (Nat.ne_of_lt (Nat.lt_of_lt_of_le (Heap.lt_size e) (I.ok.cab x c hfn hc)))).trans e1⟩
  ·obtain ⟨o',e1⟩:=I.base.there b o e hx
   exact ⟨o',(hs.2 b (Nat.ne_of_lt (Nat.lt_of_lt_of_le (Heap.lt_size e) (I.ok.cab x c hfn hc)))).trans e1⟩
  ·by_cases hj:j=i
   ·subst hj
    rw [hi] at e1; cases e1
    rw [List.getElem?_set_self hiσ] at e2
    cases e2
    exact ⟨u,r,.inr ⟨.inl hk,c,hc,hc'⟩⟩
   ·rw [List.getElem?_set_ne (Ne.symm hj)] at e2
    obtain ⟨u',r',q⟩:=hl j y v' e1 e2 e3
    refine ⟨u',r',?_⟩
    rcases q with q | ⟨k,c',e,z'⟩
    ·exact .inl q
    ·refine .inr ⟨k,c',e,z'.sameBut hs ?_⟩
     rintro rfl
     exact hj (pD hN e1 (I.ok.inj _ _ _ e hc▸hi))
  ·by_cases hcc:c'=c
   ·subst hcc; exact ⟨_,hc'⟩
   ·obtain ⟨w2,z2⟩:=I.cell y c' e
    exact ⟨w2,z2.sameBut hs hcc⟩
  ·obtain ⟨e,n,ne,nf,d⟩:=I.pin p hp
   refine ⟨(hs.2 p.1 ?_).trans e,n,ne,nf,d⟩
   intro q
   rw [q,hoc] at e
   have q':oc=p.2:=Option.some.inj e
   exact d w' (by rw [← q']; exact hocd)
theorem pJ {M:Model} {A:Around} {E:Value→Shared→Prop} {i:Nat} {x:Str} {v:V} {u:Value} {Q:Unit→Shared→Prop} (I:Inv X pins σ H s) (hN:X.N.Nodup) (hi:X.N[i]?=some x) (hx:Loc X.env.scope x) (r:RelV v u)
  (h:∀ s',Inv X pins (σ.set i (some v)) H s'→Q () s') (hf:X.fn x=true∨X.env.scope.names.lookup x=some .local:=by first | exact .inl rfl | exact .inr rfl | assumption):wpAny M A (storeName X.env x u) Q E s :=
 ua I hN hi hx r (fun s' I' _=>h s' I') hf
theorem Inv.call' {s':Shared} {ch:List Addr} (I:Inv X pins σ H s) (ho:s'.os=s.os) (u:Un (frs X.stack) ch H H' s.heap s'.heap) (hok:HOk X.prog X.w H' s'.heap) (hg:AllBare s'.gens)
  (hch:∀ b∈ch,(b∈X.ex∨X.s₀.heap.objs.size≤b)∧b≠X.env.locals∧(∀ x c,X.env.cells.lookup x=some c→c≠b)∧∀ p∈X.pn++pins,p.1≠b):Inv X pins σ H' s':=by
 obtain ⟨h',g',d',t',o'⟩:=s'
 have e:o'=s.os:=ho
 subst e
 exact I.call (g':=g') (t':=t') (d':=d') u hok hg hch
end
abbrev XK:=Value→Option Addr→Hp→Prop
abbrev St:=List (Option V)
abbrev VK:=V→Hp→Prop
abbrev TE:=St→Hp→VK→Prop
abbrev TT:=St→Hp→(Bool→Hp→Prop)→Prop
abbrev TA:=St→Hp→(List V→Hp→Prop)→Prop
structure Ends where
 nx:St→Hp→Prop
 rt:VK
 bk:St→Hp→Prop:=fun _ _=>False
 ct:St→Hp→Prop:=fun _ _=>False
abbrev TS:=Ends→St→Hp→Prop
def EP (X:Cx) (pins:List (Addr×Obj)) (σ:St) (Q:VK) (u:Value) (s':Shared):Prop:=∃ v H',Inv X pins σ H' s'∧RelV v u∧Q v H'
def TP (X:Cx) (pins:List (Addr×Obj)) (σ:St) (Q:Bool→Hp→Prop) (b:Bool) (s':Shared):Prop:=∃ H',Inv X pins σ H' s'∧Q b H'
def AP (X:Cx) (pins:List (Addr×Obj)) (σ:St) (Q:List V→Hp→Prop) (us:List Value) (s':Shared):Prop:=∃ vs H',Inv X pins σ H' s'∧Vals vs us∧Q vs H'
def SP (X:Cx) (pins:List (Addr×Obj)) (D:Ends) (f:Flow) (s':Shared):Prop :=
 match f with
 | .next=>∃ σ' H',Inv X pins σ' H' s'∧D.nx σ' H'
 | .brk=>∃ σ' H',Inv X pins σ' H' s'∧D.bk σ' H'
 | .cont=>∃ σ' H',Inv X pins σ' H' s'∧D.ct σ' H'
 | .ret u=>∃ v σ' H',Inv X pins σ' H' s'∧RelV v u∧D.rt v H'
def PE (X:Cx) (e:Expr) (t:TE):Prop :=
 ∀ (pins:List (Addr×Obj)) (s:Shared) (σ:St) (H:Hp) (Q:VK),Inv X pins σ H s→t σ H Q→wpAny (model X.prog X.w) X.A (eval e X.env) (EP X pins σ Q) X.xe s
def PT (X:Cx) (e:Expr) (t:TT):Prop :=
 ∀ (pins:List (Addr×Obj)) (s:Shared) (σ:St) (H:Hp) (Q:Bool→Hp→Prop),Inv X pins σ H s→t σ H Q→wpAny (model X.prog X.w) X.A (isTrue e X.env (eval e X.env)) (TP X pins σ Q) X.xe s
def PW (X:Cx) (e:Expr) (t:TT):Prop :=
 ∀ (whole:Sem Value) (pins:List (Addr×Obj)) (s:Shared) (σ:St) (H:Hp) (Q:Bool→Hp→Prop),Inv X pins σ H s→t σ H Q→wpAny (model X.prog X.w) X.A (isTrue e X.env whole) (TP X pins σ Q) X.xe s
theorem PW.pt {X:Cx} {e:Expr} {t:TT} (h:PW X e t):PT X e t:=h _
def PA (X:Cx) (es:List Expr) (t:TA):Prop :=
 ∀ (pos:Pos) (pins:List (Addr×Obj)) (s:Shared) (σ:St) (H:Hp) (Q:List V→Hp→Prop),Inv X pins σ H s→t σ H Q→wpAny (model X.prog X.w) X.A (spliced (backTo pos (starEach es X.env))) (AP X pins σ Q) X.xe s
def PS (X:Cx) (st:Stmt) (t:TS):Prop :=
 ∀ (pins:List (Addr×Obj)) (s:Shared) (σ:St) (H:Hp) (D:Ends),Inv X pins σ H s→t D σ H→wpAny (model X.prog X.w) X.A (exec st X.env) (SP X pins D) X.xe s
def PSs (X:Cx) (st:List Stmt) (t:TS):Prop :=
 ∀ (pins:List (Addr×Obj)) (s:Shared) (σ:St) (H:Hp) (D:Ends),Inv X pins σ H s→t D σ H→wpAny (model X.prog X.w) X.A (execs st X.env) (SP X pins D) X.xe s
theorem thn {α:Type} {t:Sem α} {Q Q':α→Shared→Prop} {M:Model} {A:Around} {E:Value→Shared→Prop} {s:Shared} (h:wpAny M A t Q E s) (hQ:∀ a s,Q a s→Q' a s):wpAny M A t Q' E s:=wpAny_mono h hQ fun _ _ x=>x
end L2
namespace L2
open PySem PySem.Spec PyProof.Rows
section
variable {X:Cx}
theorem bin {a b:Expr} {ta tb:TE} (ha:PE X a ta) (hb:PE X b tb) {pins:List (Addr×Obj)} {s:Shared} {σ:St} {H:Hp} {R:V→V→Hp→Prop} (I:Inv X pins σ H s) (h:ta σ H fun x H1=>tb σ H1 fun y H2=>R x y H2)
  {α:Type} {Q:α→Shared→Prop} {f:Value→Value→Sem α}
  (hf:∀ v u s2 x y H2,Inv X pins σ H2 s2→RelV x v→RelV y u→R x y H2→wpAny (model X.prog X.w) X.A (f v u) Q X.xe s2) :
  wpAny (model X.prog X.w) X.A (eval a X.env) (fun v s₁=>wpAny (model X.prog X.w) X.A (eval b X.env) (fun u s₂=>wpAny (model X.prog X.w) X.A (f v u) Q X.xe s₂) X.xe s₁) X.xe s:=by
 refine thn (ha pins s σ H _ I h) fun v s1 ⟨x,H1,I1,r1,q1⟩=>?_
 refine thn (hb pins s1 σ H1 _ I1 q1) fun u s2 ⟨y,H2,I2,r2,q2⟩=>?_
 exact hf v u s2 x y H2 I2 r1 r2 q2
def Cy (i:Nat):TE:=fun σ H Q=>∃ v,σ[i]?=some (some v)∧Q v H
def tC (v:V):TE:=fun _ H Q=>Q v H
theorem Bu {i:Nat} {x:Str} {pos:Pos} (hN:X.N[i]?=some x) (hv:Vis X.env.scope x) (hd:(x == ("__debug__":Str))=false:=by decide) (hcd:(x == ("__classdict__":Str))=false:=by decide):PE X (.Name x pos) (Cy i):=by
 intro pins s σ H Q I h
 obtain ⟨v,e,h⟩:=h
 obtain ⟨m,hn,hl⟩:=I.loc
 obtain ⟨u,r,l⟩:=hl i x v hN e hv
 have fin:EP X pins σ Q u s:=⟨v,H,I,r,h⟩
 rcases l with ⟨hk,hm⟩ | ⟨hk,c,hc,hcell⟩
 ·exact wpAny_Name (wpAny_loadName_local I.ok.kind hk hn hm fin) hd
 ·rcases hk with hk | hk
  ·exact wpAny_Name (wpAny_loadName_cell I.ok.kind hk hc hcell fin) hd
  ·exact wpAny_Name (wpAny_loadName_free I.ok.kind hk hc hcell fin hcd) hd
theorem aj {i j pos}:PE X (.Constant (.int i) j pos) (tC (.int i)):=fun _ _ _ H _ I h=>wpAny_Constant_int ⟨.int i,H,I.tok _,⟨_,rfl⟩,h⟩
theorem eQ {b j pos}:PE X (.Constant (.bool b) j pos) (tC (.bl b)):=fun _ _ _ H _ I h=>Constant_bool ⟨.bl b,H,I,rfl,h⟩
theorem c9 {j pos}:PE X (.Constant .none j pos) (tC .non):=fun _ _ _ H _ I h=>Constant_none ⟨.non,H,I,rfl,h⟩
theorem aB {x j pos}:PE X (.Constant (.str x) j pos) (tC (.str x)):=fun _ _ _ H _ I h=>Calls.Constant_str ⟨.str x,H,I.tok _,⟨_,rfl⟩,h⟩
def Gl (X:Cx) (x:Str):Prop:=X.env.kindOf x=some .globalImplicit
theorem eR {E:Value→Shared→Prop} {pins:List (Addr×Obj)} {s:Shared} {σ:St} {H:Hp} {x:Str} {u:Value} {pos:Pos} {Q:Value→Shared→Prop} (I:Inv X pins σ H s) (hg:Gl X x) (hm:X.mg x=some u) (h:Q u s)
  (hd:(x == ("__debug__":Str))=false:=by decide):wpAny (model X.prog X.w) X.A (eval (.Name x pos) X.env) Q E s :=
 Calls.Name_function_global I.ok.kind hg (Calls.loadGlobal_global (by rw [I.ok.glob]; exact I.mod.glob.keeps I.bk) hm h) hd
theorem fL {E:Value→Shared→Prop} {pins:List (Addr×Obj)} {s:Shared} {σ:St} {H:Hp} {x:Str} {u:Value} {pos:Pos} {Q:Value→Shared→Prop} (I:Inv X pins σ H s) (hg:Gl X x) (hm:X.mg x=none) (hv:bootBuiltins x=some u) (h:Q u s)
  (hn:x≠"__name__":=by decide) (hd:(x == ("__debug__":Str))=false:=by decide):wpAny (model X.prog X.w) X.A (eval (.Name x pos) X.env) Q E s:=by
 obtain ⟨mb,h1,h2⟩:=I.mod.blt
 exact Calls.Name_function_global I.ok.kind hg (Calls.loadGlobal_builtin (by rw [I.ok.glob]; exact I.mod.glob.keeps I.bk) hm (by rw [I.ok.blt]; exact h1.keeps I.bk) ((h2 x hn).trans hv) h) hd
theorem cv {x:Str} {v:V} {u:Value} {pos:Pos} (hg:Gl X x) (hm:X.mg x=some u) (r:RelV v u) (hd:(x == ("__debug__":Str))=false:=by decide):PE X (.Name x pos) (tC v) :=
 fun _ _ _ H _ I h=>eR I hg hm ⟨v,H,I,r,h⟩ hd
theorem cE {x:Str} {v:V} {u:Value} {pos:Pos} (hg:Gl X x) (hm:X.mg x=none) (hv:bootBuiltins x=some u) (r:RelV v u) (hn:x≠"__name__":=by decide) (hd:(x == ("__debug__":Str))=false:=by decide):PE X (.Name x pos) (tC v) :=
 fun _ _ _ H _ I h=>fL I hg hm hv ⟨v,H,I,r,h⟩ hn hd
def t2I (ta tb:TE) (k:Int→Int→Hp→Prop):St→Hp→Prop:=fun σ H=>ta σ H fun x H1=>tb σ H1 fun y H2=>∃ i j,x=.int i∧y=.int j∧k i j H2
def E2 (ta tb:TE):TE:=fun σ H Q=>t2I ta tb (fun i j H2=>Q (.int (i+j)) H2) σ H
def E4 (ta tb:TE):TE:=fun σ H Q=>t2I ta tb (fun i j H2=>Q (.int (i - j)) H2) σ H
def EL (ta tb:TE):TE:=fun σ H Q=>t2I ta tb (fun i j H2=>(-(2 ^ 64)<i∧i<2 ^ 64)∧Q (.int (i * j)) H2) σ H
variable {a b:Expr} {ta tb:TE} {pos:Pos}
def PC (X:Cx) (op:CmpOp) (a b:Expr) (t:TE):Prop :=
 ∀ (pins:List (Addr×Obj)) (s:Shared) (σ:St) (H:Hp) (Q:VK),Inv X pins σ H s→t σ H Q→
  wpAny (model X.prog X.w) X.A (eval a X.env) (fun v s₁=>wpAny (model X.prog X.w) X.A (eval b X.env) (fun u s₂=>wpAny (model X.prog X.w) X.A (compareOp op v u) (EP X pins σ Q) X.xe s₂) X.xe s₁) X.xe s
def tX (p:Int→Int→Bool) (ta tb:TE):TE:=fun σ H Q=>t2I ta tb (fun i j H2=>Q (.bl (p i j)) H2) σ H
abbrev tLt:TE→TE→TE:=tX fun i j=>decide (i<j)
abbrev tLe:TE→TE→TE:=tX fun i j=>decide (i≤j)
abbrev tGt:TE→TE→TE:=tX fun i j=>decide (j<i)
abbrev tGe:TE→TE→TE:=tX fun i j=>decide (j≤i)
abbrev EK:TE→TE→TE:=tX fun i j=>decide (i=j)
abbrev E6:TE→TE→TE:=tX fun i j=>!decide (i=j)
def EH (ta:TE):TE:=fun σ H Q=>ta σ H fun x H1=>Q (.bl (decide (x=.non))) H1
def Ei (ta:TE):TE:=fun σ H Q=>ta σ H fun x H1=>Q (.bl (!decide (x=.non))) H1
def tB (t:TE):TT:=fun σ H Q=>t σ H fun x H1=>∃ c,x=.bl c∧Q c H1
theorem xW {op:CmpOp} {t:TE} (h:PC X op a b t) (h1:behindInMarks op b=false:=by first | exact nobehind _ (by decide) (by decide) | rfl):PT X (.Compare a [op] [b] pos) (tB t):=by
 intro pins s σ H Q I hw
 refine wpAny_isTrue_Compare1 (thn (h pins s σ H _ I hw) fun v s1 h1=>thn h1 fun u s2 h2=>thn h2 fun c s3 ⟨x,H1,I1,r1,q1⟩=>?_) h1
 obtain ⟨d,rfl,q⟩:=q1
 cases r1
 exact wpAny_truthy_bool ⟨H1,I1,q⟩
theorem bG {e:Expr} {t:TE} (h:PE X e t) (he:∀ whole,isTrue e X.env whole=(do let v ← whole; standAt e.pos; holding [v] (truthy v)):=by intro _; rfl):PT X e (tB t):=by
 intro pins s σ H Q I hw
 refine isTrue_plain (thn (h pins s σ H _ I hw) fun v s1 ⟨x,H1,I1,r1,q1⟩=>?_) (he _)
 obtain ⟨d,rfl,q⟩:=q1
 cases r1
 exact wpAny_truthy_bool ⟨H1,I1,q⟩
variable {tA tB':TT} {rest:List Expr}
def Eb (t u:TT):TT:=fun σ H Q=>t σ H fun c H1=>if c=true then u σ H1 Q else Q false H1
def tOr (t u:TT):TT:=fun σ H Q=>t σ H fun c H1=>if c=true then Q true H1 else u σ H1 Q
def DI (t:TT):TT:=fun σ H Q=>t σ H fun c H1=>Q (!c) H1
theorem kz (ha:PT X a tA):PW X (.BoolOp .And [a] pos) tA:=by
 intro wh pins s σ H Q I h
 refine isTrue_and (thn (ha pins s σ H Q I h) fun c s1 e=>?_)
 cases c with
 | true=>exact isTrue_and_nil e
 | false=>exact e
theorem cT (ha:PT X a tA):PW X (.BoolOp .Or [a] pos) tA:=by
 intro wh pins s σ H Q I h
 refine isTrue_or (thn (ha pins s σ H Q I h) fun c s1 e=>?_)
 cases c with
 | false=>exact isTrue_or_nil e
 | true=>exact e
theorem ou (ha:PT X a tA) (hb:PW X (.BoolOp .And (b::rest) pos) tB'):PW X (.BoolOp .And (a::b::rest) pos) (Eb tA tB'):=by
 intro wh pins s σ H Q I h
 refine isTrue_and (thn (ha pins s σ H _ I h) fun c s1 ⟨H1,I1,q1⟩=>?_)
 cases c with
 | true=>exact hb wh pins s1 σ H1 Q I1 q1
 | false=>exact ⟨H1,I1,q1⟩
theorem eC (ha:PT X a tA) (hb:PW X (.BoolOp .Or (b::rest) pos) tB'):PW X (.BoolOp .Or (a::b::rest) pos) (tOr tA tB'):=by
 intro wh pins s σ H Q I h
 refine isTrue_or (thn (ha pins s σ H _ I h) fun c s1 ⟨H1,I1,q1⟩=>?_)
 cases c with
 | true=>exact ⟨H1,I1,q1⟩
 | false=>exact hb wh pins s1 σ H1 Q I1 q1
theorem bw (ha:PT X a tA):PT X (.UnaryOp .Not a pos) (DI tA):=by
 intro pins s σ H Q I h
 exact isTrue_not (ha pins s σ H (fun c H1=>Q (!c) H1) I h)
def C8 (ta tb:TE):TE:=fun σ H Q=>ta σ H fun x H1=>∃ c,x=.bl c∧if c=true then tb σ H1 Q else Q (.bl false) H1
def DL (ta tb:TE):TE:=fun σ H Q=>ta σ H fun x H1=>∃ c,x=.bl c∧if c=true then Q (.bl true) H1 else tb σ H1 Q
def B6 (ta:TE):TE:=fun σ H Q=>ta σ H fun x H1=>∃ c,x=.bl c∧Q (.bl (!c)) H1
theorem gp {op} {t:TE} (h:PE X a t):PE X (.BoolOp op [a] pos) t:=fun pins s σ H Q I hw=>BoolOp_one (h pins s σ H Q I hw)
theorem iE (ha:PE X a ta) (hb:PE X (.BoolOp .And (b::rest) pos) tb):PE X (.BoolOp .And (a::b::rest) pos) (C8 ta tb):=by
 intro pins s σ H Q I h
 refine BoolOp_and (thn (ha pins s σ H _ I h) fun v s1 ⟨x,H1,I1,r1,q1⟩=>?_)
 obtain ⟨c,rfl,q1⟩:=q1
 cases r1
 refine wpAny_truthy_bool ?_
 cases c with
 | true=>exact hb pins s1 σ H1 Q I1 q1
 | false=>exact ⟨.bl false,H1,I1,rfl,q1⟩
theorem C4 (ha:PE X a ta) (hb:PE X (.BoolOp .Or (b::rest) pos) tb):PE X (.BoolOp .Or (a::b::rest) pos) (DL ta tb):=by
 intro pins s σ H Q I h
 refine BoolOp_or (thn (ha pins s σ H _ I h) fun v s1 ⟨x,H1,I1,r1,q1⟩=>?_)
 obtain ⟨c,rfl,q1⟩:=q1
 cases r1
 refine wpAny_truthy_bool ?_
 cases c with
 | false=>exact hb pins s1 σ H1 Q I1 q1
 | true=>exact ⟨.bl true,H1,I1,rfl,q1⟩
theorem w5 (ha:PE X a ta):PE X (.UnaryOp .Not a pos) (B6 ta):=by
 intro pins s σ H Q I h
 refine UnaryOp_ (thn (ha pins s σ H _ I h) fun v s1 ⟨x,H1,I1,r1,q1⟩=>?_)
 obtain ⟨c,rfl,q1⟩:=q1
 cases r1
 exact not_of (wpAny_truthy_bool ⟨.bl (!c),H1,I1,rfl,q1⟩)
def tIf (t:TT) (ta tb:TE):TE:=fun σ H Q=>t σ H fun c H1=>if c=true then ta σ H1 Q else tb σ H1 Q
theorem jk {c:Expr} (hc:PT X c tA) (ha:PE X a ta) (hb:PE X b tb):PE X (.IfExp c a b pos) (tIf tA ta tb):=by
 intro pins s σ H Q I h
 refine wpAny_IfExp (thn (hc pins s σ H _ I h) fun d s1 ⟨H1,I1,q1⟩=>?_)
 cases d with
 | true=>exact ha pins s1 σ H1 Q I1 q1
 | false=>exact hb pins s1 σ H1 Q I1 q1
end
end L2
namespace L2
open PySem PySem.Spec PyProof.Rows
def SqL (K:PySem.W.Frag) (H:Hp) (a:Addr) (xs:List V):Prop :=
 Rd H a (.lst xs)∨
  ∃ (o:Obj) (its:Array Value) (n:Nat),K.lookup a=some o∧o.cls=.type "list"∧o.dict=none∧o.data=.seq its n∧its.size≤sizeLine∧Vals xs its.toList
def SqT (K:PySem.W.Frag) (H:Hp) (a:Addr) (xs:List V):Prop :=
 Rd H a (.tup xs)∨
  ∃ (o:Obj) (its:Array Value) (n:Nat),K.lookup a=some o∧o.cls=.type "tuple"∧o.data=.seq its n∧its.size≤sizeLine∧Vals xs its.toList
def xD:Value→Option V
 | .none=>some .non
 | .bool b=>some (.bl b)
 | .int i _=>some (.int i)
 | .str x _=>some (.str x)
 | .bytes b _=>some (.byt b)
 | .float b _=>some (.flt b)
 | .ref a=>some (.ref a)
 | .type n=>some (.ty n)
 | _=>none
theorem RelV.abs {x:V} {u:Value} (r:RelV x u):xD u=some x:=by
 cases x with
 | non=>cases r; rfl
 | bl _=>cases r; rfl
 | int _=>obtain ⟨t,rfl⟩:=r; rfl
 | str _=>obtain ⟨t,rfl⟩:=r; rfl
 | byt _=>obtain ⟨t,rfl⟩:=r; rfl
 | flt _=>obtain ⟨t,rfl⟩:=r; rfl
 | ref _=>cases r; rfl
 | ty _=>cases r; rfl
theorem RelV.inj {x y:V} {u:Value} (r:RelV x u) (q:RelV y u):x=y:=Option.some.inj (r.abs.symm.trans q.abs)
theorem Vals.inj:∀ {xs ys:List V} {us:List Value},Vals xs us→Vals ys us→xs=ys
 | _,_,_,.nil,.nil=>rfl
 | _,_,_,.cons r t,.cons r' t'=>by rw [r.inj r',Vals.inj t t']
section
variable {X:Cx} {pins:List (Addr×Obj)} {σ:St} {H:Hp} {s:Shared} {a:Addr} {xs ys:List V}
theorem SqL.of {K:PySem.W.Frag} (h:H a=some (.lst xs)):SqL K H a xs:=.inl (.inl h)
theorem SqT.of {K:PySem.W.Frag} (h:H a=some (.tup xs)):SqT K H a xs:=.inl (.inl h)
theorem Inv.list (I:Inv X pins σ H s) (h:SqL X.K H a xs):∃ its:List Value,Vals xs its∧PlainL s.heap a its.toArray∧xs.length≤sizeLine:=by
 rcases h with h | ⟨o,its,n,hk,hc,hd,hs,hz,r⟩
 ·obtain ⟨z,its,n,r,e⟩:=h.ok I.hok
  exact ⟨its,r,⟨_,n,e,rfl,rfl,rfl⟩,z⟩
 ·refine ⟨its.toList,r,⟨o,n,I.kIn a o hk,hc,hd,by simpa using hs⟩,?_⟩
  have e:=r.length
  simp only [Array.length_toList] at e
  omega
theorem Inv.tuple (I:Inv X pins σ H s) (h:SqT X.K H a xs):∃ its:List Value,Vals xs its∧IsTup s.heap a its.toArray∧xs.length≤sizeLine:=by
 rcases h with h | ⟨o,its,n,hk,hc,hs,hz,r⟩
 ·obtain ⟨z,its,r,p⟩:=h.ok I.hok
  exact ⟨its,r,p,z⟩
 ·refine ⟨its.toList,r,⟨o,I.kIn a o hk,hc,n,by simpa using hs⟩,?_⟩
  have e:=r.length
  simp only [Array.length_toList] at e
  omega
theorem Inv.list_inj (I:Inv X pins σ H s) (h:SqL X.K H a xs) (h':SqL X.K H a ys):xs=ys:=by
 obtain ⟨its,r,⟨o,n,e,_,_,d⟩,_⟩:=I.list h
 obtain ⟨its',r',⟨o',n',e',_,_,d'⟩,_⟩:=I.list h'
 rw [e] at e'; cases e'
 rw [d] at d'
 injection d' with d1 _
 have:its=its':=by simpa using congrArg Array.toList d1
 subst this
 exact r.inj r'
theorem Inv.tuple_inj (I:Inv X pins σ H s) (h:SqT X.K H a xs) (h':SqT X.K H a ys):xs=ys:=by
 obtain ⟨its,r,⟨o,e,_,n,d⟩,_⟩:=I.tuple h
 obtain ⟨its',r',⟨o',e',_,n',d'⟩,_⟩:=I.tuple h'
 rw [e] at e'; cases e'
 rw [d] at d'
 injection d' with d1 _
 have:its=its':=by simpa using congrArg Array.toList d1
 subst this
 exact r.inj r'
end
abbrev Cx.wish (X:Cx) (E:Value→Shared→Prop):Cx:={ X with xe:=E }
abbrev Cx.nox (X:Cx):Cx:=X.wish fun _ _=>False
theorem Cx.Ok.wish {X:Cx} (ok:X.Ok) (E:Value→Shared→Prop):(X.wish E).Ok :=
 ⟨ok.mod,ok.kind,ok.glob,ok.blt,ok.above,ok.inj,ok.has,ok.cab,ok.hd,ok.frames,ok.stk,ok.exf,ok.bs,ok.bsz,ok.noex,ok.exfs,ok.funs,ok.frf⟩
theorem Cx.Ok.unwish {X:Cx} {E:Value→Shared→Prop} (ok:(X.wish E).Ok):X.Ok :=
 ⟨ok.mod,ok.kind,ok.glob,ok.blt,ok.above,ok.inj,ok.has,ok.cab,ok.hd,ok.frames,ok.stk,ok.exf,ok.bs,ok.bsz,ok.noex,ok.exfs,ok.funs,ok.frf⟩
section
variable {X:Cx} {pins:List (Addr×Obj)} {σ:St} {H:Hp} {s:Shared} {E:Value→Shared→Prop}
theorem Inv.wish (I:Inv X pins σ H s) (E:Value→Shared→Prop):Inv (X.wish E) pins σ H s:=⟨I.ok.wish E,I.os,I.bare,I.base,I.loc,I.cell,I.free,I.freeC,I.pin,I.hok,I.len⟩
theorem Inv.unwish (I:Inv (X.wish E) pins σ H s):Inv X pins σ H s:=⟨I.ok.unwish,I.os,I.bare,I.base,I.loc,I.cell,I.free,I.freeC,I.pin,I.hok,I.len⟩
theorem SP.unwish {D:Ends} {f:Flow} {s':Shared} (h:SP (X.wish E) pins D f s'):SP X pins D f s':=by
 cases f with
 | next=>obtain ⟨σ',H',I,q⟩:=h; exact ⟨σ',H',I.unwish,q⟩
 | brk=>obtain ⟨σ',H',I,q⟩:=h; exact ⟨σ',H',I.unwish,q⟩
 | cont=>obtain ⟨σ',H',I,q⟩:=h; exact ⟨σ',H',I.unwish,q⟩
 | ret u=>obtain ⟨v,σ',H',I,r,q⟩:=h; exact ⟨v,σ',H',I.unwish,r,q⟩
theorem PSs.nox {st:List Stmt} {t:TS} (h:PSs X.nox st t):PSs X st t:=fun pins s σ H D I hw =>
 wpAny_mono (h pins s σ H D (I.wish _) hw) (fun _ _ q=>q.unwish) fun _ _ z=>False.elim z
end
section
variable {X:Cx} {st:Stmt} {rest:List Stmt} {t u:TS} {e:Expr} {te:TE} {pos:Pos}
def Ca:TS:=fun D σ H=>D.nx σ H
def Dp (t u:TS):TS:=fun D σ H=>t { D with nx:=u D } σ H
theorem aw:PSs X [] Ca:=fun _ _ σ H _ I h=>wpAny_execs_nil ⟨σ,H,I,h⟩
theorem af (h1:PS X st t) (h2:PSs X rest u):PSs X (st::rest) (Dp t u):=by
 intro pins s σ H D I h
 refine wpAny_execs_cons (thn (h1 pins s σ H { D with nx:=u D } I h) fun f s1 q=>?_)
 cases f with
 | next =>
  obtain ⟨σ',H',I',q⟩:=q
  exact h2 pins s1 σ' H' D I' q
 | ret v=>exact q
 | brk=>exact q
 | cont=>exact q
theorem ak (h1:PS X st t):PSs X [st] t:=by
 intro pins s σ H D I h
 refine wpAny_execs_cons (thn (h1 pins s σ H D I h) fun f s1 q=>?_)
 cases f with
 | next=>exact wpAny_execs_nil q
 | ret v=>exact q
 | brk=>exact q
 | cont=>exact q
def Dv:TS:=fun D σ H=>D.bk σ H
def En:TS:=fun D σ H=>D.ct σ H
theorem Inv.quiet {pins:List (Addr×Obj)} {σ:St} {H:Hp} {s:Shared} (I:Inv X pins σ H s):interactive X.env=false:=by simp [interactive,I.ok.kind]
def Cd (te:TE):TS:=fun D σ H=>te σ H fun _ H1=>D.nx σ H1
theorem bp (he:PE X e te) (hs:swapsWith e none pos.line X.env=pure false:=by rfl):PS X (.Expr e pos) (Cd te):=by
 intro pins s σ H D I h
 exact wpAny_Expr_any (thn (he pins s σ H _ I h) fun v s1 ⟨x,H1,I1,r1,q1⟩=>⟨σ,H1,I1,q1⟩) I.quiet hs
def DM (te:TE):TS:=fun D σ H=>te σ H D.rt
theorem av (he:PE X e te):PS X (.Return (some e) pos) (DM te):=by
 intro pins s σ H D I h
 exact wpAny_Return_some (thn (he pins s σ H _ I h) fun v s1 ⟨x,H1,I1,r1,q1⟩=>⟨x,σ,H1,I1,r1,q1⟩)
def Ex:TS:=fun D _ H=>D.rt .non H
def DF (c:TT) (t u:TS):TS:=fun D σ H=>c σ H fun b H1=>if b=true then t D σ H1 else u D σ H1
theorem aU {c:Expr} {a b:List Stmt} {tc:TT} (hc:PT X c tc) (ha:PSs X a t) (hb:PSs X b u):PS X (.If c a b pos) (DF tc t u):=by
 intro pins s σ H D I h
 refine wpAny_If (thn (hc pins s σ H _ I h) fun d s1 ⟨H1,I1,q1⟩=>?_)
 cases d with
 | true=>exact ha pins s1 σ H1 D I1 q1
 | false=>exact hb pins s1 σ H1 D I1 q1
def BL:TS:=fun _ _ _=>False
theorem aH {sts:List Stmt}:PSs X sts BL:=fun _ _ _ _ _ _ h=>h.elim
end
abbrev TG:=V→St→Hp→(St→Hp→Prop)→Prop
abbrev TGs:=List V→St→Hp→(St→Hp→Prop)→Prop
def PG (X:Cx) (target:Expr) (t:TG):Prop :=
 ∀ (pins:List (Addr×Obj)) (s:Shared) (σ:St) (H:Hp) (v:V) (u:Value) (Q:St→Hp→Prop),Inv X pins σ H s→RelV v u→t v σ H Q→
  wpAny (model X.prog X.w) X.A (assign target X.env u) (fun _ s'=>∃ σ' H',Inv X pins σ' H' s'∧Q σ' H') X.xe s
def PGs (X:Cx) (ts:List Expr) (t:TGs):Prop :=
 ∀ (pins:List (Addr×Obj)) (s:Shared) (σ:St) (H:Hp) (vs:List V) (us:List Value) (Q:St→Hp→Prop),Inv X pins σ H s→Vals vs us→t vs σ H Q→
  wpAny (model X.prog X.w) X.A (assignInOrder ((assignEach ts X.env).map (·.2)) us) (fun _ s'=>∃ σ' H',Inv X pins σ' H' s'∧Q σ' H') X.xe s
abbrev yX:=V→V→V→Hp→(Hp→Prop)→Prop
def C1 (X:Cx) (t:yX):Prop :=
 ∀ (pins:List (Addr×Obj)) (s:Shared) (σ:St) (H:Hp) (o i v:V) (ov iv u:Value) (Q:Hp→Prop),Inv X pins σ H s→RelV o ov→RelV i iv→RelV v u→t o i v H Q→
  wpAny (model X.prog X.w) X.A (setItem ov iv u) (fun _ s'=>∃ H',Inv X pins σ H' s'∧Q H') X.xe s
abbrev TIp:=V→V→Hp→VK→Prop
def PIp (X:Cx) (op:Operator) (t:TIp):Prop :=
 ∀ (pins:List (Addr×Obj)) (s:Shared) (σ:St) (H:Hp) (x y:V) (v u:Value) (Q:VK),Inv X pins σ H s→RelV x v→RelV y u→t x y H Q→
  wpAny (model X.prog X.w) X.A (inplaceOp op v u) (EP X pins σ Q) X.xe s
section
variable {X:Cx} {pos:Pos}
def tf (i:Nat):TG:=fun v σ H Q=>Q (σ.set i (some v)) H
theorem aI {i:Nat} {x:Str} (hN:X.N.Nodup) (hi:X.N[i]?=some x) (hx:Loc X.env.scope x) (hf:X.fn x=true∨X.env.scope.names.lookup x=some .local:=by first | exact .inl rfl | exact .inr rfl | assumption):PG X (.Name x pos) (tf i):=by
 intro pins s σ H v u Q I r h
 exact wpAny_assign_Name (pJ I hN hi hx r (fun s' I'=>⟨_,H,I',h⟩) hf)
def DT:TGs:=fun vs σ H Q=>vs=[]∧Q σ H
def Cu (t:TG) (u:TGs):TGs:=fun vs σ H Q=>∃ v r,vs=v::r∧t v σ H fun σ' H'=>u r σ' H' Q
theorem d9:PGs X [] DT:=by
 intro pins s σ H vs us Q I r h
 obtain ⟨e,h⟩:=h
 subst e
 cases r
 exact assignInOrder_nil ⟨σ,H,I,h⟩
theorem bg {e:Expr} {es:List Expr} {t:TG} {u:TGs} (h1:PG X e t) (h2:PGs X es u)
  (hs:(assignEach (e::es) X.env).map (·.2)=assign e X.env::(assignEach es X.env).map (·.2):=by rfl):PGs X (e::es) (Cu t u):=by
 intro pins s σ H vs us Q I r h
 obtain ⟨v,vr,e1,h⟩:=h
 subst e1
 cases r with
 | cons r rr =>
  rw [hs]
  refine assignInOrder_cons (thn (h1 pins s σ H _ _ _ I r h) fun _ s1 ⟨σ1,H1,I1,q1⟩=>?_)
  exact h2 pins s1 σ1 H1 _ _ Q I1 rr q1
def DZ (K:PySem.W.Frag) (n:Nat) (t:TGs):TG:=fun v σ H Q=>∃ a xs,v=.ref a∧SqT K H a xs∧xs.length=n∧t xs σ H Q
theorem fV {es:List Expr} {k:Nat} {t:TGs} {n:Nat} (hc:X.calm=true) (h:PGs X es t)
  (hn:(assignEach es X.env).length=n:=by rfl) (hst:(assignEach es X.env).findIdx? (·.1)=none:=by rfl):PG X (.Tuple es k pos) (DZ X.K n t):=by
 intro pins s σ H v u Q I r hw
 obtain ⟨a,xs,e1,hq,hl,hw⟩:=hw
 subst e1
 cases r
 obtain ⟨its,rv,ht,hz⟩:=I.tuple hq
 refine assign_Tuple_tuple (I.ok.hd hc) ht (by simp [hn,← hl,rv.length]) hst fun h' hx=>?_
 have I1:Inv X pins σ H { s with heap:=h' }:=I.kept (t':=s.toks) fun b o e=>hx b o (Nat.ne_of_lt (Heap.lt_size e)) e
 exact h pins _ σ H xs _ Q I1 (by simpa using rv) hw
def DB (to ti:TE) (t:yX):TG:=fun v σ H Q=>to σ H fun o H1=>ti σ H1 fun i H2=>t o i v H2 fun H3=>Q σ H3
theorem rJ {o i:Expr} {to ti:TE} {t:yX} (ho:PE X o to) (hi:PE X i ti) (hs:C1 X t)
  (ha:∀ v,assign (.Subscript o i pos) X.env v=(do
   let ov ← holding [v] (eval o X.env)
   let iv ← holding [v,ov] (eval i X.env)
   standAt pos
   holding [v,ov,iv] (setItem ov iv v)
   release [v,ov,iv] []):=by intro _; rfl):PG X (.Subscript o i pos) (DB to ti t):=by
 intro pins s σ H v u Q I r h
 rw [ha]
 refine wpAny_bind (wpAny_holding (thn (ho pins s σ H _ I h) fun ov s1 ⟨x,H1,I1,r1,q1⟩=>?_))
 refine wpAny_bind (wpAny_holding (thn (hi pins s1 σ H1 _ I1 q1) fun iv s2 ⟨y,H2,I2,r2,q2⟩=>?_))
 refine wpAny_bind (wpAny_standAt (wpAny_bind (wpAny_holding (thn (hs pins s2 σ H2 x y v ov iv u _ I2 r1 r2 r q2) fun _ s3 ⟨H3,I3,q3⟩=>?_))))
 exact wpAny_release ⟨σ,H3,I3,q3⟩
def Bh (te:TE) (g:TG):TS:=fun D σ H=>te σ H fun x H1=>g x σ H1 D.nx
theorem rp {tg e:Expr} {te:TE} {g:TG} (he:PE X e te) (hg:PG X tg g) (hs:swapsWithSole [tg] e pos.line X.env=pure false:=by rfl) (hw:swappedStores [tg] e X.env=pure none:=by rfl)
  (h1:(assignEach [tg] X.env).map (·.2)=[assign tg X.env]:=by rfl):PS X (.Assign [tg] e pos) (Bh te g):=by
 intro pins s σ H D I h
 refine wpAny_Assign_stores (thn (he pins s σ H _ I h) fun v s1 ⟨x,H1,I1,r1,q1⟩=>?_) hs hw
 rw [h1]
 exact thn (hg pins s1 σ H1 x v _ I1 r1 q1) fun _ s2 q=>q
theorem aJ {i:Nat} {x:Str} {e:Expr} {te:TE} {pos':Pos} (hN:X.N.Nodup) (hi:X.N[i]?=some x) (hx:Loc X.env.scope x) (he:PE X e te) (hs:swapsWith e (some (.Name x pos')) pos.line X.env=pure false:=by rfl) (hf:X.fn x=true∨X.env.scope.names.lookup x=some .local:=by first | exact .inl rfl | exact .inr rfl | assumption) :
  PS X (.Assign [.Name x pos'] e pos) (Bh te (tf i)):=by
 intro pins s σ H D I h
 refine wpAny_Assign_Name (thn (he pins s σ H _ I h) fun v s1 ⟨y,H1,I1,r1,q1⟩=>?_) hs
 exact pJ I1 hN hi hx r1 (fun s2 I2=>⟨_,H1,I2,q1⟩) hf
def EM (i j:Nat) (ta:TA):TS:=fun D σ H=>ta σ H fun vs H1=>∃ v w,vs=[v,w]∧D.nx ((σ.set i (some v)).set j (some w)) H1
def EZ (i:Nat) (te:TE) (ti:TIp):TS:=fun D σ H=>∃ x,σ[i]?=some (some x)∧te σ H fun y H1=>ti x y H1 fun z H2=>D.nx (σ.set i (some z)) H2
def EA (to ti te:TE) (tget:V→V→Hp→VK→Prop) (tip:TIp) (tset:yX):TS:=fun D σ H=>to σ H fun o H1=>ti σ H1 fun i H2=>tget o i H2 fun x H3=>te σ H3 fun y H4=>tip x y H4 fun z H5=>tset o i z H5 fun H6=>D.nx σ H6
def E8 (X:Cx) (t:V→V→Hp→VK→Prop):Prop :=
 ∀ (pins:List (Addr×Obj)) (s:Shared) (σ:St) (H:Hp) (o i:V) (ov iv:Value) (Q:VK),Inv X pins σ H s→RelV o ov→RelV i iv→t o i H Q→
  wpAny (model X.prog X.w) X.A (getItem ov iv) (EP X pins σ Q) X.xe s
def ipI (f:Int→Int→Int):TIp:=fun x y H Q=>∃ i j,x=.int i∧y=.int j∧Q (.int (f i j)) H
end
section
variable {X:Cx} {pos:Pos}
def xX (c:TT) (tb:TS):TS:=fun D σ H=>∃ W:Nat→St→Hp→Prop,(∃ m,W m σ H)∧∀ m σ H,W m σ H→
 c σ H fun b H1=>if b=true then ∃ N:St→Hp→Prop,(∀ σ' H',N σ' H'→∃ m',m'<m∧W m' σ' H')∧tb { D with nx:=N,ct:=N,bk:=D.nx } σ H1 else D.nx σ H1
theorem wy {c:Expr} {body:List Stmt} {tc:TT} {tb:TS} (hp:PassesOwn (model X.prog X.w) X.A X.env X.xe) (hc:PT X c tc) (hb:PSs X body tb):PS X (.While c body [] pos) (xX tc tb):=by
 intro pins s σ H D I h
 obtain ⟨W,⟨m0,w0⟩,turn⟩:=h
 refine wpAny_While (codeAny_whileLoop (fun n s'=>∃ σ' H',Inv X pins σ' H' s'∧W n σ' H') ?_ m0 ⟨σ,H,I,w0⟩)
 rintro n s1 ⟨σ1,H1,I1,w1⟩
 refine wpAny_passesOwn hp (thn (hc pins s1 σ1 H1 _ I1 (turn n σ1 H1 w1)) fun b s2 ⟨H2,I2,q2⟩=>?_)
 cases b with
 | true =>
  obtain ⟨N,hN,q2⟩:=q2
  rw [if_pos rfl]
  refine wpAny_passesOwn hp (thn (hb pins s2 σ1 H2 _ I2 q2) fun f s3 q3=>?_)
  cases f with
  | next =>
   obtain ⟨σ3,H3,I3,n3⟩:=q3
   obtain ⟨m',hm,w3⟩:=hN σ3 H3 n3
   exact ⟨m',hm,σ3,H3,I3,w3⟩
  | cont =>
   obtain ⟨σ3,H3,I3,n3⟩:=q3
   obtain ⟨m',hm,w3⟩:=hN σ3 H3 n3
   exact ⟨m',hm,σ3,H3,I3,w3⟩
  | brk=>exact q3
  | ret v=>exact q3
 | false =>
  rw [if_neg Bool.false_ne_true]
  exact wpAny_execs_nil ⟨σ1,H2,I2,q2⟩
end
structure It where
 go:Nat→Hp→Prop
 yld:Nat→Hp→V→Hp→Prop
 stop:Nat→Hp→Prop
def ij (X:Cx) (pins:List (Addr×Obj)) (H:Hp) (b:Addr):Prop :=
 H b=none∧b≠X.env.locals∧b∉X.fs∧(b∈X.ex∨X.s₀.heap.objs.size≤b)∧(∀ x c,X.env.cells.lookup x=some c→c≠b)∧∀ p∈X.pn++pins,p.1≠b
theorem Inv.fpOk {X:Cx} {pins:List (Addr×Obj)} {σ:St} {H H':Hp} {s:Shared} {b:Addr} (I:Inv X pins σ H s) (hb:s.heap.objs.size≤b) (hn:H' b=none):ij X pins H' b:=by
 refine ⟨hn,Nat.ne_of_gt (Nat.lt_of_lt_of_le I.lt hb),I.nofs hb,.inr (Nat.le_trans I.sz hb),fun x c e z=>?_,fun p hp z=>?_⟩
 ·obtain ⟨v,q⟩:=I.cell x c e
  exact absurd (Nat.lt_of_lt_of_le q.lt (by rw [z]; exact hb)) (Nat.lt_irrefl _)
 ·exact absurd (Nat.lt_of_lt_of_le (Heap.lt_size (I.pin p hp).1) (by rw [z]; exact hb)) (Nat.lt_irrefl _)
structure Turn (P:Program) (w:World) (K:PySem.W.Frag) (tg:Expr) (J:It) (fp:List Addr) (it:Addr) (tn:Nat→Heap→Prop):Prop where
 mem:it∈fp
 obj:∀ i h,tn i h→∀ b∈fp,∃ o,h.get? b=some o∧∀ v,o.data≠.cell v
 keep:∀ i h h',tn i h→(∀ b∈fp,∀ o,h.get? b=some o→h'.get? b=some o)→tn i h'
 item:∀ (X:Cx),X.prog=P→X.w=w→X.K=K→X.calm=true→∀ (i:Nat) (pins:List (Addr×Obj)) (s:Shared) (σ:St) (H:Hp) (E:Value→Shared→Prop),Inv X pins σ H s→(∀ b∈fp,ij X pins H b)→tn i s.heap→J.go i H→
  wpAny (model P w) X.A (pyNext (.ref it)) (fun r s1=>∃ u,r=some u∧
   wpAny (model P w) X.A (letOwnedTupleGo tg (.ref it) u) (fun _ s2=>∃ x H',Inv X pins σ H' s2∧RelV x u∧J.yld i H x H'∧tn (i+1) s2.heap∧∀ b∈fp,H' b=none) E s1) E s
 done:∀ (X:Cx),X.prog=P→X.w=w→X.K=K→X.calm=true→∀ (i:Nat) (pins:List (Addr×Obj)) (s:Shared) (σ:St) (H:Hp) (E:Value→Shared→Prop),Inv X pins σ H s→(∀ b∈fp,ij X pins H b)→tn i s.heap→J.stop i H→
  wpAny (model P w) X.A (pyNext (.ref it)) (fun r s1=>r=none∧Inv X pins σ H s1) E s
 self:∀ (A:Around) (i:Nat) (s:Shared) (Q:Value→Shared→Prop) (E:Value→Shared→Prop),tn i s.heap→Q (.ref it) s→wpAny (model P w) A (pyIter (.ref it)) Q E s
abbrev TI:=St→Hp→(It→Hp→Prop)→Prop
def PIE (X:Cx) (pins:List (Addr×Obj)) (σ:St) (tg:Expr) (R:It→Hp→Prop) (itv:Value) (s2:Shared):Prop :=
 ∃ (it:Addr) (fp:List Addr) (tn:Nat→Heap→Prop) (J:It) (H':Hp),itv=.ref it∧Inv X pins σ H' s2∧Turn X.prog X.w X.K tg J fp it tn∧tn 0 s2.heap∧(∀ b∈fp,ij X pins H' b)∧R J H'
def PI (X:Cx) (tg iter:Expr) (wi:TI):Prop :=
 ∀ (pins:List (Addr×Obj)) (s:Shared) (σ:St) (H:Hp) (R:It→Hp→Prop),Inv X pins σ H s→wi σ H R→
  wpAny (model X.prog X.w) X.A (eval iter X.env) (fun v s1=>wpAny (model X.prog X.w) X.A (pyIter v) (PIE X pins σ tg R) X.xe s1) X.xe s
theorem pP {M:Model} {A:Around} {E:Value→Shared→Prop} {s:Shared} {tg:Expr} {it:Addr} {u:Value} {o:Obj} {n:String} {vs:Array Value} {Q:Unit→Shared→Prop} (ho:s.heap.get? it=some o) (hc:o.cls=.type n) (hd:o.data=.fields vs)
    (hn:["enumerate","zip","dict_itemiterator","dict_reverseitemiterator","odict_iterator","itertools.zip_longest","itertools.pairwise"].contains n=false) (hQ:Q () s):wpAny M A (letOwnedTupleGo tg (.ref it) u) Q E s:=by
  unfold letOwnedTupleGo
  cases tg <;> first
    | exact wpAny_pure hQ
    | (cases u <;> first
        | exact wpAny_pure hQ
        | (refine wpAny_bind (wpAny_load ho ?_)
           rw [hc,hd]
           show wpAny M A (if (["enumerate","zip","dict_itemiterator","dict_reverseitemiterator","odict_iterator","itertools.zip_longest","itertools.pairwise"].contains n && vs[0]? == some (rawInt _))=true then _ else _) Q E s
           rw [if_neg (by intro h; rw [hn,Bool.false_and] at h; cases h)]
           exact wpAny_pure hQ))
def Itl (K:PySem.W.Frag) (a:Addr):It :=
 ⟨fun i H=>∃ xs x,SqL K H a xs∧xs[i]?=some x,fun i H x H'=>H'=H∧∀ xs,SqL K H a xs→xs[i]?=some x,fun i H=>∃ xs,SqL K H a xs∧xs.length≤i⟩
def Itt (K:PySem.W.Frag) (a:Addr):It :=
 ⟨fun i H=>∃ xs x,SqT K H a xs∧xs[i]?=some x,fun i H x H'=>H'=H∧∀ xs,SqT K H a xs→xs[i]?=some x,fun i H=>∃ xs,SqT K H a xs∧xs.length≤i⟩
def Itr (lo:Int) (n:Nat):It:=⟨fun i _=>i<n,fun i H x H'=>H'=H∧x=.int (lo+i),fun i _=>n≤i⟩
theorem vc {P:Program} {w:World} {K:PySem.W.Frag} {tg:Expr} (a it:Addr):Turn P w K tg (Itl K a) [it] it (fun i h=>h.IsListIter it a i) where
 mem:=by simp
 obj:=fun i h st b hb=>by
  have e:b=it:=by simpa using hb
  subst e
  obtain ⟨o,e,c,d⟩:=st
  exact ⟨o,e,fun v z=>by rw [d] at z; cases z⟩
 keep:=fun i h h' st k=>st.at fun o e=>k it (by simp) o e
 item:=by
  intro X hP hw hK hc i pins s σ H E I hf st hg
  subst hP hw hK
  obtain ⟨xs,x,hq,hx⟩:=hg
  obtain ⟨its,rv,p,hz⟩:=I.list hq
  obtain ⟨u,hu,ru⟩:=rv.get hx
  obtain ⟨f0,f1,f2,f3,f4,f5⟩:=hf it (by simp)
  refine wpAny_pyNext_list_item st p.isList (x:=u) (by simpa using hu) fun h' st' sb=>?_
  have I1:Inv X pins σ H { s with heap:=h' }:=I.turned (t':=s.toks) (fun b o hb e=>(sb.2 b hb).trans e) f0 f1 f3 f4 f5
  obtain ⟨o,e,c,d⟩:=id st'
  exact ⟨u,rfl,pP (s:={ s with heap:=h' }) e c d (by decide) ⟨x,H,I1,ru,⟨rfl,fun ys hy=>by rw [I.list_inj hy hq]; exact hx⟩,st',fun b hb=>(hf b hb).1⟩⟩
 done:=by
  intro X hP hw hK hc i pins s σ H E I hf st hg
  subst hP hw hK
  obtain ⟨xs,hq,hx⟩:=hg
  obtain ⟨its,rv,p,hz⟩:=I.list hq
  obtain ⟨f0,f1,f2,f3,f4,f5⟩:=hf it (by simp)
  have hl:=rv.length
  exact wpAny_pyNext_list_end (I.ok.hd hc) st p.isList (by simp; omega) fun h' eb=>⟨rfl,I.turned (t':=s.toks) (fun b o hb e=>eb b o hb e) f0 f1 f3 f4 f5⟩
 self:=fun _ _ _ _ _ st h=>wpAny_pyIter_listiter st h
theorem qZ {P:Program} {w:World} {K:PySem.W.Frag} {tg:Expr} (a it:Addr):Turn P w K tg (Itt K a) [it] it (fun i h=>h.IsTupleIter it a i) where
 mem:=by simp
 obj:=fun i h st b hb=>by
  have e:b=it:=by simpa using hb
  subst e
  obtain ⟨o,e,c,d⟩:=st
  exact ⟨o,e,fun v z=>by rw [d] at z; cases z⟩
 keep:=fun i h h' st k=>st.at fun o e=>k it (by simp) o e
 item:=by
  intro X hP hw hK hc i pins s σ H E I hf st hg
  subst hP hw hK
  obtain ⟨xs,x,hq,hx⟩:=hg
  obtain ⟨its,rv,p,hz⟩:=I.tuple hq
  obtain ⟨u,hu,ru⟩:=rv.get hx
  obtain ⟨f0,f1,f2,f3,f4,f5⟩:=hf it (by simp)
  refine wpAny_pyNext_tuple_item st (show s.heap.IsTuple a its.toArray from p) (x:=u) (by simpa using hu) fun h' st' sb=>?_
  have I1:Inv X pins σ H { s with heap:=h' }:=I.turned (t':=s.toks) (fun b o hb e=>(sb.2 b hb).trans e) f0 f1 f3 f4 f5
  obtain ⟨o,e,c,d⟩:=id st'
  exact ⟨u,rfl,pP (s:={ s with heap:=h' }) e c d (by decide) ⟨x,H,I1,ru,⟨rfl,fun ys hy=>by rw [I.tuple_inj hy hq]; exact hx⟩,st',fun b hb=>(hf b hb).1⟩⟩
 done:=by
  intro X hP hw hK hc i pins s σ H E I hf st hg
  subst hP hw hK
  obtain ⟨xs,hq,hx⟩:=hg
  obtain ⟨its,rv,p,hz⟩:=I.tuple hq
  obtain ⟨f0,f1,f2,f3,f4,f5⟩:=hf it (by simp)
  have hl:=rv.length
  exact wpAny_pyNext_tuple_end (I.ok.hd hc) st (show s.heap.IsTuple a its.toArray from p) (by simp; omega) fun h' eb=>⟨rfl,I.turned (t':=s.toks) (fun b o hb e=>eb b o hb e) f0 f1 f3 f4 f5⟩
 self:=fun _ _ _ _ _ st h=>wpAny_pyIter_tupleiter st h
theorem rT {P:Program} {w:World} {K:PySem.W.Frag} {tg:Expr} (it:Addr) (lo:Int) (n:Nat):Turn P w K tg (Itr lo n) [it] it (fun i h=>IsRangeIter h it (lo+(i:Nat) * 1) ((n:Int) - (i:Nat)) 1) where
 mem:=by simp
 obj:=fun i h st b hb=>by
  have e:b=it:=by simpa using hb
  subst e
  exact ⟨_,st,fun v z=>by
   have z':Data.fields _=Data.cell v:=z
   cases z'⟩
 keep:=fun i h h' st k=>k it (by simp) _ st
 item:=by
  intro X hP hw hK hc i pins s σ H E I hf st hg
  subst hP hw hK
  obtain ⟨f0,f1,f2,f3,f4,f5⟩:=hf it (by simp)
  have W:=Walks.range (prog:=X.prog) (w:=X.w) (I.ok.hd hc) it lo 1 n
  refine W.item i s _ _ hg st fun v h' tk hv st' kk=>?_
  obtain ⟨t,rfl⟩:=hv
  have I1:Inv X pins σ H { s with heap:=h',toks:=tk }:=I.turned (fun b o hb e=>kk b o (by simpa using hb) e) f0 f1 f3 f4 f5
  refine ⟨_,rfl,pP (s:={ s with heap:=h',toks:=tk }) (n:="range_iterator") st' rfl rfl (by decide) ⟨.int (lo+i),H,I1,⟨t,?_⟩,⟨rfl,rfl⟩,st',fun b hb=>(hf b hb).1⟩⟩
  rw [Int.mul_one]
 done:=by
  intro X hP hw hK hc i pins s σ H E I hf st hg
  subst hP hw hK
  obtain ⟨f0,f1,f2,f3,f4,f5⟩:=hf it (by simp)
  exact wpAny_pyNext_range_end (I.ok.hd hc) st (by have:n≤i:=hg; omega) fun h' eb=>⟨rfl,I.turned (t':=s.toks) (fun b o hb e=>eb b o hb e) f0 f1 f3 f4 f5⟩
 self:=fun _ _ _ _ _ st h=>wpAny_pyIter_rangeiter st h
end L2
namespace L2
open PySem PySem.Spec PyProof.Rows
section
variable {X:Cx} {tg:Expr}
def CK (K:PySem.W.Frag) (tl:TE):TI:=fun σ H R=>tl σ H fun x H1=>∃ a,x=.ref a∧(∃ xs,SqL K H1 a xs)∧R (Itl K a) H1
def Dq (K:PySem.W.Frag) (tl:TE):TI:=fun σ H R=>tl σ H fun x H1=>∃ a,x=.ref a∧(∃ xs,SqT K H1 a xs)∧R (Itt K a) H1
theorem dG {l:Expr} {tl:TE} (hl:PE X l tl):PI X tg l (CK X.K tl):=by
 intro pins s σ H R I h
 refine thn (hl pins s σ H _ I h) fun v s1 ⟨x,H1,I1,r1,q1⟩=>?_
 obtain ⟨a,e,⟨xs,hq⟩,q⟩:=q1
 subst e
 cases r1
 obtain ⟨its,rv,p,hz⟩:=I1.list hq
 refine wpAny_pyIter_list p.isList ?_
 refine ⟨s1.heap.objs.size,[s1.heap.objs.size],_,_,H1,rfl,I1.kept (t':=s1.toks) fun b o e=>Heap.get?_push_of_some _ e,vc a _,⟨_,Heap.get?_push_size _ rfl,rfl,rfl⟩,fun b hb=>?_,q⟩
 have e:b=s1.heap.objs.size:=by simpa using hb
 subst e
 exact I1.fpOk (Nat.le_refl _) (I1.hok.fresh (Nat.le_refl _))
theorem eL {l:Expr} {tl:TE} (hl:PE X l tl):PI X tg l (Dq X.K tl):=by
 intro pins s σ H R I h
 refine thn (hl pins s σ H _ I h) fun v s1 ⟨x,H1,I1,r1,q1⟩=>?_
 obtain ⟨a,e,⟨xs,hq⟩,q⟩:=q1
 subst e
 cases r1
 obtain ⟨its,rv,p,hz⟩:=I1.tuple hq
 refine wpAny_pyIter_tuple (show s1.heap.IsTuple a its.toArray from p) ?_
 refine ⟨s1.heap.objs.size,[s1.heap.objs.size],_,_,H1,rfl,I1.kept (t':=s1.toks) fun b o e=>Heap.get?_push_of_some _ e,qZ a _,⟨_,Heap.get?_push_size _ rfl,rfl,rfl⟩,fun b hb=>?_,q⟩
 have e:b=s1.heap.objs.size:=by simpa using hb
 subst e
 exact I1.fpOk (Nat.le_refl _) (I1.hok.fresh (Nat.le_refl _))
theorem wH {pins:List (Addr×Obj)} {σ:St} {H:Hp} {s:Shared} {R:It→Hp→Prop} {E:Value→Shared→Prop} {lo hi:Int} {t u v:Tok} {tk:Nat} (I:Inv X pins σ H s) (h1:-(2 ^ 62)≤lo) (h2:lo<2 ^ 62) (h3:-(2 ^ 62)≤hi) (h4:hi<2 ^ 62)
  (q:R (Itr lo (hi - lo).toNat) H):wpAny (model X.prog X.w) X.A (pyIter (.ref s.heap.objs.size)) (PIE X pins σ tg R) E { s with heap:=s.heap.push { cls:=.type "range",data:=.fields #[.int lo t,.int hi u,.int 1 v] },toks:=tk }:=by
 refine wpAny_pyIter_range (IsRange.new ..) (small_one h1 h2 h3 h4) ?_
 have I1:Inv X pins σ H { s with heap:=s.heap.push { cls:=.type "range",data:=.fields #[.int lo t,.int hi u,.int 1 v] },toks:=tk }:=I.kept fun b o e=>Heap.get?_push_of_some _ e
 refine ⟨(s.heap.push { cls:=.type "range",data:=.fields #[.int lo t,.int hi u,.int 1 v] }).objs.size,[(s.heap.push { cls:=.type "range",data:=.fields #[.int lo t,.int hi u,.int 1 v] }).objs.size],_,_,H,rfl,
  I1.kept (t':=tk) fun b o e=>Heap.get?_push_of_some _ e,rT _ lo (hi - lo).toNat,?_,fun b hb=>?_,q⟩
 ·have e1:lo+((0:Nat):Int) * 1=lo:=by simp
  have e2:(((hi - lo).toNat:Nat):Int) - ((0:Nat):Int)=Builtin.Range.rangeSize lo hi 1:=by rw [rangeSize_one]; split <;> omega
  show IsRangeIter _ _ (lo+((0:Nat):Int) * 1) ((((hi - lo).toNat:Nat):Int) - ((0:Nat):Int)) 1
  rw [e1,e2]
  exact Heap.get?_push_size _ rfl
 ·have e:b=(s.heap.push { cls:=.type "range",data:=.fields #[.int lo t,.int hi u,.int 1 v] }).objs.size:=by simpa using hb
  subst e
  exact I1.fpOk (Nat.le_refl _) (I1.hok.fresh (Nat.le_refl _))
def Cj (ta:TA):TI:=fun σ H R=>ta σ H fun vs H1=>∃ j:Int,vs=[.int j]∧-(2 ^ 62)≤j∧j<2 ^ 62∧R (Itr 0 j.toNat) H1
def Em (ta:TA):TI:=fun σ H R=>ta σ H fun vs H1=>∃ i j:Int,vs=[.int i,.int j]∧(-(2 ^ 62)≤i∧i<2 ^ 62∧-(2 ^ 62)≤j∧j<2 ^ 62)∧R (Itr i (j - i).toNat) H1
theorem fz {a:Expr} {ta:TA} {p pos:Pos} (hg:Gl X "range") (hm:X.mg "range"=none) (ha:PA X [a] ta) (hs:starEach [a] X.env=[(false,eval a X.env)]:=by rfl):PI X tg (.Call (.Name "range" p) [a] [] pos) (Cj ta):=by
 intro pins s σ H R I h
 refine Call_ (fL I hg hm boot_range (PyProof.Rows.callWith_type1 (thn (ha pos pins s σ H _ I h) fun us s1 ⟨vs,H1,I1,r1,q1⟩=>?_) hs rfl))
 obtain ⟨j,e,q1,q2,q⟩:=q1
 subst e
 cases r1 with
 | cons r rr =>
  cases rr
  obtain ⟨t,rfl⟩:=r
  exact call_range_1 (wH I1 (by omega) (by omega) q1 q2 (by simpa using q))
def DJ (wi:TI) (g:TG) (tb:TS):TS:=fun D σ H=>wi σ H fun J H1=>∃ W:Nat→Nat→St→Hp→Prop,(∃ m,W 0 m σ H1)∧∀ i m σ H,W i m σ H→
 (J.stop i H∧D.nx σ H)∨(J.go i H∧∃ N:St→Hp→Prop,(∀ σ' H',N σ' H'→∃ m',m'<m∧W (i+1) m' σ' H')∧∀ x H',J.yld i H x H'→g x σ H' fun σ2 H2=>tb { D with nx:=N,ct:=N,bk:=D.nx } σ2 H2)
def lN (fp:List Addr) (h:Heap):List (Addr×Obj):=fp.filterMap fun b=>(h.get? b).map fun o=>(b,o)
theorem gk {fp:List Addr} {h:Heap} {b:Addr} {o:Obj} (hb:b∈fp) (e:h.get? b=some o):(b,o)∈lN fp h:=List.mem_filterMap.mpr ⟨b,hb,by rw [e]; rfl⟩
theorem uZ {fp:List Addr} {h:Heap} {p:Addr×Obj} (hp:p∈lN fp h):p.1∈fp∧h.get? p.1=some p.2:=by
 obtain ⟨b,hb,e⟩:=List.mem_filterMap.mp hp
 cases q:h.get? b with
 | none=>rw [q] at e; cases e
 | some o =>
  rw [q] at e
  have e':(b,o)=p:=Option.some.inj e
  subst e'
  exact ⟨hb,q⟩
theorem Inv.pinned {pins:List (Addr×Obj)} {σ:St} {H:Hp} {s:Shared} {fp:List Addr} (I:Inv X pins σ H s) (hf:∀ b∈fp,ij X pins H b) (ho:∀ b∈fp,∃ o,s.heap.get? b=some o∧∀ v,o.data≠.cell v):Inv X (pins++lN fp s.heap) σ H s :=
 I.pins_of fun p hp=>(List.mem_append.mp hp).elim (fun z=>I.pin p (List.mem_append_right _ z)) fun z=>by
  obtain ⟨hb,e⟩:=uZ z
  obtain ⟨f0,f1,f2,_⟩:=hf p.1 hb
  obtain ⟨o,e',d⟩:=ho p.1 hb
  rw [e] at e'; cases e'
  exact ⟨e,f0,f1,f2,d⟩
theorem Inv.unpinned {pins pl:List (Addr×Obj)} {σ:St} {H:Hp} {s:Shared} (I:Inv X (pins++pl) σ H s):Inv X pins σ H s:=I.pins_of fun p hp=>I.pin p (List.mem_append_right _ (List.mem_append_left _ hp))
theorem cL {iter:Expr} {body:List Stmt} {wi:TI} {g:TG} {tb:TS} {pos:Pos} (hp:PassesOwn (model X.prog X.w) X.A X.env X.xe) (hc:X.calm=true) (hi:PI X tg iter wi) (hg:PG X tg g) (hb:PSs X body tb)
  (hs:∀ x,foldedSetIterable iter X.env x=pure x:=by intro _; rfl):PS X (.For tg iter body [] pos) (DJ wi g tb):=by
 intro pins s σ H D I h
 refine wpAny_For (thn (hi pins s σ H _ I h) fun v s1 h1=>thn h1 fun itv s2 h2=>?_) hs
 obtain ⟨it,fp,tn,J,H2,e,I2,T,st2,f2,W,⟨m0,w0⟩,turn⟩:=h2
 subst e
 have stat:∀ {H':Hp},(∀ b∈fp,H' b=none)→∀ b∈fp,ij X pins H' b:=fun hn b hb=>⟨hn b hb,(f2 b hb).2⟩
 refine codeAny_forLoop_any (fun n s'=>∃ i σ' H',Inv X pins σ' H' s'∧tn i s'.heap∧(∀ b∈fp,H' b=none)∧W i n σ' H') ?_ m0 ⟨0,σ,H2,I2,st2,fun b hb=>(f2 b hb).1,w0⟩
 rintro n s3 ⟨i,σ3,H3,I3,st3,fr3,w3⟩
 rcases turn i n σ3 H3 w3 with ⟨stop,qn⟩ | ⟨go,N,hN,step⟩
 ·refine wpAny_passesOwn hp (thn (T.done X rfl rfl rfl hc i pins s3 σ3 H3 X.xe I3 (stat fr3) st3 stop) fun r s4 ⟨hr,I4⟩=>?_)
  subst hr
  exact wpAny_execs_nil ⟨σ3,H3,I4,qn⟩
 ·refine wpAny_passesOwn hp (thn (T.item X rfl rfl rfl hc i pins s3 σ3 H3 X.xe I3 (stat fr3) st3 go) fun r s4 ⟨u,hr,h4⟩=>?_)
  subst hr
  refine wpAny_passesOwn hp (thn h4 fun _ s5 ⟨x,H5,I5,r5,y5,st5,fr5⟩=>?_)
  have I5':=I5.pinned (stat fr5) (T.obj _ _ st5)
  refine wpAny_passesOwn hp (thn (hg _ s5 σ3 H5 x u _ I5' r5 (step x H5 y5)) fun _ s6 ⟨σ6,H6,I6,q6⟩=>?_)
  refine wpAny_passesOwn hp (thn (hb _ s6 σ6 H6 _ I6 q6) fun f s7 q7=>?_)
  have again:∀ {σ7:St} {H7:Hp},Inv X (pins++lN fp s5.heap) σ7 H7 s7→N σ7 H7→∃ m,m<n∧∃ i σ' H',Inv X pins σ' H' s7∧tn i s7.heap∧(∀ b∈fp,H' b=none)∧W i m σ' H':=fun {σ7 H7} I7 n7=>by
   obtain ⟨m',hm,w7⟩:=hN σ7 H7 n7
   refine ⟨m',hm,i+1,σ7,H7,I7.unpinned,T.keep _ _ _ st5 fun b hb o e=>(I7.pin (b,o) (List.mem_append_right _ (List.mem_append_right _ (gk hb e)))).1,fun b hb=>?_,w7⟩
   obtain ⟨o,e,d⟩:=T.obj _ _ st5 b hb
   exact (I7.pin (b,o) (List.mem_append_right _ (List.mem_append_right _ (gk hb e)))).2.1
  cases f with
  | next=>obtain ⟨σ7,H7,I7,n7⟩:=q7; exact again I7 n7
  | cont=>obtain ⟨σ7,H7,I7,n7⟩:=q7; exact again I7 n7
  | brk=>obtain ⟨σ7,H7,I7,q7⟩:=q7; exact ⟨σ7,H7,I7.unpinned,q7⟩
  | ret v=>obtain ⟨x7,σ7,H7,I7,r7,q7⟩:=q7; exact ⟨x7,σ7,H7,I7.unpinned,r7,q7⟩
end
theorem pf {K:PySem.W.Frag} {a:Addr} {xs:List V} {g:TG} {tb:TS} {D:Ends} {σ:St} {H:Hp} (Pv:Nat→St→Hp→Prop) (h0:Pv 0 σ H) (hl:∀ i σ H,i≤xs.length→Pv i σ H→SqL K H a xs)
  (hs:∀ i x σ H,xs[i]?=some x→Pv i σ H→g x σ H fun σ2 H2=>tb { D with nx:=Pv (i+1),ct:=Pv (i+1),bk:=D.nx } σ2 H2) (hd:∀ σ H,Pv xs.length σ H→D.nx σ H) :
  ∃ W:Nat→Nat→St→Hp→Prop,(∃ m,W 0 m σ H)∧∀ i m σ H,W i m σ H→
   ((Itl K a).stop i H∧D.nx σ H)∨((Itl K a).go i H∧∃ N:St→Hp→Prop,(∀ σ' H',N σ' H'→∃ m',m'<m∧W (i+1) m' σ' H')∧∀ x H',(Itl K a).yld i H x H'→g x σ H' fun σ2 H2=>tb { D with nx:=N,ct:=N,bk:=D.nx } σ2 H2):=by
 refine ⟨fun i m σ H=>m=xs.length - i∧i≤xs.length∧Pv i σ H,⟨xs.length,by simp,Nat.zero_le _,h0⟩,?_⟩
 rintro i m σ H ⟨rfl,hi,p⟩
 have q:=hl i σ H hi p
 by_cases hlt:i<xs.length
 ·refine .inr ⟨⟨xs,xs[i],q,by simp [hlt]⟩,Pv (i+1),fun σ' H' p'=>⟨xs.length - (i+1),by omega,rfl,hlt,p'⟩,fun x H' y=>?_⟩
  obtain ⟨e,y⟩:=y
  subst e
  exact hs i x σ _ (y xs q) p
 ·have e:i=xs.length:=by omega
  subst e
  exact .inl ⟨⟨xs,q,Nat.le_refl _⟩,hd σ H p⟩
theorem nO {K:PySem.W.Frag} {a:Addr} {xs:List V} {g:TG} {tb:TS} {D:Ends} {σ:St} {H:Hp} (Pv:Nat→St→Hp→Prop) (h0:Pv 0 σ H) (hl:∀ i σ H,i≤xs.length→Pv i σ H→SqT K H a xs)
  (hs:∀ i x σ H,xs[i]?=some x→Pv i σ H→g x σ H fun σ2 H2=>tb { D with nx:=Pv (i+1),ct:=Pv (i+1),bk:=D.nx } σ2 H2) (hd:∀ σ H,Pv xs.length σ H→D.nx σ H) :
  ∃ W:Nat→Nat→St→Hp→Prop,(∃ m,W 0 m σ H)∧∀ i m σ H,W i m σ H→
   ((Itt K a).stop i H∧D.nx σ H)∨((Itt K a).go i H∧∃ N:St→Hp→Prop,(∀ σ' H',N σ' H'→∃ m',m'<m∧W (i+1) m' σ' H')∧∀ x H',(Itt K a).yld i H x H'→g x σ H' fun σ2 H2=>tb { D with nx:=N,ct:=N,bk:=D.nx } σ2 H2):=by
 refine ⟨fun i m σ H=>m=xs.length - i∧i≤xs.length∧Pv i σ H,⟨xs.length,by simp,Nat.zero_le _,h0⟩,?_⟩
 rintro i m σ H ⟨rfl,hi,p⟩
 have q:=hl i σ H hi p
 by_cases hlt:i<xs.length
 ·refine .inr ⟨⟨xs,xs[i],q,by simp [hlt]⟩,Pv (i+1),fun σ' H' p'=>⟨xs.length - (i+1),by omega,rfl,hlt,p'⟩,fun x H' y=>?_⟩
  obtain ⟨e,y⟩:=y
  subst e
  exact hs i x σ _ (y xs q) p
 ·have e:i=xs.length:=by omega
  subst e
  exact .inl ⟨⟨xs,q,Nat.le_refl _⟩,hd σ H p⟩
theorem hV {lo:Int} {n:Nat} {g:TG} {tb:TS} {D:Ends} {σ:St} {H:Hp} (Pv:Nat→St→Hp→Prop) (h0:Pv 0 σ H)
  (hs:∀ i σ H,i<n→Pv i σ H→g (.int (lo+i)) σ H fun σ2 H2=>tb { D with nx:=Pv (i+1),ct:=Pv (i+1),bk:=D.nx } σ2 H2) (hd:∀ σ H,Pv n σ H→D.nx σ H) :
  ∃ W:Nat→Nat→St→Hp→Prop,(∃ m,W 0 m σ H)∧∀ i m σ H,W i m σ H→
   ((Itr lo n).stop i H∧D.nx σ H)∨((Itr lo n).go i H∧∃ N:St→Hp→Prop,(∀ σ' H',N σ' H'→∃ m',m'<m∧W (i+1) m' σ' H')∧∀ x H',(Itr lo n).yld i H x H'→g x σ H' fun σ2 H2=>tb { D with nx:=N,ct:=N,bk:=D.nx } σ2 H2):=by
 refine ⟨fun i m σ H=>m=n - i∧i≤n∧Pv i σ H,⟨n,by simp,Nat.zero_le _,h0⟩,?_⟩
 rintro i m σ H ⟨rfl,hi,p⟩
 by_cases hlt:i<n
 ·refine .inr ⟨hlt,Pv (i+1),fun σ' H' p'=>⟨n - (i+1),by omega,rfl,hlt,p'⟩,fun x H' y=>?_⟩
  obtain ⟨e,y⟩:=y
  subst e y
  exact hs i σ _ hlt p
 ·have e:i=n:=by omega
  subst e
  exact .inl ⟨Nat.le_refl _,hd σ H p⟩
theorem xC {c:TT} {tb:TS} {D:Ends} {σ:St} {H:Hp} (Pv:St→Hp→Prop) (μ:St→Hp→Nat) (h0:Pv σ H)
  (hs:∀ σ H,Pv σ H→c σ H fun b H1=>if b=true then tb { D with nx:=fun σ' H'=>Pv σ' H'∧μ σ' H'<μ σ H,ct:=fun σ' H'=>Pv σ' H'∧μ σ' H'<μ σ H,bk:=D.nx } σ H1 else D.nx σ H1)
  (mono:∀ σ H Q Q',(∀ b H1,Q b H1→Q' b H1)→c σ H Q→c σ H Q'):xX c tb D σ H:=by
 refine ⟨fun m σ H=>m=μ σ H∧Pv σ H,⟨_,rfl,h0⟩,?_⟩
 rintro m σ H ⟨rfl,p⟩
 refine mono σ H _ _ (fun b H1 q=>?_) (hs σ H p)
 cases b with
 | true=>exact ⟨_,fun σ' H' ⟨p',l⟩=>⟨_,l,rfl,p'⟩,q⟩
 | false=>exact q
end L2
namespace L2
open PySem PySem.Spec PyProof.Rows
abbrev R2:=V→V→Hp→VK→Prop
def OpR (X:Cx) (f:Value→Value→Sem Value) (r:R2):Prop :=
 ∀ (pins:List (Addr×Obj)) (s:Shared) (σ:St) (H:Hp) (x y:V) (v u:Value) (Q:VK),Inv X pins σ H s→RelV x v→RelV y u→r x y H Q→
  wpAny (model X.prog X.w) X.A (f v u) (EP X pins σ Q) X.xe s
def UnR (X:Cx) (f:Value→Sem Value) (r:V→Hp→VK→Prop):Prop :=
 ∀ (pins:List (Addr×Obj)) (s:Shared) (σ:St) (H:Hp) (x:V) (v:Value) (Q:VK),Inv X pins σ H s→RelV x v→r x H Q→
  wpAny (model X.prog X.w) X.A (f v) (EP X pins σ Q) X.xe s
def cW (X:Cx) (f:Value) (r:List V→Hp→VK→Prop):Prop :=
 ∀ (pins:List (Addr×Obj)) (s:Shared) (σ:St) (H:Hp) (xs:List V) (us:List Value) (Q:VK),Inv X pins σ H s→Vals xs us→r xs H Q→
  wpAny (model X.prog X.w) X.A (call f us) (EP X pins σ Q) X.xe s
def E1 (X:Cx) (r:V→Hp→(Bool→Hp→Prop)→Prop):Prop :=
 ∀ (pins:List (Addr×Obj)) (s:Shared) (σ:St) (H:Hp) (x:V) (v:Value) (Q:Bool→Hp→Prop),Inv X pins σ H s→RelV x v→r x H Q→
  wpAny (model X.prog X.w) X.A (truthy v) (TP X pins σ Q) X.xe s
def tOp (r:R2) (ta tb:TE):TE:=fun σ H Q=>ta σ H fun x H1=>tb σ H1 fun y H2=>r x y H2 Q
def tUn (r:V→Hp→VK→Prop) (ta:TE):TE:=fun σ H Q=>ta σ H fun x H1=>r x H1 Q
def rI (C:Int→Int→Prop) (g:Int→Int→V):R2:=fun x y H Q=>∃ i j,x=.int i∧y=.int j∧C i j∧Q (g i j) H
def rI0 (g:Int→Int→V):R2:=fun x y H Q=>∃ i j,x=.int i∧y=.int j∧Q (g i j) H
def rU (g:Int→V):V→Hp→VK→Prop:=fun x H Q=>∃ i,x=.int i∧Q (g i) H
section
variable {X:Cx} {a b c:Expr} {ta tb tc:TE} {pos:Pos}
theorem BG (ha:PE X a ta) (hb:PE X b tb) {pins:List (Addr×Obj)} {s:Shared} {σ:St} {H:Hp} {R:V→V→Hp→Prop} (I:Inv X pins σ H s)
  (h:ta σ H fun x H1=>tb σ H1 fun y H2=>R x y H2) {Q:Value→Shared→Prop} {f:Value→Value→Sem Value}
  (hf:∀ v u s2 x y H2,Inv X pins σ H2 s2→RelV x v→RelV y u→R x y H2→wpAny (model X.prog X.w) X.A (f v u) Q X.xe s2) :
  wpAny (model X.prog X.w) X.A (eval a X.env) (fun v s₁=>wpAny (model X.prog X.w) X.A (eval b X.env) (fun u s₂=>wpAny (model X.prog X.w) X.A (f v u) Q X.xe s₂) X.xe s₁) X.xe s:=by
 refine thn (ha pins s σ H _ I h) fun v s1 ⟨x,H1,I1,r1,q1⟩=>?_
 refine thn (hb pins s1 σ H1 _ I1 q1) fun u s2 ⟨y,H2,I2,r2,q2⟩=>?_
 exact hf v u s2 x y H2 I2 r1 r2 q2
theorem aV {op:Operator} {r:R2} (ho:OpR X (binaryOp op) r) (ha:PE X a ta) (hb:PE X b tb):PE X (.BinOp a op b pos) (tOp r ta tb):=by
 intro pins s σ H Q I h
 exact wpAny_BinOp (BG ha hb I h fun v u s2 x y H2 I2 rx ry q=>ho pins s2 σ H2 x y v u Q I2 rx ry q)
theorem Cb {op:UnaryOp} {r:V→Hp→VK→Prop} (ho:UnR X (unaryOp op) r) (ha:PE X a ta):PE X (.UnaryOp op a pos) (tUn r ta):=by
 intro pins s σ H Q I h
 exact UnaryOp_ (thn (ha pins s σ H _ I h) fun v s1 ⟨x,H1,I1,r1,q1⟩=>ho pins s1 σ H1 x v Q I1 r1 q1)
theorem opI {f:Value→Value→Sem Value} {C:Int→Int→Prop} {g:Int→Int→Int}
  (rule:∀ (i j:Int) (t u:Tok) (s:Shared) (Q:Value→Shared→Prop) (E:Value→Shared→Prop),C i j→Q (.int (g i j) s.toks) { s with toks:=s.toks+1 }→wpAny (model X.prog X.w) X.A (f (.int i t) (.int j u)) Q E s) :
  OpR X f (rI C fun i j=>.int (g i j)):=by
 intro pins s σ H x y v u Q I rx ry h
 obtain ⟨i,j,rfl,rfl,hc,q⟩:=h
 obtain ⟨t,rfl⟩:=rx
 obtain ⟨t',rfl⟩:=ry
 exact rule i j t t' s _ _ hc ⟨.int (g i j),H,I.tok _,⟨_,rfl⟩,q⟩
theorem B5 {f:Value→Value→Sem Value} {g:Int→Int→Int}
  (rule:∀ (i j:Int) (t u:Tok) (s:Shared) (Q:Value→Shared→Prop) (E:Value→Shared→Prop),Q (.int (g i j) s.toks) { s with toks:=s.toks+1 }→wpAny (model X.prog X.w) X.A (f (.int i t) (.int j u)) Q E s) :
  OpR X f (rI0 fun i j=>.int (g i j)):=by
 intro pins s σ H x y v u Q I rx ry h
 obtain ⟨i,j,rfl,rfl,q⟩:=h
 obtain ⟨t,rfl⟩:=rx
 obtain ⟨t',rfl⟩:=ry
 exact rule i j t t' s _ _ ⟨.int (g i j),H,I.tok _,⟨_,rfl⟩,q⟩
theorem BI {f:Value→Value→Sem Value} {g:Int→Int→Bool}
  (rule:∀ (i j:Int) (t u:Tok) (s:Shared) (Q:Value→Shared→Prop) (E:Value→Shared→Prop),Q (.bool (g i j)) s→wpAny (model X.prog X.w) X.A (f (.int i t) (.int j u)) Q E s) :
  OpR X f (rI0 fun i j=>.bl (g i j)):=by
 intro pins s σ H x y v u Q I rx ry h
 obtain ⟨i,j,rfl,rfl,q⟩:=h
 obtain ⟨t,rfl⟩:=rx
 obtain ⟨t',rfl⟩:=ry
 exact rule i j t t' s _ _ ⟨.bl (g i j),H,I,rfl,q⟩
def Cs (i j:Int):Prop:=0<j∧j<1073741824
def EE (i j:Int):Prop:=j≠0∧j.natAbs<1073741824
def Dy (i j:Int):Prop:=0≤j∧j≤1000000∧i.natAbs<2 ^ 64
def CMul (i j:Int):Prop:=(-(2 ^ 64)<i∧i<2 ^ 64)∨(-(2 ^ 64)<j∧j<2 ^ 64)
theorem CMul.ok {i j:Int} (h:CMul i j):IntMulOk i j:=by
 rcases h with ⟨h1,h2⟩ | ⟨h1,h2⟩
 ·exact .of_left (intBits_le_64 h1 h2)
 ·exact .of_right (intBits_le_64 h1 h2)
theorem cm:OpR X (binaryOp .Add) (rI0 fun i j=>.int (i+j)):=B5 fun _ _ _ _ _ _ _ q=>add_int q
theorem iw:OpR X (binaryOp .Sub) (rI0 fun i j=>.int (i - j)):=B5 fun _ _ _ _ _ _ _ q=>sub_int q
theorem kQ:OpR X (binaryOp .Mult) (rI CMul fun i j=>.int (i * j)):=opI fun _ _ _ _ _ _ _ hc q=>mul_int q hc.ok
theorem yZ:OpR X (binaryOp .FloorDiv) (rI Cs fun i j=>.int (i / j)):=opI fun i j _ _ _ _ _ hc q=>by
 have h1:(0:Int)<j:=hc.1
 have h2:j<1073741824:=hc.2
 exact floordiv_int (by omega) (by rw [Int.fdiv_eq_ediv_of_nonneg i (by omega)]; exact q) (.inl (PyProof.noPylong_small (by omega)))
theorem oB:OpR X (binaryOp .Mod) (rI (fun _ j=>0<j) fun i j=>.int (i % j)):=opI fun i j _ _ _ _ _ hc q=>by
 have h1:(0:Int)<j:=hc
 exact mod_int' (by omega) (by rw [Int.fmod_eq_emod_of_nonneg i (by omega)]; exact q)
theorem BN:OpR X (binaryOp .Pow) (rI Dy fun i j=>.int (i ^ j.toNat)):=opI fun _ _ _ _ _ _ _ hc q=>pow_int_small hc.1 hc.2.1 hc.2.2 q
theorem unI {f:Value→Sem Value} {g:Int→Int}
  (rule:∀ (i:Int) (t:Tok) (s:Shared) (Q:Value→Shared→Prop) (E:Value→Shared→Prop),Q (.int (g i) s.toks) { s with toks:=s.toks+1 }→wpAny (model X.prog X.w) X.A (f (.int i t)) Q E s) :
  UnR X f (rU fun i=>.int (g i)):=by
 intro pins s σ H x v Q I rx h
 obtain ⟨i,rfl,q⟩:=h
 obtain ⟨t,rfl⟩:=rx
 exact rule i t s _ _ ⟨.int (g i),H,I.tok _,⟨_,rfl⟩,q⟩
theorem AX:UnR X (unaryOp .USub) (rU fun i=>.int (-i)):=unI fun _ _ _ _ _ q=>neg_int q
end
def CU:V→V→Bool
 | .non,.non=>true | .non,.int _=>true | .int _,.non=>true | .non,.bl _=>true | .bl _,.non=>true | .non,.str _=>true | .str _,.non=>true
 | .int _,.int _=>true | .bl _,.bl _=>true | .str _,.str _=>true | .byt _,.byt _=>true
 | .int _,.str _=>true | .str _,.int _=>true | .bl _,.str _=>true | .str _,.bl _=>true
 | _,_=>false
def rEq:R2:=fun x y H Q=>CU x y=true∧Q (.bl (decide (x=y))) H
def rNe:R2:=fun x y H Q=>CU x y=true∧Q (.bl (!decide (x=y))) H
theorem sj {i j:Int}:decide (V.int i=V.int j)=(i == j):=by
 rw [Bool.eq_iff_iff]
 simp
theorem xf {i j:Bool}:decide (V.bl i=V.bl j)=(i == j):=by
 rw [Bool.eq_iff_iff]
 simp
theorem sV {i j:Str}:decide (V.str i=V.str j)=(i == j):=by
 rw [Bool.eq_iff_iff]
 simp
theorem sG {i j:Array UInt8}:decide (V.byt i=V.byt j)=(i.toList == j.toList):=by
 rw [Bool.eq_iff_iff]
 cases i
 cases j
 simp
section
variable {X:Cx} {a b c:Expr} {ta tb tc:TE} {pos:Pos}
theorem bc {pins:List (Addr×Obj)} {σ:St} {H:Hp} {s:Shared} {Q:VK} {k k':Bool} (I:Inv X pins σ H s) (q:Q (.bl k) H) (e:k=k'):EP X pins σ Q (.bool k') s:=by
 subst e
 exact ⟨.bl k,H,I,rfl,q⟩
theorem cF:OpR X (compareOp .Eq) rEq:=by
 intro pins s σ H x y v u Q I rx ry h
 obtain ⟨hs,q⟩:=h
 cases x with
 | non =>
  cases rx
  cases y with
  | non=>cases ry; exact PySem.EqNone.eq_none_none (bc I q (by simp))
  | bl j=>cases ry; exact PySem.EqNone.eq_none_bool (bc I q (by simp))
  | int j=>obtain ⟨t',rfl⟩:=ry; exact PySem.EqNone.eq_none_int (bc I q (by simp))
  | str j=>obtain ⟨t',rfl⟩:=ry; exact PySem.EqNone.eq_none_str (bc I q (by simp))
  | _=>exact absurd (show false=true from hs) Bool.false_ne_true
 | bl i =>
  cases rx
  cases y with
  | non=>cases ry; exact PySem.EqNone.eq_bool_none (bc I q (by simp))
  | bl j=>cases ry; exact eq_bool (bc I q xf)
  | str j=>obtain ⟨t',rfl⟩:=ry; exact PySem.EqMixed.eq_bool_str (bc I q (by simp))
  | _=>exact absurd (show false=true from hs) Bool.false_ne_true
 | int i =>
  obtain ⟨t,rfl⟩:=rx
  cases y with
  | non=>cases ry; exact PySem.EqNone.eq_int_none (bc I q (by simp))
  | int j=>obtain ⟨t',rfl⟩:=ry; exact eq_int (bc I q sj)
  | str j=>obtain ⟨t',rfl⟩:=ry; exact PySem.EqMixed.eq_int_str (bc I q (by simp))
  | _=>exact absurd (show false=true from hs) Bool.false_ne_true
 | str i =>
  obtain ⟨t,rfl⟩:=rx
  cases y with
  | non=>cases ry; exact PySem.EqNone.eq_str_none (bc I q (by simp))
  | bl j=>cases ry; exact PySem.EqMixed.eq_str_bool (bc I q (by simp))
  | int j=>obtain ⟨t',rfl⟩:=ry; exact PySem.EqMixed.eq_str_int (bc I q (by simp))
  | str j=>obtain ⟨t',rfl⟩:=ry; exact eq_str (bc I q sV)
  | _=>exact absurd (show false=true from hs) Bool.false_ne_true
 | byt i =>
  obtain ⟨t,rfl⟩:=rx
  cases y with
  | byt j=>obtain ⟨t',rfl⟩:=ry; exact PySem.W.eq_bytes (bc I q sG)
  | _=>exact absurd (show false=true from hs) Bool.false_ne_true
 | _=>cases y <;> exact absurd (show false=true from hs) Bool.false_ne_true
theorem je:OpR X (compareOp .NotEq) rNe:=by
 intro pins s σ H x y v u Q I rx ry h
 obtain ⟨hs,q⟩:=h
 cases x with
 | non =>
  cases rx
  cases y with
  | non=>cases ry; exact PySem.EqNone.ne_none_none (bc I q (by simp))
  | bl j=>cases ry; exact PySem.EqNone.ne_none_bool (bc I q (by simp))
  | int j=>obtain ⟨t',rfl⟩:=ry; exact PySem.EqNone.ne_none_int (bc I q (by simp))
  | str j=>obtain ⟨t',rfl⟩:=ry; exact PySem.EqNone.ne_none_str (bc I q (by simp))
  | _=>exact absurd (show false=true from hs) Bool.false_ne_true
 | bl i =>
  cases rx
  cases y with
  | non=>cases ry; exact PySem.EqNone.ne_bool_none (bc I q (by simp))
  | bl j=>cases ry; exact ne_bool (bc I q (congrArg not xf))
  | str j=>obtain ⟨t',rfl⟩:=ry; exact PySem.EqMixed.ne_bool_str (bc I q (by simp))
  | _=>exact absurd (show false=true from hs) Bool.false_ne_true
 | int i =>
  obtain ⟨t,rfl⟩:=rx
  cases y with
  | non=>cases ry; exact PySem.EqNone.ne_int_none (bc I q (by simp))
  | int j=>obtain ⟨t',rfl⟩:=ry; exact ne_int (bc I q (congrArg not sj))
  | str j=>obtain ⟨t',rfl⟩:=ry; exact PySem.EqMixed.ne_int_str (bc I q (by simp))
  | _=>exact absurd (show false=true from hs) Bool.false_ne_true
 | str i =>
  obtain ⟨t,rfl⟩:=rx
  cases y with
  | non=>cases ry; exact PySem.EqNone.ne_str_none (bc I q (by simp))
  | bl j=>cases ry; exact PySem.EqMixed.ne_str_bool (bc I q (by simp))
  | int j=>obtain ⟨t',rfl⟩:=ry; exact PySem.EqMixed.ne_str_int (bc I q (by simp))
  | str j=>obtain ⟨t',rfl⟩:=ry; exact ne_str (bc I q (congrArg not sV))
  | _=>exact absurd (show false=true from hs) Bool.false_ne_true
 | byt i =>
  obtain ⟨t,rfl⟩:=rx
  cases y with
  | byt j=>obtain ⟨t',rfl⟩:=ry; exact PySem.W.ne_bytes (bc I q (congrArg not sG))
  | _=>exact absurd (show false=true from hs) Bool.false_ne_true
 | _=>cases y <;> exact absurd (show false=true from hs) Bool.false_ne_true
theorem nh:OpR X (compareOp .Lt) (rI0 fun i j=>.bl (decide (i<j))):=BI fun _ _ _ _ _ _ _ q=>lt_int q
theorem dr:OpR X (compareOp .LtE) (rI0 fun i j=>.bl (decide (i≤j))):=BI fun _ _ _ _ _ _ _ q=>le_int q
theorem CI:OpR X (compareOp .GtE) (rI0 fun i j=>.bl (decide (j≤i))):=BI fun _ _ _ _ _ _ _ q=>ge_int q
theorem mU:OpR X (compareOp .In) (fun x y H Q=>∃ i j,x=.str i∧y=.str j∧Q (.bl (!(Builtin.Str.occurrences j i 0 j.length 1).isEmpty)) H):=by
 intro pins s σ H x y v u Q I rx ry h
 obtain ⟨i,j,rfl,rfl,q⟩:=h
 obtain ⟨t,rfl⟩:=rx
 obtain ⟨t',rfl⟩:=ry
 exact in_str (bc I q rfl)
theorem om:OpR X (compareOp .Is) (fun x y H Q=>y=.non∧Q (.bl (decide (x=.non))) H):=by
 intro pins s σ H x y v u Q I rx ry h
 obtain ⟨rfl,q⟩:=h
 cases ry
 refine is_none_gen (bc I q ?_)
 cases x <;> first
  | (cases rx; rfl)
  | (obtain ⟨t,rfl⟩:=rx; rfl)
theorem nW:OpR X (compareOp .IsNot) (fun x y H Q=>y=.non∧Q (.bl (!decide (x=.non))) H):=by
 intro pins s σ H x y v u Q I rx ry h
 obtain ⟨rfl,q⟩:=h
 cases ry
 refine isnot_none_gen (bc I q ?_)
 cases x <;> first
  | (cases rx; rfl)
  | (obtain ⟨t,rfl⟩:=rx; rfl)
def isObj:HO→Bool
 | .lst _=>true
 | .ins _ _ _=>true
 | _=>false
theorem aL (b:Expr) {op:CmpOp} (h:op≠.In:=by decide) (h2:op≠.NotIn:=by decide):behindInMarks op b=false:=by
 have e1:(op == CmpOp.In)=false:=by cases op <;> first | rfl | exact absurd rfl h
 have e2:(op == CmpOp.NotIn)=false:=by cases op <;> first | rfl | exact absurd rfl h2
 cases b <;> simp [behindInMarks,e1,e2]
theorem dI {op:CmpOp} {r:R2} (ho:OpR X (compareOp op) r) (ha:PE X a ta) (hb:PE X b tb) (hm:behindInMarks op b=false):PE X (.Compare a [op] [b] pos) (tOp r ta tb):=by
 intro pins s σ H Q I h
 exact wpAny_Compare1 (BG ha hb I h fun v u s2 x y H2 I2 rx ry q=>ho pins s2 σ H2 x y v u Q I2 rx ry q) hm
def AB (t:TE):TT:=fun σ H Q=>t σ H fun x H'=>∃ k,x=.bl k∧Q k H'
theorem aC {op:CmpOp} {r:R2} (ho:OpR X (compareOp op) r) (ha:PE X a ta) (hb:PE X b tb) (hm:behindInMarks op b=false):PT X (.Compare a [op] [b] pos) (AB (tOp r ta tb)):=by
 intro pins s σ H Q I h
 refine wpAny_isTrue_Compare1 (thn (ha pins s σ H _ I h) fun v s1 ⟨x,H1,I1,r1,q1⟩=>thn (hb pins s1 σ H1 _ I1 q1) fun u s2 ⟨y,H2,I2,r2,q2⟩ =>
  thn (ho pins s2 σ H2 x y v u _ I2 r1 r2 q2) fun c s3 ⟨z,H3,I3,r3,k,e,q3⟩=>?_) hm
 subst e
 cases r3
 exact wpAny_truthy_bool ⟨H3,I3,q3⟩
def vL (r r':R2) (ta tb tc:TE):TE:=fun σ H Q=>ta σ H fun x H1=>tb σ H1 fun y H2=>r x y H2 fun z H3=>∃ k,z=.bl k∧
 (if k=true then tc σ H3 fun w' H4=>r' y w' H4 Q else Q (.bl false) H3)
theorem yC {op op':CmpOp} {r r':R2} (ho:OpR X (compareOp op) r) (ho':OpR X (compareOp op') r') (ha:PE X a ta) (hb:PE X b tb) (hc:PE X c tc)
  (hm:lastMarks [op,op'] [b,c]=false:=by with_unfolding_all rfl):PE X (.Compare a [op,op'] [b,c] pos) (vL r r' ta tb tc):=by
 intro pins s σ H Q I h
 refine Compare_chain (thn (ha pins s σ H _ I h) fun v s1 ⟨x,H1,I1,r1,q1⟩=>chain_link (thn (hb pins s1 σ H1 _ I1 q1) fun u s2 ⟨y,H2,I2,r2,q2⟩ =>
  thn (ho pins s2 σ H2 x y v u _ I2 r1 r2 q2) fun d s3 ⟨z,H3,I3,r3,k,e,q3⟩=>?_)) hm
 subst e
 cases r3
 refine wpAny_truthy_bool ?_
 cases k with
 | false=>exact ite_ff ⟨.bl false,H3,I3,rfl,q3⟩
 | true=>exact ite_tt (chain_last (thn (hc pins s3 σ H3 _ I3 q3) fun w' s4 ⟨z',H4,I4,r4,q4⟩=>ho' pins s4 σ H4 y z' u w' Q I4 r2 r4 q4))
theorem da {op op':CmpOp} {r r':R2} (ho:OpR X (compareOp op) r) (ho':OpR X (compareOp op') r') (ha:PE X a ta) (hb:PE X b tb) (hc:PE X c tc)
  (hm:lastMarks [op,op'] [b,c]=false:=by with_unfolding_all rfl):PT X (.Compare a [op,op'] [b,c] pos) (AB (vL r r' ta tb tc)):=by
 intro pins s σ H Q I h
 refine isTrue_chain (thn (ha pins s σ H _ I h) fun v s1 ⟨x,H1,I1,r1,q1⟩=>test_link (thn (hb pins s1 σ H1 _ I1 q1) fun u s2 ⟨y,H2,I2,r2,q2⟩ =>
  thn (ho pins s2 σ H2 x y v u _ I2 r1 r2 q2) fun d s3 ⟨z,H3,I3,r3,k,e,q3⟩=>?_)) hm
 subst e
 cases r3
 refine wpAny_truthy_bool ?_
 cases k with
 | false =>
  obtain ⟨k',e',q'⟩:=q3
  cases e'
  exact ite_ff ⟨H3,I3,q'⟩
 | true =>
  refine ite_tt (test_last (thn (hc pins s3 σ H3 _ I3 q3) fun w' s4 ⟨z',H4,I4,r4,q4⟩=>thn (ho' pins s4 σ H4 y z' u w' _ I4 r2 r4 q4) fun d' s5 ⟨z2,H5,I5,r5,k2,e2,q5⟩=>?_))
  subst e2
  cases r5
  exact wpAny_truthy_bool ⟨H5,I5,q5⟩
def EI (K:PySem.W.Frag) (x:V) (H:Hp) (k:Bool):Prop :=
 match x with
 | .non=>k=false
 | .bl b=>k=b
 | .int i=>k=(i != 0)
 | .str y=>y.length≤sizeLine∧k=((y.length:Int) != 0)
 | .byt y=>y.size≤sizeLine∧k=((y.size:Int) != 0)
 | .ref p=>(∃ xs,SqL K H p xs∧k=!xs.isEmpty)∨(∃ xs,SqT K H p xs∧k=!xs.isEmpty)∨∃ kvs,H p=some (.dK kvs)∧k=!kvs.isEmpty
 | _=>False
theorem jo:(sizeLine:Nat)<2 ^ 63:=by rw [sizeLine_eq]; decide
theorem a8:OpR X (binaryOp .Add) (fun x y H Q=>∃ i j,x=.str i∧y=.str j∧i.length+j.length≤sizeLine∧Q (.str (i++j)) H):=by
 intro pins s σ H x y v u Q I rx ry h
 obtain ⟨i,j,rfl,rfl,hz,q⟩:=h
 obtain ⟨t,rfl⟩:=rx
 obtain ⟨t',rfl⟩:=ry
 exact add_str (fun t' tk=>⟨.str (i++j),H,I.tok _,⟨_,rfl⟩,q⟩) hz
def C7 (b:Expr):Prop:=∀ o i,subscripted b false o i=operate [o,i] (getItem o i)
theorem vals1 {x:V} {us:List Value} (r:Vals [x] us):∃ u,us=[u]∧RelV x u:=by
 cases r with
 | cons r1 r2=>cases r2; exact ⟨_,rfl,r1⟩
theorem vals2 {x y:V} {us:List Value} (r:Vals [x,y] us):∃ u w',us=[u,w']∧RelV x u∧RelV y w':=by
 cases r with
 | cons r1 r2 =>
  cases r2 with
  | cons r3 r4=>cases r4; exact ⟨_,_,rfl,r1,r3⟩
theorem uu (hc:X.calm=true):cW X (.builtin "max") (fun xs H Q=>∃ i j,xs=[.int i,.int j]∧Q (.int (if j > i then j else i)) H):=by
 intro pins s σ H xs us Q I r h
 obtain ⟨i,j,rfl,q⟩:=h
 obtain ⟨u,w',rfl,⟨t,rfl⟩,⟨t',rfl⟩⟩:=vals2 r
 refine max_two_ints (I.ok.hd hc) fun h' tk k=>⟨_,H,I.kept k,?_,q⟩
 by_cases hj:j > i
 ·rw [if_pos hj,if_pos hj]; exact ⟨_,rfl⟩
 ·rw [if_neg hj,if_neg hj]; exact ⟨_,rfl⟩
theorem vp (hc:X.calm=true):cW X (.builtin "min") (fun xs H Q=>∃ i j,xs=[.int i,.int j]∧Q (.int (if j<i then j else i)) H):=by
 intro pins s σ H xs us Q I r h
 obtain ⟨i,j,rfl,q⟩:=h
 obtain ⟨u,w',rfl,⟨t,rfl⟩,⟨t',rfl⟩⟩:=vals2 r
 refine min_two_ints (I.ok.hd hc) fun h' tk k=>⟨_,H,I.kept k,?_,q⟩
 by_cases hj:j<i
 ·rw [if_pos hj,if_pos hj]; exact ⟨_,rfl⟩
 ·rw [if_neg hj,if_neg hj]; exact ⟨_,rfl⟩
theorem uc:cW X (.type "int") (fun xs H Q=>(∃ i,xs=[.int i]∧Q (.int i) H)∨∃ k,xs=[.bl k]∧Q (.int (if k then 1 else 0)) H):=by
 intro pins s σ H xs us Q I r h
 rcases h with ⟨i,rfl,q⟩ | ⟨k,rfl,q⟩
 ·obtain ⟨u,rfl,t,rfl⟩:=vals1 r
  exact call_int_int ⟨.int i,H,I,⟨_,rfl⟩,q⟩
 ·obtain ⟨u,rfl,r1⟩:=vals1 r
  cases r1
  exact call_int_bool ⟨.int (if k then 1 else 0),H,I.tok _,⟨_,rfl⟩,q⟩
def EU (K:PySem.W.Frag) (x:V) (H:Hp) (n:Nat):Prop :=
 match x with
 | .str y=>y.length≤sizeLine∧n=y.length
 | .byt y=>y.size≤sizeLine∧n=y.size
 | .ref p=>(∃ xs,SqL K H p xs∧n=xs.length)∨∃ xs,SqT K H p xs∧n=xs.length
 | _=>False
theorem ph:cW X (.builtin "divmod") (fun xs H Q=>∃ i j,xs=[.int i,.int j]∧Cs i j∧∀ p,H p=none→Q (.ref p) (upd H p (.tup [.int (i / j),.int (i % j)]))):=by
 intro pins s σ H xs us Q I r h
 obtain ⟨i,j,rfl,⟨h1,h2⟩,q⟩:=h
 obtain ⟨u,w',rfl,⟨t,rfl⟩,⟨t',rfl⟩⟩:=vals2 r
 refine divmod_int (by omega) ?_ (.inl (PyProof.noPylong_small (by omega)))
 rw [Int.fdiv_eq_ediv_of_nonneg i (by omega),Int.fmod_eq_emod_of_nonneg i (by omega)]
 have hn:H s.heap.objs.size=none:=I.hok.fresh (Nat.le_refl _)
 refine ⟨.ref s.heap.objs.size,_,?_,rfl,q _ hn⟩
 refine I.laid (fun b o e=>Heap.get?_push_of_some _ e) (Nat.le_refl _) ⟨by simp only [List.length_cons,List.length_nil]; rw [sizeLine_eq]; decide,[.int (i / j) s.toks,.int (i % j) (s.toks+1)],.cons ⟨_,rfl⟩ (.cons ⟨_,rfl⟩ .nil),?_⟩
 exact ⟨_,Heap.get?_push_size s.heap rfl,rfl,0,rfl⟩
end
end L2
namespace L2
open PySem PySem.Spec PyProof.Rows
structure ObjM (h:Heap) (x dx C:Addr) (mA:Str→Option Value):Prop where
 obj:h.get? x=some (PySem.W.instObj C dx)
 ns:h.Ns1 dx mA
 ne:dx≠x
theorem uD {h:Heap} {dx:Addr} {mA:Str→Option Value} (n:h.Ns1 dx mA):∃ od,h.get? dx=some od∧∀ name,PySem.W.lookIn name od=some (mA name):=by
 obtain ⟨o,es,ep,ho,hd,hk,_,hm⟩:=n
 refine ⟨o,ho,fun name=>?_⟩
 have e:=hm name
 unfold nsFind findBy at e
 rw [← Array.find?_toList] at e
 unfold PySem.W.lookIn
 rw [hd]
 dsimp only
 split
 ·rename_i y q
  rw [q] at e
  exact congrArg some e
 ·rename_i q
  rw [q] at e
  have a:es.toList.any (·.refKey)=false:=by
   rw [List.any_eq_false]
   intro y hy
   obtain ⟨z,t,hkey⟩:=hk y (Array.mem_toList_iff.mp hy)
   simp [DictEntry.refKey,hkey]
  have a':¬ es.toList.any (·.refKey)=true:=by rw [a]; exact Bool.false_ne_true
  rw [if_neg a']
  exact congrArg some e
theorem ObjM.look {h:Heap} {x dx C:Addr} {mA:Str→Option Value} (I:ObjM h x dx C mA):∃ od,PySem.W.InstAt h x (PySem.W.instObj C dx) C (some od)∧∀ name,PySem.W.lookIn name od=some (mA name) :=
 let ⟨od,ho,hl⟩:=uD I.ns
 ⟨od,⟨I.obj,rfl,rfl,ho⟩,hl⟩
section
variable {prog:Program} {w:World} {A:Around} {E:Value→Shared→Prop} {s:Shared} {K:PySem.W.Frag} {x dx C f:Addr} {mA:Str→Option Value} {name:Str} {v:Value}
theorem get_map {expr:Bool} {Q:Value→Shared→Prop} (X:K.In s.heap) (I:ObjM s.heap x dx C mA) (hg:PySem.W.plainGet K C name=true) (hh:PySem.W.hasDictIn K C=true)
  (ha:PySem.W.findIn K (.ref C) name=some none) (hv:mA name=some v) (hv':PySem.W.handedIn v=true) (h:Q v { s with toks:=s.toks+1 }) :
  wpAny (model prog w) A (getAttr (.ref x) name expr) Q E s:=by
 obtain ⟨od,J,hl⟩:=I.look
 exact PySem.W.get_value X J (PySem.W.plainGet_of hg).1 (PySem.W.findObj_own hh ha rfl (by rw [hl,hv])) hv' h
theorem vS {pl:Sem Bool} {Q:Value×List Value→Shared→Prop} (X:K.In s.heap) (I:ObjM s.heap x dx C mA) (hg:PySem.W.plainGet K C name=true)
  (hf:PySem.W.findIn K (.ref C) name=some (some (.ref f))) (ht:PySem.W.isFn K (.ref f)=true) (hv:mA name=none) (h:Q (.ref f,[.ref x]) s) :
  wpAny (model prog w) A (getMethod (.ref x) name pl) Q E s:=by
 obtain ⟨od,J,hl⟩:=I.look
 exact PySem.W.method_fn X J (PySem.W.plainGet_of hg).1 (PySem.W.plainGet_of hg).2 hf (beq_iff_eq.mp ht) (by show (PySem.W.lookIn name od).map (·.isSome)=some false; rw [hl,hv]; rfl) h
theorem zT {ns:List Str} {Q:Unit→Shared→Prop} (X:K.In s.heap) (I:ObjM s.heap x dx C mA)
  (hs:PySem.W.findIn K (.ref C) "__setattr__"=some (some (.builtin "object.__setattr__"))) (hp:PySem.W.plainOver K C=true) (ht:PySem.W.takerIn K C name=some none) (hh:PySem.W.hasDictIn K C=true)
  (hw:PySem.Within mA ns) (hsz:ns.length≤sizeLine)
  (h:∀ h',ObjM h' x dx C (fun y=>if y=name then some v else mA y)→Heap.SameBut dx s.heap h'→Q () { s with heap:=h',toks:=s.toks+2 }) :
  wpAny (model prog w) A (setAttr (.ref x) name v) Q E s:=by
 obtain ⟨od,J,hl⟩:=I.look
 refine PySem.W.set_plain X J hs (PySem.W.osa_open (s:={ s with toks:=s.toks+1 }) (r:=none) X J hp ht fun b=>?_)
 obtain ⟨cd,hc,hd'⟩:=PySem.W.any_some hh
 have hx:s.heap.get? x=some ⟨.ref C,some dx,.plain,#[]⟩:=I.obj
 refine wpAny_bind (wpAny_pure (wpAny_bind (wpAny_bind (wpAny_loadPart hx (wpAny_bind (PySem.W.Looks.here (s:={ s with toks:=s.toks+1 }) (PySem.W.looks_clsIn X hc) ?_))))))
 rw [hd']
 refine wpAny_pure (a:=some dx) (wpAny_bind (wpAny_pure (wpAny_bind ?_)))
 refine wpAny_nsSet1 (s:={ s with toks:=s.toks+1 }) I.ns fun h' hn2 hs2=>?_
 obtain ⟨oD,esD,epD,hoD,hdD,hcD⟩:=hn2.count (PySem.Within.cons name v hw)
 refine wpAny_bind (wpAny_lookBehind hoD (by rw [hdD]; exact pastItsLine_dict (Nat.le_trans hcD (by rw [List.length_cons]; omega))) ?_)
 exact wpAny_pure (h _ ⟨(hs2.2 _ (Ne.symm I.ne)).trans I.obj,hn2,I.ne⟩ hs2)
theorem xh {R:Result→Shared→Prop} {vs:List Value} {kw:List (Str×Value)} (X:K.In s.heap) (hm:PySem.W.makesIn K C=true)
  (hi:PySem.W.findIn K (.ref C) "__init__"=some (some (.ref f))) (hf:PySem.W.typeIn K (.ref f)=some (.type "function"))
  (h:codeAny (model prog w) (A.under (.builtin "type.__call__" ⟨.ref C::vs,kw⟩)) (.call (.ref f) ⟨.ref (s.heap.objs.size+1)::vs,kw⟩) (PySem.W.InitBack (s.heap.objs.size+1) R)
   { s with heap:=(s.heap.push PySem.W.emptyDict).push (PySem.W.instObj C s.heap.objs.size) }) :
  codeAny (model prog w) A (.call (.ref C) ⟨vs,kw⟩) R s:=by
 obtain ⟨hh,g,d,t,os⟩:=s
 exact PySem.W.make_core (PySem.W.makes_of X hm) (PySem.W.looks_findIn X hi) (fun self=>PySem.W.bind_fn X self hf) (.inl rfl) h
end
def gv (f:Str) (v:V):List (Str×V)→List (Str×V)
 | []=>[(f,v)]
 | (g,x)::r=>if g=f then (g,v)::r else (g,x)::gv f v r
theorem j4 (f g:Str) (v:V):∀ fs:List (Str×V),(gv f v fs).lookup g=if g=f then some v else fs.lookup g
 | []=>by
  show List.lookup g [(f,v)]=_
  by_cases h:g=f
  ·have hb:(g == f)=true:=beq_iff_eq.mpr h
   simp only [List.lookup,hb,if_pos h]
  ·have hb:(g == f)=false:=beq_eq_false_iff_ne.mpr h
   simp only [List.lookup,hb,if_neg h]
 | (k,x)::r=>by
  have ih:=j4 f g v r
  rw [show gv f v ((k,x)::r)=(if k=f then (k,v)::r else (k,x)::gv f v r) from rfl]
  by_cases hk:k=f
  ·rw [if_pos hk]
   by_cases h:g=k
   ·have hb:(g == k)=true:=beq_iff_eq.mpr h
    simp only [List.lookup,hb,if_pos (h.trans hk)]
   ·have hb:(g == k)=false:=beq_eq_false_iff_ne.mpr h
    simp only [List.lookup,hb,if_neg (fun e:g=f=>h (e.trans hk.symm))]
  ·rw [if_neg hk]
   by_cases h:g=k
   ·have hb:(g == k)=true:=beq_iff_eq.mpr h
    simp only [List.lookup,hb,if_neg (fun e:g=f=>hk (h.symm.trans e))]
   ·have hb:(g == k)=false:=beq_eq_false_iff_ne.mpr h
    simp only [List.lookup,hb]
    exact ih
theorem jt (f:Str) (v:V):∀ fs:List (Str×V),f∈(gv f v fs).map (·.1)∧∀ g,g∈fs.map (·.1)→g∈(gv f v fs).map (·.1)
 | []=>⟨by simp [gv],fun g h=>by simp at h⟩
 | (k,x)::r=>by
  obtain ⟨i1,i2⟩:=jt f v r
  rw [show gv f v ((k,x)::r)=(if k=f then (k,v)::r else (k,x)::gv f v r) from rfl]
  by_cases hk:k=f
  ·rw [if_pos hk]
   subst hk
   exact ⟨by simp,fun g h=>by simpa using h⟩
  ·rw [if_neg hk]
   refine ⟨?_,fun g h=>?_⟩
   ·rw [List.map_cons]
    exact List.mem_cons_of_mem _ i1
   ·rw [List.map_cons] at h ⊢
    rcases List.mem_cons.mp h with e | e
    ·exact List.mem_cons.mpr (.inl e)
    ·exact List.mem_cons_of_mem _ (i2 g e)
theorem j7 (f:Str) (v:V):∀ fs:List (Str×V),(gv f v fs).length≤fs.length+1
 | []=>by simp [gv]
 | (k,x)::r=>by
  have ih:=j7 f v r
  rw [show gv f v ((k,x)::r)=(if k=f then (k,v)::r else (k,x)::gv f v r) from rfl]
  by_cases hk:k=f
  ·rw [if_pos hk,List.length_cons,List.length_cons]; omega
  ·rw [if_neg hk,List.length_cons,List.length_cons]; omega
theorem RelO.some_of {v:V} {o:Option Value} (r:RelO (some v) o):∃ u,o=some u∧RelV v u:=by
 cases o with
 | none=>exact (show False from r).elim
 | some u=>exact ⟨u,rfl,r⟩
theorem RelO.none_of {o:Option Value} (r:RelO none o):o=none:=by
 cases o with
 | none=>rfl
 | some u=>exact (show False from r).elim
theorem uQ {v:V} {u:Value} (r:RelV v u):PySem.W.handedIn u=true:=by
 cases v with
 | non=>cases (show u=Value.none from r); rfl
 | bl b=>cases (show u=Value.bool b from r); rfl
 | int i=>obtain ⟨t,e⟩:=(show ∃ t,u=Value.int i t from r); cases e; rfl
 | str x=>obtain ⟨t,e⟩:=(show ∃ t,u=Value.str x t from r); cases e; rfl
 | byt b=>obtain ⟨t,e⟩:=(show ∃ t,u=Value.bytes b t from r); cases e; rfl
 | flt b=>obtain ⟨t,e⟩:=(show ∃ t,u=Value.float b t from r); cases e; rfl
 | ref a=>cases (show u=Value.ref a from r); rfl
 | ty n=>cases (show u=Value.type n from r); rfl
section
variable {P:Program} {w:World} {H H':Hp} {h h':Heap} {a C dx:Addr} {fs fs':List (Str×V)}
theorem ku (hok:HOk P w H h) (e:H a=some (.ins C dx fs)):∃ mA,ObjM h a dx C mA∧(∀ f,RelO (fs.lookup f) (mA f))∧PySem.Within mA (fs.map (·.1))∧fs.length≤1000∧H dx=some (.own a):=by
 obtain ⟨d,z,ne,ob,mA,n,r,q⟩:=(show ObjOk P w H h a (.ins C dx fs) from hok a _ e)
 exact ⟨mA,⟨ob,n,ne⟩,r,q,z,d⟩
end
structure Cls (K:PySem.W.Frag) (C:Addr):Prop where
 pg:PySem.W.plainGet K C Str.empty=true
 hd:PySem.W.hasDictIn K C=true
 po:PySem.W.plainOver K C=true
 sa:PySem.W.findIn K (.ref C) "__setattr__"=some (some (.builtin "object.__setattr__"))
theorem Cls.get {K:PySem.W.Frag} {C:Addr} (c:Cls K C) (f:Str):PySem.W.plainGet K C f=true:=c.pg
def NoAttr (K:PySem.W.Frag) (C:Addr) (f:Str):Prop:=PySem.W.findIn K (.ref C) f=some none
theorem NoAttr.taker {K:PySem.W.Frag} {C:Addr} {f:Str} (n:NoAttr K C f):PySem.W.takerIn K C f=some none:=by
 unfold PySem.W.takerIn
 rw [show PySem.W.findIn K (.ref C) f=some none from n]
 rfl
structure Con (K:PySem.W.Frag) (C:Addr) (f:Str) (v:V) (u:Value):Prop where
 at_:PySem.W.findIn K (.ref C) f=some (some u)
 rel:RelV v u
 get:PySem.W.specialIn K u "__get__"=some none
 cp:PySem.W.copiedNames.contains f=false
structure Meth (K:PySem.W.Frag) (C:Addr) (m:Str) (f:Addr):Prop where
 at_:PySem.W.findIn K (.ref C) m=some (some (.ref f))
 fn:PySem.W.isFn K (.ref f)=true
 kp:PySem.W.keepIn K (.ref f)=true
section
variable {X:Cx} {pins:List (Addr×Obj)} {σ:St} {H:Hp} {s:Shared} {a C dx:Addr} {fs:List (Str×V)} {f:Str} {v:V} {A:Around} {E:Value→Shared→Prop}
theorem qX {b:Bool} {Q:Value→Shared→Prop} (I:Inv X pins σ H s) (e:H a=some (.ins C dx fs)) (c:Cls X.K C) (n:NoAttr X.K C f) (l:fs.lookup f=some v)
  (h:∀ u s',Inv X pins σ H s'→RelV v u→Q u s'):wpAny (model X.prog X.w) A (getAttr (.ref a) f b) Q E s:=by
 obtain ⟨mA,O,r,_,_,_⟩:=ku I.hok e
 obtain ⟨u,hu,ru⟩:=RelO.some_of (v:=v) (o:=mA f) (by rw [← l]; exact r f)
 exact get_map I.kIn O (c.get f) c.hd n hu (uQ ru) (h u _ (I.tok _) ru)
theorem qI {m:Str} {g:Addr} {pl:Sem Bool} {Q:Value×List Value→Shared→Prop} (I:Inv X pins σ H s) (e:H a=some (.ins C dx fs)) (c:Cls X.K C) (k:Meth X.K C m g) (l:fs.lookup m=none)
  (h:Q (.ref g,[.ref a]) s):wpAny (model X.prog X.w) A (getMethod (.ref a) m pl) Q E s:=by
 obtain ⟨mA,O,r,_,_,_⟩:=ku I.hok e
 have hn:mA m=none:=RelO.none_of (by rw [← l]; exact r m)
 exact vS I.kIn O (c.get m) k.at_ k.fn hn h
theorem qH {y:V} {u:Value} {Q:Unit→Shared→Prop} (I:Inv X pins σ H s) (e:H a=some (.ins C dx fs)) (c:Cls X.K C) (n:NoAttr X.K C f) (hl:fs.length<1000) (ry:RelV y u)
  (h:∀ s',Inv X pins σ (upd H a (.ins C dx (gv f y fs))) s'→Q () s'):wpAny (model X.prog X.w) A (setAttr (.ref a) f u) Q E s:=by
 obtain ⟨mA,O,r,wi,_,ho⟩:=ku I.hok e
 have hz:(fs.map (·.1)).length≤sizeLine:=by rw [List.length_map,sizeLine_eq]; omega
 refine zT I.kIn O c.sa c.po n.taker c.hd wi hz fun h' O' sb=>h _ ?_
 have hd:∃ o,h'.get? dx=some o:=let ⟨o,_,_,e',_⟩:=O'.ns; ⟨o,e'⟩
 refine I.write (x:=a) (e:=dx) (by rw [e]; exact True.intro) (.inr ho) (fun b q hb z=>(sb.2 b hb).trans z) hd ?_
 refine ⟨by rw [au O.ne]; exact ho,?_,O.ne,O'.obj,_,O'.ns,fun g=>?_,fun g hg=>?_⟩
 ·have:=j7 f y fs; omega
 ·show RelO ((gv f y fs).lookup g) (if g=f then some u else mA g)
  rw [j4]
  by_cases q:g=f
  ·rw [if_pos q,if_pos q]; exact ry
  ·rw [if_neg q,if_neg q]; exact r g
 ·by_cases q:g=f
  ·rw [q]; exact (jt f y fs).1
  ·refine (jt f y fs).2 g (wi g fun z=>hg ?_)
   show (if g=f then some u else mA g)=none
   rw [if_neg q]; exact z
theorem Inv.made (I:Inv X pins σ H s):Inv X pins σ (upd (upd H s.heap.objs.size (.own (s.heap.objs.size+1))) (s.heap.objs.size+1) (.ins C s.heap.objs.size []))
  { s with heap:=(s.heap.push PySem.W.emptyDict).push (PySem.W.instObj C s.heap.objs.size) }:=by
 have e1:(s.heap.push PySem.W.emptyDict).get? s.heap.objs.size=some PySem.W.emptyDict:=Heap.get?_push_size s.heap rfl
 have e2:((s.heap.push PySem.W.emptyDict).push (PySem.W.instObj C s.heap.objs.size)).get? (s.heap.objs.size+1)=some (PySem.W.instObj C s.heap.objs.size):=by
  have:=Heap.get?_push_size (s.heap.push PySem.W.emptyDict) (o:=PySem.W.instObj C s.heap.objs.size) rfl
  rwa [Heap.size_push] at this
 have e3:(s.heap.push PySem.W.emptyDict).Ns s.heap.objs.size (fun _=>none):=⟨PySem.W.emptyDict,#[],_,e1,rfl,(fun e he=>absurd he (by simp)),fun _=>rfl⟩
 have I1:=I.laid (a:=s.heap.objs.size) (o:=.own (s.heap.objs.size+1)) (h':=s.heap.push PySem.W.emptyDict) (t':=s.toks) (fun b u q=>Heap.get?_push_of_some _ q) (Nat.le_refl _) ⟨_,e1⟩
 refine I1.laid (a:=s.heap.objs.size+1) (o:=.ins C s.heap.objs.size []) (t':=s.toks) (fun b u q=>Heap.get?_push_of_some _ q) (Nat.le_of_eq (Heap.size_push _ _)) ?_
 have ne:s.heap.objs.size≠s.heap.objs.size+1:=Nat.ne_of_lt (Nat.lt_succ_self _)
 refine ⟨by rw [au ne,ah],Nat.zero_le _,ne,e2,fun _=>none,(Heap.Ns1.of_empty e3).at fun o q=>Heap.get?_push_of_some _ q,fun _=>True.intro,fun y hy=>absurd rfl hy⟩
theorem zd {prog:Program} {w:World} {env:Env} {e:Expr} {f:Str} {pos:Pos} {s:Shared} {Q:Value→Shared→Prop} (hb:attributeBase e f env (eval e env)=eval e env)
  (h:wpAny (model prog w) A (eval e env) (fun o s₁=>wpAny (model prog w) A (getAttr o f true) Q E s₁) E s):wpAny (model prog w) A (eval (.Attribute e f pos) env) Q E s :=
 Attribute_any_ h (by rw [arm_eval_Attribute,hb])
end
def Ds (K:PySem.W.Frag) (ta:TE) (f:Str):TE:=fun σ H Q=>ta σ H fun x H1=>∃ a C dx fs v,x=.ref a∧H1 a=some (.ins C dx fs)∧Cls K C∧NoAttr K C f∧fs.lookup f=some v∧Q v H1
def ER (K:PySem.W.Frag) (ta:TE) (f:Str):TE:=fun σ H Q=>ta σ H fun x H1=>∃ a C dx fs v u,x=.ref a∧H1 a=some (.ins C dx fs)∧Cls K C∧Con K C f v u∧fs.lookup f=none∧Q v H1
def DN (K:PySem.W.Frag) (ta tv:TE) (f:Str):TS:=fun D σ H=>tv σ H fun y H1=>ta σ H1 fun x H2=>∃ a C dx fs,x=.ref a∧H2 a=some (.ins C dx fs)∧Cls K C∧NoAttr K C f∧fs.length<1000∧
 D.nx σ (upd H2 a (.ins C dx (gv f y fs)))
def E9 (X:Cx) (op:Operator) (rd:V→V→Hp→VK→Prop):Prop :=
 ∀ (pins:List (Addr×Obj)) (s:Shared) (σ:St) (H:Hp) (x y:V) (u v:Value) (Q:VK),Inv X pins σ H s→RelV x u→RelV y v→rd x y H Q→wpAny (model X.prog X.w) X.A (inplaceOp op u v) (EP X pins σ Q) X.xe s
def Dd (K:PySem.W.Frag) (ta tv:TE) (rd:V→V→Hp→VK→Prop) (f:Str):TS:=fun D σ H=>ta σ H fun x H1=>∃ a C dx fs v,x=.ref a∧H1 a=some (.ins C dx fs)∧Cls K C∧NoAttr K C f∧fs.lookup f=some v∧
 tv σ H1 fun y H2=>rd v y H2 fun z H3=>∃ dx' fs',H3 a=some (.ins C dx' fs')∧fs'.length<1000∧D.nx σ (upd H3 a (.ins C dx' (gv f z fs')))
section
variable {X:Cx} {o e value:Expr} {f:Str} {pos pos' tpos:Pos} {ta tv:TE}
theorem iK (he:PE X e ta) (hb:attributeBase e f X.env (eval e X.env)=eval e X.env):PE X (.Attribute e f pos) (Ds X.K ta f):=by
 intro pins s σ H Q I h
 refine zd hb (thn (he pins s σ H _ I h) fun u s1 ⟨x,H1,I1,rx,a,C,dx,fs,v,ex,ea,c,n,l,q⟩=>?_)
 subst ex
 obtain rfl:u=Value.ref a:=rx
 exact qX I1 ea c n l fun u' s2 I2 ru=>⟨v,H1,I2,ru,q⟩
theorem qM (ha:PE X o ta) (hv:PE X value tv) (hs:swapsWith value (some (.Attribute o f pos')) pos.line X.env=pure false):PS X (.Assign [.Attribute o f pos'] value pos) (DN X.K ta tv f):=by
 intro pins s σ H D I h
 refine plainObj_wpAny_Assign_Attribute (thn (hv pins s σ H _ I h) fun u s1 ⟨y,H1,I1,ry,q⟩=>thn (ha pins s1 σ H1 _ I1 q) fun ov s2 ⟨x,H2,I2,rx,a,C,dx,fs,ex,ea,c,n,l,q2⟩=>?_) hs
 subst ex
 obtain rfl:ov=Value.ref a:=rx
 exact qH I2 ea c n l ry fun s3 I3=>⟨σ,_,I3,q2⟩
def ET:V→V→Hp→VK→Prop:=fun x y H Q=>∃ i j,x=.int i∧y=.int j∧Q (.int (i+j)) H
def E5:V→V→Hp→VK→Prop:=fun x y H Q=>∃ i j,x=.int i∧y=.int j∧Q (.int (i - j)) H
end
section
variable {X:Cx} {pins:List (Addr×Obj)} {σ:St} {H:Hp} {s:Shared} {A:Around} {E:Value→Shared→Prop} {Q:Value→Shared→Prop} {c:Value} {b:Bool}
inductive TyOf (K:PySem.W.Frag) (H:Hp):V→Value→Prop where
 | non:TyOf K H .non (.type "NoneType")
 | bl (x:Bool):TyOf K H (.bl x) (.type "bool")
 | int (i:Int):TyOf K H (.int i) (.type "int")
 | str (x:Str):TyOf K H (.str x) (.type "str")
 | flt (x:UInt64):TyOf K H (.flt x) (.type "float")
 | lst {a:Addr} {xs:List V} (e:H a=some (.lst xs)):TyOf K H (.ref a) (.type "list")
 | frz {a:Addr} {o:Obj} {xs:List V} (e:H a=some (.frz o (.lst xs))):TyOf K H (.ref a) (.type "list")
 | tup {a:Addr} {xs:List V} (e:H a=some (.tup xs)):TyOf K H (.ref a) (.type "tuple")
 | dK {a:Addr} {kvs:List (Key×V)} (e:H a=some (.dK kvs)):TyOf K H (.ref a) (.type "dict")
 | dT {a:Addr} {kvs:List (List Key×V)} (e:H a=some (.dT kvs)):TyOf K H (.ref a) (.type "dict")
 | ins {a C dx:Addr} {fs:List (Str×V)} (e:H a=some (.ins C dx fs)) (cl:Cls K C) (ha:PySem.W.findIn K (.ref C) "__class__"=some (some (.builtin "object.__class__")))
   (hn:PySem.W.specialIn K (.builtin "object.__class__") "__get__"=some (some (.builtin "getset_descriptor.__get__"))) (htk:PySem.W.takesIn K (.builtin "object.__class__")=some true)
   (hm:PySem.W.mroIn K C (.type "object")=some true):TyOf K H (.ref a) (.ref C)
theorem u6 {x:V} {u t:Value} (I:Inv X pins σ H s) (rx:RelV x u) (ty:TyOf X.K H x t) (e:PySem.W.kitOne X.K t c=some b) (h:∀ tk,Q (.bool b) { s with toks:=tk }) :
  wpAny (model X.prog X.w) A (call (.builtin "isinstance") [u,c]) Q E s:=by
 cases ty with
 | non=>cases (show u=Value.none from rx); exact PySem.W.kia_one PySem.W.kitx_none I.kIn True.intro e (fun z=>nomatch z) h
 | bl y=>cases (show u=Value.bool y from rx); exact PySem.W.kia_one PySem.W.kitx_bool I.kIn True.intro e (fun z=>nomatch z) h
 | int i=>obtain ⟨t,q⟩:=(show ∃ t,u=Value.int i t from rx); cases q; exact PySem.W.kia_one PySem.W.kitx_int I.kIn True.intro e (fun z=>nomatch z) h
 | str y=>obtain ⟨t,q⟩:=(show ∃ t,u=Value.str y t from rx); cases q; exact PySem.W.kia_one PySem.W.kitx_str I.kIn True.intro e (fun z=>nomatch z) h
 | flt y=>obtain ⟨t,q⟩:=(show ∃ t,u=Value.float y t from rx); cases q; exact PySem.W.kia_one PySem.W.kitx_float I.kIn True.intro e (fun z=>nomatch z) h
 | @lst a xs ea =>
  cases (show u=Value.ref a from rx)
  obtain ⟨_,_,n,_,h1⟩:=(show ObjOk X.prog X.w H s.heap a (.lst xs) from I.hok a _ ea)
  exact PySem.W.kia_one PySem.W.kitx_list I.kIn ⟨_,h1,rfl⟩ e (fun z=>nomatch z) h
 | @frz a ob xs ea =>
  cases (show u=Value.ref a from rx)
  obtain ⟨_,_,_,n,_,h1⟩:=(show ObjOk X.prog X.w H s.heap a (.frz ob (.lst xs)) from I.hok a _ ea)
  exact PySem.W.kia_one PySem.W.kitx_list I.kIn ⟨_,h1,rfl⟩ e (fun z=>nomatch z) h
 | @tup a xs ea =>
  cases (show u=Value.ref a from rx)
  obtain ⟨_,_,_,p⟩:=(show ObjOk X.prog X.w H s.heap a (.tup xs) from I.hok a _ ea)
  obtain ⟨o,h1,h2,_⟩:=p
  exact PySem.W.kia_one PySem.W.kitx_tuple I.kIn ⟨o,h1,h2⟩ e (fun z=>nomatch z) h
 | @dK a kvs ea =>
  cases (show u=Value.ref a from rx)
  obtain ⟨_,_,vs,_,p⟩:=(show ObjOk X.prog X.w H s.heap a (.dK kvs) from I.hok a _ ea)
  obtain ⟨o,es,ep,h1,h2,_⟩:=p
  exact PySem.W.kia_one PySem.W.kitx_dict I.kIn ⟨o,h1,h2.1⟩ e (fun z=>nomatch z) h
 | @dT a kvs ea =>
  cases (show u=Value.ref a from rx)
  obtain ⟨_,_,xs,_,o,es,ep,h1,h2,_⟩:=(show ObjOk X.prog X.w H s.heap a (.dT kvs) from I.hok a _ ea)
  exact PySem.W.kia_one PySem.W.kitx_dict I.kIn ⟨o,h1,h2.1⟩ e (fun z=>nomatch z) h
 | @ins a C dx fs ea cl ha hn htk hm =>
  cases (show u=Value.ref a from rx)
  obtain ⟨mA,O,_⟩:=ku I.hok ea
  obtain ⟨od,J,_⟩:=O.look
  exact PySem.W.kia_one (PySem.W.kitx_own (cl.get _) cl.hd ha hn htk hm) I.kIn J e (fun z=>nomatch z) h
end
end L2
namespace L2
open PySem PySem.Spec PyProof.Rows
structure Room (k:Nat) (A:Around):Prop where
 hd:A.handled=none
 dp:A.depth+3 * k+5<recursionLimit
 un:A.units+16 * k+200<cLine
theorem Room.mono {j k:Nat} {A:Around} (r:Room k A) (h:j≤k):Room j A:=⟨r.hd,by have:=r.dp; omega,by have:=r.un; omega⟩
theorem Room.deeper {k:Nat} {A:Around} (r:Room (k+1) A) (env:Env):Room k (A.deeper env) :=
 ⟨r.hd,by have:=r.dp; show A.depth+1+3 * k+5<_; omega,by have:=r.un; show A.units+3+16 * k+200<_; omega⟩
theorem rS {A:Around} {C:Addr} {us:List Value} {kw:List (Str×Value)}:(A.under (.builtin "type.__call__" ⟨.ref C::us,kw⟩)).depth=A.depth+1:=by
 first | rfl | simp [Around.under,Code.weight,Code.isCreation,Code.isGuard,Code.isCaller,Code.frames,Code.isFrame,guardIds]
theorem qW {A:Around} {C:Addr} {us:List Value} {kw:List (Str×Value)}:(A.under (.builtin "type.__call__" ⟨.ref C::us,kw⟩)).units=A.units+1:=by
 first | rfl | simp [Around.under,Code.cUnits,Code.frames,Code.isFrame]
theorem Room.make {k:Nat} {A:Around} (r:Room (k+1) A) (C:Addr) (us:List Value) (kw:List (Str×Value)):Room k (A.under (.builtin "type.__call__" ⟨.ref C::us,kw⟩)) :=
 ⟨r.hd,by have:=r.dp; rw [rS]; omega,by have:=r.un; rw [qW]; omega⟩
theorem Room.depth {k:Nat} {A:Around} (r:Room k A):A.depth<recursionLimit:=by have:=r.dp; omega
theorem Room.units {k:Nat} {A:Around} (r:Room k A):A.units+64<cLine:=by have:=r.un; omega
def CY:TA:=fun _ H Q=>Q [] H
def Cv (ta:TE) (tr:TA):TA:=fun σ H Q=>ta σ H fun x H1=>tr σ H1 fun xs H2=>Q (x::xs) H2
section
variable {X:Cx} {e:Expr} {es:List Expr} {te:TE} {t:TA} {pos:Pos}
theorem ae:PA X [] CY:=fun _ _ _ _ H Q I h=>Calls.spliced_nil ⟨[],H,I,.nil,h⟩
theorem aa (ha:PE X e te) (hr:PA X es t) (hs:starEach (e::es) X.env=(false,eval e X.env)::starEach es X.env:=by rfl):PA X (e::es) (Cv te t):=by
 intro pos pins s σ H Q I h
 rw [hs]
 show wpAny _ _ (spliced ((false,eval e X.env)::backTo pos (starEach es X.env))) _ _ s
 refine Calls.spliced_cons (thn (ha pins s σ H _ I h) fun u s1 ⟨x,H1,I1,r1,q1⟩=>?_)
 exact thn (hr pos pins s1 σ H1 _ I1 q1) fun us s2 ⟨xs,H2,I2,r2,q2⟩=>⟨x::xs,H2,I2,.cons r1 r2,q2⟩
def Ea (t:TA):TE:=fun σ H Q=>t σ H fun xs H1=>xs.length≤sizeLine∧∀ p,H1 p=none→Q (.ref p) (upd H1 p (.tup xs))
def DA (t:TA):TE:=fun σ H Q=>t σ H fun xs H1=>xs.length≤sizeLine∧∀ p,H1 p=none→Q (.ref p) (upd H1 p (.lst xs))
theorem dZ {x1} (h:PA X es t):PE X (.Tuple es x1 pos) (Ea t):=by
 intro pins s σ H Q I hq
 refine wpAny_Tuple_spliced (thn (h pos pins s σ H _ I hq) fun us s1 ⟨xs,H1,I1,r,z,q⟩=>⟨by rw [← r.length]; exact z,?_⟩)
 have hf:H1 s1.heap.objs.size=none:=I1.hok.fresh (Nat.le_refl _)
 refine ⟨.ref s1.heap.objs.size,upd H1 s1.heap.objs.size (.tup xs),I1.laid (t':=s1.toks) (fun b u e=>Heap.get?_push_of_some _ e) (Nat.le_refl _) ?_,rfl,q _ hf⟩
 exact ⟨z,us,r,⟨_,Heap.get?_push_size _ rfl,rfl,_,rfl⟩⟩
theorem cD (h:PA X es t):PE X (.List es pos) (DA t):=by
 intro pins s σ H Q I hq
 refine wpAny_List_spliced (thn (h pos pins s σ H _ I hq) fun us s1 ⟨xs,H1,I1,r,z,q⟩=>⟨by rw [← r.length]; exact z,?_⟩)
 have hf:H1 s1.heap.objs.size=none:=I1.hok.fresh (Nat.le_refl _)
 refine ⟨.ref s1.heap.objs.size,upd H1 s1.heap.objs.size (.lst xs),I1.laid (t':=s1.toks) (fun b u e=>Heap.get?_push_of_some _ e) (Nat.le_refl _) ?_,rfl,q _ hf⟩
 exact ⟨z,us,0,r,Heap.get?_push_size _ rfl⟩
end
abbrev Sp:=List V→Hp→VK→XK→Prop
abbrev CXT:=List Env→Hp→Shared→XK→Value→Shared→Prop
structure Env0 (P:Program) (w:World) (K:PySem.W.Frag) (mg:Str→Option Value) (base:Heap) (A:Around) (outer:List Env) (s:Shared) (H:Hp):Prop where
 frames:A.frames=some outer
 mod:Mod K mg base
 bs:∀ b o,base.get? b=some o→s.heap.get? b=some o∧H b=none
 bsz:base.objs.size≤s.heap.objs.size
 funs:s.heap.FunFrames base outer
 frf:∀ b∈frs outer,H b=none
 hok:HOk P w H s.heap
 bare:AllBare s.gens
def CE (outer:List Env) (P:Program) (w:World) (H:Hp) (s:Shared) (Q:VK) (u:Value) (s':Shared):Prop :=
 ∃ v H',s'.os=s.os∧AllBare s'.gens∧Un (frs outer) [] H H' s.heap s'.heap∧HOk P w H' s'.heap∧RelV v u∧Q v H'
def CR (CX:CXT) (outer:List Env) (P:Program) (w:World) (H:Hp) (s:Shared) (Q:VK) (E:XK) (r:Result) (s':Shared):Prop :=
 match r with
 | .ok (.ret u)=>CE outer P w H s Q u s'
 | .ok _=>False
 | .error e=>CX outer H s E e s'
structure FnOk (P:Program) (w:World) (K:PySem.W.Frag) (mg:Str→Option Value) (base:Heap) (CX:CXT) (k:Nat) (f:Addr) (fd:FuncData) (ps:List Str) (sp:Sp):Prop where
 len:∀ vs H Q E,sp vs H Q E→vs.length=ps.length
 run:∀ (A:Around) (outer:List Env) (s:Shared) (H:Hp) (args:Args) (us:List Value) (vs:List V) (Q:VK) (E:XK),Room k A→Env0 P w K mg base A outer s H→BindsTo s fd args (ps.zip us)→Vals vs us→sp vs H Q E→
  codeAny (model P w) A (.call (.ref f) args) (CR CX outer P w H s Q E) s
theorem Env0.make {P:Program} {w:World} {K:PySem.W.Frag} {mg:Str→Option Value} {base:Heap} {A:Around} {outer:List Env} {s:Shared} {H:Hp} (e:Env0 P w K mg base A outer s H) (C:Addr) (us:List Value) (kw:List (Str×Value)) :
  Env0 P w K mg base (A.under (.builtin "type.__call__" ⟨.ref C::us,kw⟩)) outer s H:=⟨by first | exact e.frames | (simpa [Around.under,Code.envs,Code.isFrame,pushEnvs] using e.frames),e.mod,e.bs,e.bsz,e.funs,e.frf,e.hok,e.bare⟩
section
variable {X:Cx} {pins:List (Addr×Obj)} {σ:St} {H:Hp} {s s':Shared}
theorem Inv.env0 (I:Inv X pins σ H s):Env0 X.prog X.w X.K X.mg X.base X.A X.stack s H :=
 ⟨I.ok.frames,I.ok.mod,I.bs,Nat.le_trans I.ok.bsz I.sz,I.stack,I.stkFree,I.hok,I.bare⟩
theorem Inv.after {Q:VK} {u:Value} (I:Inv X pins σ H s) (h:CE X.stack X.prog X.w H s Q u s'):EP X pins σ Q u s':=by
 obtain ⟨v,H',os,bare,un,hok,r,q⟩:=h
 obtain ⟨hh,g,d,t,os'⟩:=s'
 obtain rfl:os'=s.os:=os
 exact ⟨v,H',I.call (h':=hh) (g':=g) (d':=d) (t':=t) (ch:=[]) un hok bare (fun b z=>absurd z (by simp)),r,q⟩
end
def tH (sp:Sp) (dvs:List V) (E:XK) (t:TA):TE:=fun σ H Q=>t σ H fun vs H1=>sp (vs++dvs) H1 Q E
def El (C:Addr) (m:Str) (sp:Sp) (dvs:List V) (E:XK) (ta:TE) (t:TA):TE:=fun σ H Q=>ta σ H fun x H1=>∃ a dx fs,x=.ref a∧H1 a=some (.ins C dx fs)∧fs.lookup m=none∧
 t σ H1 fun vs H2=>sp (x::(vs++dvs)) H2 Q E
def AH (C:Addr) (sp:Sp) (dvs:List V) (E:XK) (t:TA):TE:=fun σ H Q=>t σ H fun vs H1=>∀ x dx,H1 x=none→H1 dx=none→dx≠x→
 sp (.ref x::(vs++dvs)) (upd (upd H1 dx (.own x)) x (.ins C dx [])) (fun v H2=>v=.non∧Q (.ref x) H2) E
def Binds (K:PySem.W.Frag) (fd:FuncData) (ps:List Str) (ds:List Value):Prop :=
 ∀ (s:Shared) (us:List Value),K.In s.heap→(us++ds).length=ps.length→BindsTo s fd ⟨us,[]⟩ (ps.zip (us++ds))
theorem Binds.all {K:PySem.W.Frag} {fd:FuncData} {ps:List Str} (h:∀ us:List Value,us.length=ps.length→bindArgs fd ⟨us,[]⟩=pure (ps.zip us)):Binds K fd ps []:=fun s us _ hl=>by
 rw [List.append_nil] at hl ⊢
 exact .of_eq (h us hl)
def Passes (CX:CXT) (X:Cx) (E:XK):Prop:=∀ (pins:List (Addr×Obj)) (σ:St) (H:Hp) (s:Shared) (e:Value) (s':Shared),Inv X pins σ H s→CX X.stack H s E e s'→X.xe e s'
section
variable {X:Cx} {CX:CXT} {k:Nat} {f C:Addr} {fd:FuncData} {ps:List Str} {sp:Sp} {dvs:List V} {ds:List Value} {E:XK} {x m:Str} {p pos apos:Pos} {e o:Expr} {es:List Expr} {ta:TE} {t:TA}
theorem qJ {pins:List (Addr×Obj)} {σ:St} {H:Hp} {s:Shared} {Q:VK} {us:List Value} {vs:List V} (F:FnOk X.prog X.w X.K X.mg X.base CX k f fd ps sp) (hr:Room k X.A) (hb:Binds X.K fd ps ds) (hd:Vals dvs ds) (hx:Passes CX X E)
  (I:Inv X pins σ H s) (r:Vals vs us) (h:sp (vs++dvs) H Q E):wpAny (model X.prog X.w) X.A (call (.ref f) us) (EP X pins σ Q) X.xe s:=by
 have r2:Vals (vs++dvs) (us++ds):=r.append hd
 have hl:(us++ds).length=ps.length:=by rw [← r2.length]; exact F.len _ _ _ _ h
 refine wpAny_call (codeAny_mono (F.run X.A X.stack s H ⟨us,[]⟩ (us++ds) (vs++dvs) Q E hr I.env0 (hb s us I.kIn hl) r2 h) fun r s' hq=>?_)
 cases r with
 | error e=>exact hx pins σ H s e s' I hq
 | ok fl =>
  cases fl with
  | ret u=>exact I.after hq
  | next=>exact False.elim hq
  | brk=>exact False.elim hq
  | cont=>exact False.elim hq
theorem sk (F:FnOk X.prog X.w X.K X.mg X.base CX k f fd ps sp) (hr:Room k X.A) (hg:Gl X x) (hm:X.mg x=some (.ref f)) (hk:PySem.W.keepIn X.K (.ref f)=true) (hb:Binds X.K fd ps ds) (hd:Vals dvs ds) (hx:Passes CX X E)
  (ha:PA X (e::es) t) (hdb:(x == ("__debug__":Str))=false:=by decide) (he:starEach (e::es) X.env=(false,eval e X.env)::starEach es X.env:=by rfl) (hpl:(backTo pos (starEach es X.env)).any (·.1)=false:=by rfl) :
  PE X (.Call (.Name x p) (e::es) [] pos) (tH sp dvs E t):=by
 intro pins s σ H Q I h
 refine wpAny_Call_Name_kw (eR I hg hm ?_ hdb)
 refine PySem.W.callWith_K (h₀:=X.base) I.ok.mod.kin hk (thn (ha pos pins s σ H _ I h) fun us s1 ⟨vs,H1,I1,r,q⟩=>⟨I1.kIn,?_⟩) he hpl
 exact qJ F hr hb hd hx I1 r q
structure Mk (K:PySem.W.Frag) (C f:Addr):Prop where
 makes:PySem.W.makesIn K C=true
 init:PySem.W.findIn K (.ref C) "__init__"=some (some (.ref f))
 fn:PySem.W.isFn K (.ref f)=true
 kp:PySem.W.keepIn K (.ref C)=true
theorem pQ {pins:List (Addr×Obj)} {σ:St} {H:Hp} {s:Shared} {Q:VK} {us:List Value} {vs:List V} (M:Mk X.K C f) (F:FnOk X.prog X.w X.K X.mg X.base CX k f fd ps sp) (hr:Room (k+1) X.A) (hb:Binds X.K fd ps ds) (hd:Vals dvs ds)
  (hx:Passes CX X E) (I:Inv X pins σ H s) (r:Vals vs us)
  (h:∀ x dx,H x=none→H dx=none→dx≠x→sp (.ref x::(vs++dvs)) (upd (upd H dx (.own x)) x (.ins C dx [])) (fun v H2=>v=.non∧Q (.ref x) H2) E) :
  wpAny (model X.prog X.w) X.A (call (.ref C) us) (EP X pins σ Q) X.xe s:=by
 have hq:=h (s.heap.objs.size+1) s.heap.objs.size (I.hok.fresh (Nat.le_succ _)) (I.hok.fresh (Nat.le_refl _)) (Nat.ne_of_lt (Nat.lt_succ_self _))
 have I2:=Inv.made (C:=C) I
 have r2:Vals (V.ref (s.heap.objs.size+1)::(vs++dvs)) (Value.ref (s.heap.objs.size+1)::(us++ds)):=.cons rfl (r.append hd)
 have hl:(Value.ref (s.heap.objs.size+1)::us++ds).length=ps.length:=by
  have e:=r2.length
  rw [F.len _ _ _ _ hq] at e
  exact e.symm
 refine wpAny_call (xh (f:=f) I.kIn M.makes M.init (beq_iff_eq.mp M.fn) (codeAny_mono (F.run _ X.stack _ _ ⟨Value.ref (s.heap.objs.size+1)::us,[]⟩ (Value.ref (s.heap.objs.size+1)::(us++ds)) _ _ E (hr.make C us [])
  (I2.env0.make C us []) (hb _ (Value.ref (s.heap.objs.size+1)::us) I2.kIn hl) r2 hq) fun r s' hq'=>?_))
 cases r with
 | error e=>exact hx pins σ _ _ e s' I2 hq'
 | ok fl =>
  cases fl with
  | ret u =>
   obtain ⟨v,H',I3,rv,ev,q3⟩:=I2.after hq'
   subst ev
   exact ⟨rv,⟨V.ref (s.heap.objs.size+1),H',I3,rfl,q3⟩⟩
  | next=>exact False.elim hq'
  | brk=>exact False.elim hq'
  | cont=>exact False.elim hq'
theorem ko (M:Mk X.K C f) (F:FnOk X.prog X.w X.K X.mg X.base CX k f fd ps sp) (hr:Room (k+1) X.A) (hg:Gl X x) (hm:X.mg x=some (.ref C)) (hb:Binds X.K fd ps ds) (hd:Vals dvs ds) (hx:Passes CX X E)
  (ha:PA X (e::es) t) (hdb:(x == ("__debug__":Str))=false:=by decide) (he:starEach (e::es) X.env=(false,eval e X.env)::starEach es X.env:=by rfl) (hpl:(backTo pos (starEach es X.env)).any (·.1)=false:=by rfl) :
  PE X (.Call (.Name x p) (e::es) [] pos) (AH C sp dvs E t):=by
 intro pins s σ H Q I h
 refine wpAny_Call_Name_kw (eR I hg hm ?_ hdb)
 refine PySem.W.callWith_K (h₀:=X.base) I.ok.mod.kin M.kp (thn (ha pos pins s σ H _ I h) fun us s1 ⟨vs,H1,I1,r,q⟩=>⟨I1.kIn,?_⟩) he hpl
 exact pQ M F hr hb hd hx I1 r q
theorem mq (M:Mk X.K C f) (F:FnOk X.prog X.w X.K X.mg X.base CX k f fd ps sp) (hr:Room (k+1) X.A) (hg:Gl X x) (hm:X.mg x=some (.ref C)) (hb:Binds X.K fd ps ds) (hd:Vals dvs ds) (hx:Passes CX X E)
  (hdb:(x == ("__debug__":Str))=false:=by decide):PE X (.Call (.Name x p) [] [] pos) (AH C sp dvs E CY):=by
 intro pins s σ H Q I h
 refine wpAny_Call_Name_kw (eR I hg hm ?_ hdb)
 exact PySem.W.callWith_K0 I.kIn M.kp (pQ (us:=[]) M F hr hb hd hx I .nil h)
end
def PK (X:Cx) (kws:List Keyword) (t:TA):Prop :=
 ∀ (pos:Pos) (pins:List (Addr×Obj)) (s:Shared) (σ:St) (H:Hp) (Q:List V→Hp→Prop),Inv X pins σ H s→t σ H Q→wpAny (model X.prog X.w) X.A (evalAll ((backToKw pos (keywordEach kws X.env)).map (·.2))) (AP X pins σ Q) X.xe s
section
variable {X:Cx} {CX:CXT} {k:Nat} {f C:Addr} {fd:FuncData} {ps ks:List Str} {sp:Sp} {E:XK} {x m:Str} {p pos apos kpos:Pos} {e o:Expr} {es:List Expr} {kws:List Keyword} {te ta:TE} {t tk:TA} {nm:Option Str}
structure KBinds (K:PySem.W.Frag) (fd:FuncData) (ps ks:List Str) (g:List Value→List Value→List Value) (gV:List V→List V→List V):Prop where
 to:∀ (s:Shared) (us ws:List Value),K.In s.heap→(g us ws).length=ps.length→BindsTo s fd ⟨us,ks.zip ws⟩ (ps.zip (g us ws))
 rel:∀ {vs:List V} {us:List Value} {zs:List V} {ws:List Value},Vals vs us→Vals zs ws→Vals (gV vs zs) (g us ws)
def D5 (sp:Sp) (gV:List V→List V→List V) (E:XK) (t tk:TA):TE:=fun σ H Q=>t σ H fun vs H1=>tk σ H1 fun zs H2=>sp (gV vs zs) H2 Q E
variable {g:List Value→List Value→List Value} {gV:List V→List V→List V}
end
structure FnScope (N P:List Str) (sc:Scope):Prop where
 kind:sc.kind=.function
 co:sc.isCoroutine=false
 gen:sc.isGenerator=false
 nd:N.Nodup
 pre:N.take P.length=P
 par:∀ x∈P,sc.names.lookup x=some .local∨sc.names.lookup x=some .cell
 nofree:∀ y∈sc.names,y.2≠.free
theorem nj {kindOf:Str→Option NameKind} {x:Str}:∀ {binds:List (Str×Value)} {m:Str→Option Value},(∀ v,(x,v)∉binds)→bindL kindOf binds m x=m x
 | [],_,_=>rfl
 | (n,v)::r,m,h=>by
  unfold bindL
  rw [nj fun w hw=>h w (List.mem_cons_of_mem _ hw)]
  split
  ·have:x≠n:=by rintro rfl; exact h v List.mem_cons_self
   simp [this]
  ·rfl
theorem m5 {kindOf:Str→Option NameKind} {x:Str}:∀ {binds:List (Str×Value)} {m:Str→Option Value},(∀ v,(x,v)∉binds)→bindC kindOf binds m x=m x
 | [],_,_=>rfl
 | (n,v)::r,m,h=>by
  unfold bindC
  rw [m5 fun w hw=>h w (List.mem_cons_of_mem _ hw)]
  split
  ·rfl
  ·have:x≠n:=by rintro rfl; exact h v List.mem_cons_self
   simp [this]
theorem m3 {kindOf:Str→Option NameKind} {x:Str} {v:Value}:∀ {P:List Str} {vs:List Value} {i:Nat} {m:Str→Option Value},P.Nodup→P[i]?=some x→vs[i]?=some v→kindOf x=some .local→
  bindL kindOf (P.zip vs) m x=some v
 | [],_,_,_,_,h,_,_=>by simp at h
 | _::_,[],_,_,_,_,h,_=>by simp at h
 | p::P,w::vs,0,m,nd,h1,h2,hk=>by
  simp at h1 h2; subst h1; subst h2
  show bindL kindOf ((p,w)::P.zip vs) m p=_
  unfold bindL
  rw [nj fun v hv=>(List.nodup_cons.mp nd).1 (List.of_mem_zip hv).1,if_pos hk]
  simp
 | p::P,w::vs,i+1,m,nd,h1,h2,hk=>by
  show bindL kindOf ((p,w)::P.zip vs) m x=_
  unfold bindL
  exact m3 (i:=i) (List.nodup_cons.mp nd).2 (by simpa using h1) (by simpa using h2) hk
theorem nz {kindOf:Str→Option NameKind} {x:Str} {v:Value}:∀ {P:List Str} {vs:List Value} {i:Nat} {m:Str→Option Value},P.Nodup→P[i]?=some x→vs[i]?=some v→kindOf x≠some .local→
  bindC kindOf (P.zip vs) m x=some v
 | [],_,_,_,_,h,_,_=>by simp at h
 | _::_,[],_,_,_,_,h,_=>by simp at h
 | p::P,w::vs,0,m,nd,h1,h2,hk=>by
  simp at h1 h2; subst h1; subst h2
  show bindC kindOf ((p,w)::P.zip vs) m p=_
  unfold bindC
  rw [m5 fun v hv=>(List.nodup_cons.mp nd).1 (List.of_mem_zip hv).1,if_neg hk]
  simp
 | p::P,w::vs,i+1,m,nd,h1,h2,hk=>by
  show bindC kindOf ((p,w)::P.zip vs) m x=_
  unfold bindC
  exact nz (i:=i) (List.nodup_cons.mp nd).2 (by simpa using h1) (by simpa using h2) hk
def start (N:List Str) (vs:List V):St:=vs.map some++List.replicate (N.length - vs.length) none
def fJ (CX:CXT) (P:Program) (w:World) (K:PySem.W.Frag) (mg:Str→Option Value) (base:Heap) (N:List Str) (qual:Str) (scope:Scope) (f:Addr) (cd:Value) (A:Around) (outer:List Env) (s:Shared) (H:Hp) (E:XK):Cx where
 prog:=P
 w:=w
 K:=K
 mg:=mg
 base:=base
 A:=A.deeper (envOfC qual scope s.heap.objs.size f cd)
 N:=N
 s₀:=s
 H₀:=H
 env:=envOfC qual scope s.heap.objs.size f cd
 outer:=outer
 stack:=envOfC qual scope s.heap.objs.size f cd::outer
 ex:=[]
 calm:=true
 fn:=fun _=>true
 pn:=[]
 xe:=fun e s'=>wpAny (model P w) (A.deeper (envOfC qual scope s.heap.objs.size f cd)) (leaving (envOfC qual scope s.heap.objs.size f cd) e) (fun _ s''=>CX outer H s E e s'') (fun e' s''=>CX outer H s E e' s'') s'
theorem l7 {sc:Scope} {n:Nat} {x:Str} (h:sc.names.lookup x=some .cell):∃ c,(cellsFrom n sc.names []).lookup x=some c:=by
 have q:=PySem.W.cellsFrom_some sc.names n [] (.inl h)
 exact Option.isSome_iff_exists.mp q
theorem uv {CX:CXT} {P:Program} {w:World} {K:PySem.W.Frag} {mg:Str→Option Value} {base:Heap} {N ps:List Str} {qual:Str} {scope:Scope} {f:Addr} {cd:Value} {A:Around} {outer:List Env} {s s1:Shared} {H:Hp} {E:XK} {us:List Value} {vs:List V}
  (S:FnScope N ps scope) (hd:A.handled=none) (e0:Env0 P w K mg base A outer s H) (hl:vs.length=ps.length) (r:Vals vs us)
  (x:InCallC s s.heap.objs.size (bindL (envOfC qual scope s.heap.objs.size f cd).kindOf (ps.zip us) fun _=>none) (cellsFrom (s.heap.objs.size+1) scope.names []) (bindC (envOfC qual scope s.heap.objs.size f cd).kindOf (ps.zip us) fun _=>none) s1) :
  Inv (fJ CX P w K mg base N qual scope f cd A outer s H E) [] (start N vs) H s1:=by
 have hpl:ps.length≤N.length:=by have:=congrArg List.length S.pre; rw [List.length_take] at this; omega
 obtain ⟨h1,tk,rfl,hk⟩:=x.done
 have noA:∀ b:Addr,b∉(fJ CX P w K mg base N qual scope f cd A outer s H E).ex:=fun b z=>absurd (show b∈([]:List Addr) from z) (by simp)
 refine ⟨⟨e0.mod,S.kind,rfl,rfl,Nat.le_refl _,fun y z c h1 h2=>?_,fun y hy=>?_,fun y c _ h=>?_,fun _=>hd,Around.frames_deeper e0.frames,.inr ⟨rfl,rfl⟩,fun b z=>absurd z (noA b),e0.bs,e0.bsz,fun b _ _=>noA b,fun b z=>absurd z (noA b),e0.funs,e0.frf⟩,
  rfl,e0.bare,Un.kept hk,⟨_,x.toInCall.ns,fun i y v h1 h2 h3=>?_⟩,fun y c h=>⟨_,x.cell y c h⟩,e0.hok.fresh (Nat.le_refl _),fun y c h=>?_,fun p hp=>absurd (show p∈([]:List (Addr×Obj)) from hp) (by simp),e0.hok.kept hk,?_⟩
 ·exact name_of_addr x.apart (PySem.mem_of_lookup h1) (PySem.mem_of_lookup h2)
 ·have hy:scope.names.lookup y=some .cell∨scope.names.lookup y=some .free:=hy
  rcases hy with hy | hy
  ·exact l7 hy
  ·exact absurd rfl (S.nofree _ (PySem.mem_of_lookup hy))
 ·exact Nat.le_of_lt (x.above y c (PySem.mem_of_lookup h))
 ·have hi:i<vs.length:=by
   unfold start at h2
   by_cases hi:i<vs.length
   ·exact hi
   ·rw [List.getElem?_append_right (by simpa using hi)] at h2
    rw [List.getElem?_replicate] at h2
    split at h2 <;> cases h2
  have ha:vs[i]?=some v:=by
   unfold start at h2
   rw [List.getElem?_append_left (by simpa using hi),List.getElem?_map] at h2
   cases e:vs[i]? with
   | none=>rw [e] at h2; cases h2
   | some a=>rw [e] at h2; cases h2; rfl
  obtain ⟨u,hu,rv⟩:=r.get ha
  have hp:ps[i]?=some y:=by
   rw [← S.pre,List.getElem?_take_of_lt (by omega)]; exact h1
  have ndP:ps.Nodup:=by rw [← S.pre]; exact S.nd.sublist (List.take_sublist _ _)
  refine ⟨u,rv,?_⟩
  rcases S.par y (List.mem_of_getElem? hp) with k | k
  ·exact .inl ⟨k,m3 ndP hp hu k⟩
  ·obtain ⟨c,e⟩:=l7 (n:=s.heap.objs.size+1) k
   refine .inr ⟨.inl k,c,e,?_⟩
   have q:=x.cell y c e
   rw [nz ndP hp hu (by show scope.names.lookup y≠_; rw [k]; decide)] at q
   exact q
 ·exact e0.hok.fresh (Nat.le_of_lt (x.above y c (PySem.mem_of_lookup h)))
 ·unfold start
  show _=N.length
  rw [List.length_append,List.length_map,List.length_replicate]
  omega
theorem Am {CX:CXT} {P:Program} {w:World} {K:PySem.W.Frag} {mg:Str→Option Value} {base:Heap} {k:Nat} {f:Addr} {name qual:Str} {params:Arguments} {body:List Stmt} {scope:Scope} {dV kV doc pm cdv ct oc:Value} {an od:Option Addr}
  {osl:Array (Option Value)} {N ps:List Str} {sp:Sp} (lk:K.lookup f=some ⟨oc,od,.func (PySem.W.fnOf name qual params body scope dV kV doc pm an cdv ct),osl⟩) (hcd:PySem.W.codeIn K cdv qual=true) (S:FnScope N ps scope)
  (len:∀ vs H Q E,sp vs H Q E→vs.length=ps.length)
  (hbody:∀ (A:Around) (outer:List Env) (s:Shared) (H:Hp) (vs:List V) (Q:VK) (E:XK),Room k (A.deeper (envOfC qual scope s.heap.objs.size f cdv))→sp vs H Q E→
   ∃ t,PSs (fJ CX P w K mg base N qual scope f cdv A outer s H E) body t∧t { nx:=fun _ H'=>Q .non H',rt:=Q } (start N vs) H) :
  FnOk P w K mg base CX (k+1) f (PySem.W.fnOf name qual params body scope dV kV doc pm an cdv ct) ps sp:=by
 refine ⟨len,fun A outer s H args us vs Q E hr e0 hb r hsp=>?_⟩
 have hl:=len _ _ _ _ hsp
 have KX:K.In s.heap:=e0.mod.kin.keeps fun b o e=>(e0.bs b o e).1
 have lim:s.heap.NoLimit:=e0.mod.nolimit.keeps fun b o e=>(e0.bs b o e).1
 have hkind:∀ y∈ps.zip us,scope.names.lookup y.1=some .local∨(scope.names.lookup y.1=some .cell∧((cellsFrom (s.heap.objs.size+1) scope.names []).lookup y.1).isSome=true):=fun ⟨n,v⟩ hy=>by
  rcases S.par n (List.of_mem_zip hy).1 with q | q
  ·exact .inl q
  ·exact .inr ⟨q,PySem.W.cellsFrom_some _ _ _ (.inl q)⟩
 refine codeAny_call_function hr.depth (KX _ _ lk) rfl S.co S.gen rfl (PySem.W.codeRec_of KX hcd) (hb _ _ _ _ ?_)
 refine wpAny_newFunctionEnv_cells S.kind hkind fun env he s1 x=>?_
 subst he
 refine ⟨lim.keeps x.toInCall.keep,codeAny_func ?_⟩
 obtain ⟨t,ht,hq⟩:=hbody A outer s H vs Q E (hr.deeper _) hsp
 have I:Inv (fJ CX P w K mg base N qual scope f cdv A outer s H E) [] (start N vs) H s1:=uv S hr.hd e0 hl r x
 refine wpAny_mono (ht [] s1 (start N vs) H _ I hq) (fun fl s' hs=>?_) fun e s' hs=>hs
 have fin:∀ {σ':St} {H':Hp} {v:V} {u:Value},Inv (fJ CX P w K mg base N qual scope f cdv A outer s H E) [] σ' H' s'→RelV v u→Q v H'→CE outer P w H s Q u s' :=
  fun {σ' H' v u} J rv q=>⟨v,H',J.os,J.bare,J.base,J.hok,rv,q⟩
 cases fl with
 | ret u =>
  obtain ⟨v,σ',H',J,rv,q⟩:=hs
  exact fin J rv q
 | next =>
  obtain ⟨σ',H',J,q⟩:=hs
  exact fin (v:=V.non) (u:=Value.none) J rfl q
 | brk =>
  obtain ⟨_,_,_,q⟩:=hs
  exact False.elim q
 | cont =>
  obtain ⟨_,_,_,q⟩:=hs
  exact False.elim q
end L2
namespace L2
open PySem PySem.Spec PyProof.Rows
section
variable {X:Cx} {x:Str} {p pos:Pos} {e:Expr} {es:List Expr} {t:TA} {id T:String} {r:List V→Hp→VK→Prop}
def tCB (r:List V→Hp→VK→Prop) (t:TA):TE:=fun σ H Q=>t σ H fun vs H1=>r vs H1 Q
theorem ay (hc:cW X (.builtin id) r) (hg:Gl X x) (hm:X.mg x=none) (hv:bootBuiltins x=some (.builtin id)) (ha:PA X (e::es) t) (hn:x≠"__name__":=by decide) (hdb:(x == ("__debug__":Str))=false:=by decide)
  (he:starEach (e::es) X.env=(false,eval e X.env)::starEach es X.env:=by rfl) (hpl:(backTo pos (starEach es X.env)).any (·.1)=false:=by rfl):PE X (.Call (.Name x p) (e::es) [] pos) (tCB r t):=by
 intro pins s σ H Q I h
 refine wpAny_Call_Name_kw (fL I hg hm hv ?_ hn hdb)
 exact PyProof.Rows.callWith_builtin1 (thn (ha pos pins s σ H _ I h) fun us s1 ⟨vs,H1,I1,r1,q1⟩=>hc pins s1 σ H1 vs us Q I1 r1 q1) he hpl
theorem aX (hc:cW X (.type T) r) (hg:Gl X x) (hm:X.mg x=none) (hv:bootBuiltins x=some (.type T)) (ha:PA X (e::es) t) (hn:x≠"__name__":=by decide) (hdb:(x == ("__debug__":Str))=false:=by decide)
  (he:starEach (e::es) X.env=(false,eval e X.env)::starEach es X.env:=by rfl) (hpl:(backTo pos (starEach es X.env)).any (·.1)=false:=by rfl):PE X (.Call (.Name x p) (e::es) [] pos) (tCB r t):=by
 intro pins s σ H Q I h
 refine wpAny_Call_Name_kw (fL I hg hm hv ?_ hn hdb)
 exact PyProof.Rows.callWith_type1 (thn (ha pos pins s σ H _ I h) fun us s1 ⟨vs,H1,I1,r1,q1⟩=>hc pins s1 σ H1 vs us Q I1 r1 q1) he hpl
end
end L2
namespace HT
open PySem PyProof.Rows
def lexLt:List Int→List Int→Bool
 | [],[]=>false
 | [],_::_=>true
 | _::_,[]=>false
 | x::xs,y::ys=>if x=y then lexLt xs ys else decide (x<y)
section
open PySem.SeqAt
open PySem.AutoSeq1 (wpAny_loadPart')
open PySem.MeetsSeq PySem.MeetsSeq2 PySem.MeetsSeq3
end
section
variable {prog:Program} {w:World} {A:Around} {E:Value→Shared→Prop} {s:Shared}
theorem y4 {t b:Addr} {vs ws:List Value} {Q:Value→Shared→Prop} (ht:IsTup s.heap t vs.toArray) (hb:IsTup s.heap b ws.toArray) (hv:vs≠[])
  (h1:ws=[]→Q (.ref t) s) (h2:ws≠[]→Q (.ref s.heap.objs.size) { s with heap:=s.heap.push { cls:=.type "tuple",data:=.seq (vs++ws).toArray } })
  (hsz:vs.length+ws.length≤sizeLine):wpAny (model prog w) A (binaryOp .Add (.ref t) (.ref b)) Q E s:=by
 obtain ⟨⟨cls,dd,data,sl⟩,ho,hc,n,hd⟩:=id ht
 obtain ⟨⟨cls2,dd2,data2,sl2⟩,ho2,hc2,n2,hd2⟩:=id hb
 simp only at hc hd hc2 hd2
 subst hc hd hc2 hd2
 have e:vs.toArray++ws.toArray=(vs++ws).toArray:=by simp
 by_cases hw:ws=[]
 ·exact concat_meets ⟨_,ho,rfl⟩ ⟨_,ho2,rfl⟩ noFill_tuple_add seq_tuple_add PySem.F.slot_tuple_add PySem.F.entry_tuple_add (PySem.F.args_tuple_add_2 _ _)
   (tuple_addW1 t b vs.toArray ws.toArray n n2 dd dd2 sl sl2 (by simpa using hv) (by simp [hw])) ⟨ho,ho2,h1 hw⟩
 ·refine concat_meets ⟨_,ho,rfl⟩ ⟨_,ho2,rfl⟩ noFill_tuple_add seq_tuple_add PySem.F.slot_tuple_add PySem.F.entry_tuple_add (PySem.F.args_tuple_add_2 _ _)
   (tuple_addW2 t b vs.toArray ws.toArray n n2 dd dd2 sl sl2 (by simpa using hv) (by simpa using hw) (by rw [List.size_toArray,List.size_toArray]; exact hsz)) ⟨ho,ho2,?_⟩
  rw [e]
  exact h2 hw
def sIx (n d:Nat):Option Int→Nat
 | none=>d
 | some v=>if v<0 then (v+(n:Int)).toNat else min v.toNat n
theorem fD (n d:Nat):sIx n d none=d:=rfl
theorem i5 (n d k:Nat):sIx n d (some (k:Int))=min k n:=by
 show (if (k:Int)<0 then ((k:Int)+(n:Int)).toNat else min (k:Int).toNat n)=min k n
 rw [if_neg (by omega),Int.toNat_natCast]
theorem xG (n d:Nat) (hd:d≤n) (o:Option Int):sIx n d o≤n:=by
 cases o with
 | none=>exact hd
 | some v =>
  show (if v<0 then (v+(n:Int)).toNat else min v.toNat n)≤n
  by_cases hv:v<0
  ·rw [if_pos hv]; omega
  ·rw [if_neg hv]; exact Nat.min_le_right _ _
theorem sR (v:Int) (n d:Nat):(if v<0 then max (v+(n:Int)) 0 else min v (n:Int))=((sIx n d (some v):Nat):Int):=by
 show (if v<0 then max (v+(n:Int)) 0 else min v (n:Int))=(((if v<0 then (v+(n:Int)).toNat else min v.toNat n):Nat):Int)
 by_cases hv:v<0
 ·simp only [if_pos hv]; omega
 ·simp only [if_neg hv]; omega
theorem rN (lo hi:Option Int) (n:Nat):Builtin.Slice.sliceAdjust lo hi 1 (n:Int)=(((sIx n 0 lo:Nat):Int),((sIx n n hi:Nat):Int)):=by
 have h1:¬ ((1:Int)<0):=by omega
 unfold Builtin.Slice.sliceAdjust
 simp only [h1,if_false]
 refine Prod.ext ?_ ?_
 ·cases lo with
  | none=>rfl
  | some v=>exact sR v n 0
 ·cases hi with
  | none=>rfl
  | some v=>exact sR v n n
theorem qE (i j:Nat):Builtin.Slice.slicePlaces (i:Int) (j:Int) 1=j - i:=by
 unfold Builtin.Slice.slicePlaces
 have h1:(1:Int) > 0:=by omega
 simp only [h1,if_true,Int.ediv_one]
 split <;> omega
theorem k8 {v:Value} {o:Option Int} {Q:Option Int→Shared→Prop} (p:IsPart v o) (h:Q o s):wpAny (model prog w) A (Builtin.Slice.slicePartIndex v) Q E s:=by
 cases p with
 | none=>exact slicePart_none h
 | int i t=>exact slicePart_int h
theorem fq {sl:Addr} {vl vu:Value} {lo hi:Option Int} {n:Nat} {Q:Int×Int×Nat→Shared→Prop} (hs:s.heap.IsSliceOf sl vl vu .none) (pl:IsPart vl lo) (pu:IsPart vu hi)
  (h:Q (((sIx n 0 lo:Nat):Int),1,sIx n n hi - sIx n 0 lo) s):wpAny (model prog w) A (Builtin.Slice.sliceApplied (.ref sl) (pure (n:Int))) Q E s:=by
 obtain ⟨os,hos,hcs,hds⟩:=id hs
 unfold Builtin.Slice.sliceApplied Builtin.Slice.sliceFields
 refine wpAny_bind (wpAny_bind (wpAny_field hos hds (x:=vl) rfl (wpAny_bind (wpAny_field hos hds (x:=vu) rfl (wpAny_bind (wpAny_field hos hds (x:=.none) rfl (wpAny_pure ?_)))))))
 refine wpAny_bind (slicePart_none ?_)
 show wpAny _ _ (if ((1:Int) == 0)=true then _ else _) _ _ s
 rw [if_neg (by decide)]
 refine wpAny_bind (k8 pl (wpAny_bind (k8 pu (wpAny_bind (wpAny_pure ?_)))))
 show wpAny _ _ (match Builtin.Slice.sliceAdjust lo hi 1 (n:Int) with | (lo,hi)=>pure (lo,(1:Int),Builtin.Slice.slicePlaces lo hi 1)) _ _ s
 rw [rN lo hi n]
 show wpAny _ _ (pure (((sIx n 0 lo:Nat):Int),(1:Int),Builtin.Slice.slicePlaces ((sIx n 0 lo:Nat):Int) ((sIx n n hi:Nat):Int) 1)) _ _ s
 rw [qE]
 exact wpAny_pure h
theorem yH (xs:Array Value) (i k:Nat):((List.range k).filterMap fun (m:Nat)=>xs[((i:Int)+(m:Int) * 1).toNat]?).toArray=((xs.toList.drop i).take k).toArray:=by
 have e:(fun (m:Nat)=>xs[((i:Int)+(m:Int) * 1).toNat]?)=fun m=>xs[i+m]?:=by
  funext m
  have:((i:Int)+(m:Int) * 1).toNat=i+m:=by omega
  rw [this]
 rw [e]
 have:=pick_run xs i k
 rw [List.filterMap_map] at this
 have e2:((fun x=>xs[x]?) ∘ fun x=>i+x)=fun m=>xs[i+m]?:=rfl
 rw [e2] at this
 rw [this]
theorem iP {t sl:Addr} {items:Array Value} {vl vu:Value} {lo hi:Option Int} {Q:Value→Shared→Prop} (ht:IsTup s.heap t items) (hs:s.heap.IsSliceOf sl vl vu .none) (pl:IsPart vl lo) (pu:IsPart vu hi)
  (hw:¬ (sIx items.size 0 lo=0∧sIx items.size items.size hi=items.size))
  (h:Q (.ref s.heap.objs.size) { s with heap:=s.heap.push { cls:=.type "tuple",data:=.seq ((items.toList.drop (sIx items.size 0 lo)).take (sIx items.size items.size hi - sIx items.size 0 lo)).toArray } })
  (hsz:items.size≤sizeLine):wpAny (model prog w) A (getItem (.ref t) (.ref sl)) Q E s:=by
 have htake:sizeOk (.seq ((items.toList.drop (sIx items.size 0 lo)).take (sIx items.size items.size hi - sIx items.size 0 lo)).toArray):=by
  show ((items.toList.drop (sIx items.size 0 lo)).take (sIx items.size items.size hi - sIx items.size 0 lo)).toArray.size≤sizeLine
  rw [List.size_toArray,List.length_take,List.length_drop,Array.length_toList]
  omega
 have hj:sIx items.size items.size hi≤items.size:=xG _ _ (Nat.le_refl _) hi
 obtain ⟨os,hos,hcs,hds⟩:=id hs
 have hTs:s.TypeIs (.ref sl) "slice":=⟨os,hos,hcs⟩
 unfold getItem
 try with_reducible refine wpAny_holding ?_
 first | refine wpAny_bind (wpAny_pure ?_) | skip
 refine wpAny_bind (wpAny_sequenceKey ht.typeIs (by decide) ?_)
 refine wpAny_bind (wpAny_callSpecial?_slot (name:=Str.ofString "__getitem__") ht.typeIs PyProof.Rows.slot_tuple_getitem
  (wpAny_call_entry PyProof.Rows.slot_tuple_getitem ht.typeIs entry_tuple_getitem ?_ (args_tuple_getitem _ _)))
 show wpAny _ _ (Builtin.Tuple.tupleItemsOf (.ref t) >>= _) _ _ s
 refine wpAny_bind (tupleItemsOf_ ht ?_)
 refine wpAny_bind (wpAny_typeOf hTs ?_)
 rw [if_pos (by decide)]
 refine wpAny_bind (fq hs pl pu ?_)
 have hno:¬ ((((sIx items.size 0 lo:Nat):Int) == 0 && (1:Int) == 1 && (sIx items.size items.size hi - sIx items.size 0 lo) == items.size)=true):=by
  intro q
  rw [Bool.and_eq_true,Bool.and_eq_true] at q
  have q1:((sIx items.size 0 lo:Nat):Int)=0:=eq_of_beq q.1.1
  have q2:sIx items.size items.size hi - sIx items.size 0 lo=items.size:=eq_of_beq q.2
  exact hw ⟨by omega,by omega⟩
 show wpAny _ _ (if (((sIx items.size 0 lo:Nat):Int) == 0 && (1:Int) == 1 && (sIx items.size items.size hi - sIx items.size 0 lo) == items.size)=true then _ else _) _ _ s
 rw [if_neg hno,yH]
 first
  | exact wpAny_bind (m:=Builtin.Tuple.tupleExact _) (wpAny_newObj_type (wpAny_pure ⟨_,rfl,wpAny_pure h⟩) htake)
  | exact wpAny_bind (m:=Builtin.Tuple.tupleExact _) (wpAny_newObj_type (wpAny_bind (wpAny_pure (wpAny_pure ⟨_,rfl,wpAny_pure h⟩))) htake)
  | exact wpAny_bind (wpAny_bind (m:=Builtin.Tuple.tupleExact _) (wpAny_newObj_type (wpAny_pure (wpAny_pure ⟨_,rfl,wpAny_pure h⟩)) htake))
  | exact wpAny_bind (wpAny_bind (m:=Builtin.Tuple.tupleExact _) (wpAny_newObj_type (wpAny_pure ⟨_,rfl,wpAny_pure h⟩) htake))
end
end HT
namespace L2
open PySem PySem.Spec PyProof.Rows
abbrev TO:=St→Hp→(Option Int→Hp→Prop)→Prop
def PO (X:Cx) (e:Option Expr) (t:TO):Prop :=
 ∀ (pins:List (Addr×Obj)) (s:Shared) (σ:St) (H:Hp) (Q:Option Int→Hp→Prop),Inv X pins σ H s→t σ H Q→
  wpAny (model X.prog X.w) X.A (evalPart e X.env) (fun u s'=>∃ o H',Inv X pins σ H' s'∧IsPart u o∧Q o H') X.xe s
def zv:TO:=fun _ H Q=>Q none H
def CD (t:TE):TO:=fun σ H Q=>t σ H fun x H1=>∃ i,x=.int i∧Q (some i) H1
theorem intsAre_of {ns:List Int}:∀ {us:List Value},Vals (ns.map V.int) us→IntsAre us ns:=by
 induction ns with
 | nil=>intro us r; rw [List.map_nil] at r; cases r; exact .nil
 | cons n ns ih =>
  intro us r
  rw [List.map_cons] at r
  cases r with
  | cons r1 r2 =>
   obtain ⟨t,e⟩:=r1
   subst e
   exact .cons n t (ih r2)
section
variable {X:Cx} {e:Expr} {te:TE} {lo hi:Option Expr} {tl th:TO} {pos p2:Pos}
theorem gg:PO X none zv:=by
 intro pins s σ H Q I h
 rw [evalPart_none]
 exact wpAny_pure ⟨none,H,I,.none,h⟩
theorem fK (h:PE X e te):PO X (some e) (CD te):=by
 intro pins s σ H Q I hw
 rw [evalPart_some]
 refine thn (h pins s σ H _ I hw) fun u s1 ⟨x,H1,I1,r1,q1⟩=>?_
 obtain ⟨i,rfl,q⟩:=q1
 obtain ⟨t,rfl⟩:=r1
 exact ⟨some i,H1,I1,.int i t,q⟩
def SlR (X:Cx) (r:V→Option Int→Option Int→Hp→VK→Prop):Prop :=
 ∀ (pins:List (Addr×Obj)) (s:Shared) (σ:St) (H:Hp) (x:V) (v vl vu:Value) (lo hi:Option Int) (sl:Addr) (Q:VK),Inv X pins σ H s→RelV x v→s.heap.IsSliceOf sl vl vu .none→IsPart vl lo→IsPart vu hi→r x lo hi H Q→
  ∃ T id,typeLookup (.type T) "__getitem__"=pure (some (.builtin id))∧s.TypeIs v T∧wpAny (model X.prog X.w) X.A (getItem v (.ref sl)) (EP X pins σ Q) X.xe s
def tSl (r:V→Option Int→Option Int→Hp→VK→Prop) (te:TE) (tl th:TO):TE:=fun σ H Q=>te σ H fun x H1=>tl σ H1 fun l H2=>th σ H2 fun u H3=>r x l u H3 Q
theorem eI {r:V→Option Int→Option Int→Hp→VK→Prop} (hr:SlR X r) (he:PE X e te) (hl:PO X lo tl) (hu:PO X hi th):PE X (.Subscript e (.Slice lo hi none p2) pos) (tSl r te tl th):=by
 intro pins s σ H Q I h
 refine Subscript_ (thn (he pins s σ H _ I h) fun v s1 ⟨x,H1,I1,r1,q1⟩=>?_)
 refine wpAny_Slice (thn (hl pins s1 σ H1 _ I1 q1) fun vl s2 ⟨l,H2,I2,pl,q2⟩=>thn (hu pins s2 σ H2 _ I2 q2) fun vu s3 ⟨u,H3,I3,pu,q3⟩=>?_)
 rw [evalPart_none]
 refine wpAny_pure ?_
 have I4:Inv X pins σ H3 { s3 with heap:=s3.heap.push { cls:=.type "slice",data:=.fields #[vl,vu,.none] } }:=I3.kept (t':=s3.toks) fun b ob q=>Heap.get?_push_of_some _ q
 obtain ⟨T,id,hT,ht,hg⟩:=hr pins { s3 with heap:=s3.heap.push { cls:=.type "slice",data:=.fields #[vl,vu,.none] } } σ H3 x v vl vu l u s3.heap.objs.size Q I4 r1 (Heap.IsSliceOf.new ..) pl pu q3
 show wpAny (model X.prog X.w) X.A (subscriptTail e (.Slice lo hi none p2) v (.ref s3.heap.objs.size)) (EP X pins σ Q) X.xe { s3 with heap:=s3.heap.push { cls:=.type "slice",data:=.fields #[vl,vu,.none] } }
 exact tail_any (ops:=[.ref s3.heap.objs.size,v]) ht hT hg (by with_unfolding_all rfl)
def eM (xs:List V) (lo hi:Option Int):List V:=(xs.drop (HT.sIx xs.length 0 lo)).take (HT.sIx xs.length xs.length hi - HT.sIx xs.length 0 lo)
theorem j5 (xs:List V) (lo hi:Option Int):(eM xs lo hi).length≤xs.length:=by
 unfold eM
 rw [List.length_take,List.length_drop]
 omega
def Dl (K:PySem.W.Frag):V→Option Int→Option Int→Hp→VK→Prop:=fun x lo hi H Q=>∃ a xs,x=.ref a∧SqT K H a xs∧
 ¬ (HT.sIx xs.length 0 lo=0∧HT.sIx xs.length xs.length hi=xs.length)∧∀ p,H p=none→Q (.ref p) (upd H p (.tup (eM xs lo hi)))
theorem BF:SlR X (Dl X.K):=by
 intro pins s σ H x v vl vu lo hi sl Q I rx hs pl pu h
 obtain ⟨a,xs,rfl,hx,hw,q⟩:=h
 cases rx
 obtain ⟨its,r,ht,hz⟩:=I.tuple hx
 have hlen:its.toArray.size=xs.length:=by rw [List.size_toArray]; exact r.length.symm
 refine ⟨"tuple",_,PyProof.Rows.slot_tuple_getitem.lookup,ht.typeIs,?_⟩
 refine HT.iP ht hs pl pu (by rw [hlen]; exact hw) ?_ (by rw [hlen]; exact hz)
 rw [hlen]
 refine ⟨.ref s.heap.objs.size,_,I.laid (t':=s.toks) (o:=.tup (eM xs lo hi)) (fun b ob q=>Heap.get?_push_of_some _ q) (Nat.le_refl _) ?_,rfl,q _ (I.hok.fresh (Nat.le_refl _))⟩
 exact ⟨Nat.le_trans (j5 xs lo hi) hz,_,(r.drop (HT.sIx xs.length 0 lo)).take (HT.sIx xs.length xs.length hi - HT.sIx xs.length 0 lo),IsTup.new _ _⟩
def EO (K:PySem.W.Frag):R2:=fun x y H Q=>∃ a b ns ms,x=.ref a∧y=.ref b∧SqT K H a (ns.map V.int)∧SqT K H b (ms.map V.int)∧Q (.bl (HT.lexLt ns ms)) H
def CA (K:PySem.W.Frag):R2:=fun x y H Q=>∃ a b xs ys,x=.ref a∧y=.ref b∧SqT K H a xs∧SqT K H b ys∧xs≠[]∧xs.length+ys.length≤sizeLine∧
 (ys=[]→Q (.ref a) H)∧(ys≠[]→∀ p,H p=none→Q (.ref p) (upd H p (.tup (xs++ys))))
theorem Vals.nil_iff {xs:List V} {us:List Value} (r:Vals xs us):us=[]↔xs=[]:=by
 cases r with
 | nil=>simp
 | cons _ _=>simp
theorem zr:OpR X (binaryOp .Add) (CA X.K):=by
 intro pins s σ H x y v u Q I rx ry h
 obtain ⟨a,b,xs,ys,rfl,rfl,ha,hb,hx,hz,q1,q2⟩:=h
 cases rx
 cases ry
 obtain ⟨its,r1,p1,_⟩:=I.tuple ha
 obtain ⟨its2,r2,p2,_⟩:=I.tuple hb
 refine HT.y4 p1 p2 (fun z=>hx (r1.nil_iff.mp z)) (fun z=>⟨.ref a,H,I,rfl,q1 (r2.nil_iff.mp z)⟩) (fun z=>?_) (by rw [← r1.length,← r2.length]; exact hz)
 refine ⟨.ref s.heap.objs.size,_,I.laid (t':=s.toks) (o:=.tup (xs++ys)) (fun b ob q=>Heap.get?_push_of_some _ q) (Nat.le_refl _) ?_,rfl,q2 (fun w=>z (r2.nil_iff.mpr w)) _ (I.hok.fresh (Nat.le_refl _))⟩
 exact ⟨by rw [List.length_append]; exact hz,_,r1.append r2,IsTup.new _ _⟩
end
end L2
namespace L2
open PySem PySem.Spec PyProof.Rows
def ixN (n:Nat) (i:Int):Option Nat:=if 0≤i then (if i<n then some i.toNat else none) else if -(n:Int)≤i then some (i+n).toNat else none
def atI {α:Type} (xs:List α) (i:Int):Option α:=(ixN xs.length i).bind fun j=>xs[j]?
theorem tG {n:Nat} {i:Int} {j:Nat} (h:ixN n i=some j):seqIndex? i n=some j∧j<n∧-(n:Int)≤i∧i<n:=by
 unfold ixN at h
 by_cases h0:0≤i
 ·rw [if_pos h0] at h
  by_cases h1:i<n
  ·rw [if_pos h1] at h
   have e:i.toNat=j:=Option.some.inj h
   exact ⟨by rw [seqIndex_of h0 h1,e],by omega,by omega,h1⟩
  ·rw [if_neg h1] at h; cases h
 ·rw [if_neg h0] at h
  by_cases h1:-(n:Int)≤i
  ·rw [if_pos h1] at h
   have e:(i+n).toNat=j:=Option.some.inj h
   exact ⟨by rw [seqIndex_neg (by omega) h1,e],by omega,h1,by omega⟩
  ·rw [if_neg h1] at h; cases h
theorem oI {α:Type} {xs:List α} {i:Int} {v:α} (h:atI xs i=some v):∃ j,seqIndex? i xs.length=some j∧xs[j]?=some v∧j<xs.length∧-(xs.length:Int)≤i∧i<xs.length:=by
 unfold atI at h
 cases e:ixN xs.length i with
 | none=>rw [e] at h; cases h
 | some j =>
  rw [e] at h
  obtain ⟨h1,h2,h3,h4⟩:=tG e
  exact ⟨j,h1,h,h2,h3,h4⟩
theorem bj {α:Type} {xs:List α} {j:Nat} {v:α} (h:xs[j]?=some v):atI xs (j:Int)=some v:=by
 have hj:j<xs.length:=(List.getElem?_eq_some_iff.mp h).1
 have e:ixN xs.length (j:Int)=some j:=by
  unfold ixN
  rw [if_pos (by omega),if_pos (by omega)]; simp
 unfold atI; rw [e]; exact h
def zM (b:Expr):Prop:=∀ o i,subscripted b false o i=operate [o,i] (getItem o i)
def IxR (X:Cx) (r:R2):Prop :=
 ∀ (value slice:Expr) (pins:List (Addr×Obj)) (s:Shared) (σ:St) (H:Hp) (x y:V) (v u:Value) (Q:VK),Inv X pins σ H s→RelV x v→RelV y u→r x y H Q→
  subscripted slice false v u=operate [v,u] (getItem v u)→wpAny (model X.prog X.w) X.A (subscriptTail value slice v u) (EP X pins σ Q) X.xe s
def MtR (X:Cx) (id:String) (r:V→List V→Hp→VK→Prop):Prop :=
 ∀ (pins:List (Addr×Obj)) (s:Shared) (σ:St) (H:Hp) (x:V) (xs:List V) (v:Value) (us:List Value) (Q:VK),Inv X pins σ H s→RelV x v→Vals xs us→r x xs H Q→
  wpAny (model X.prog X.w) X.A (call (.builtin id) (v::us)) (EP X pins σ Q) X.xe s
section
variable {X:Cx} {a b:Expr} {ta tb:TE} {pos:Pos}
theorem ar {r:R2} (hr:IxR X r) (ha:PE X a ta) (hb:PE X b tb) (hs:zM b):PE X (.Subscript a b pos) (tOp r ta tb):=by
 intro pins s σ H Q I h
 exact Subscript_ (BG ha hb I h fun v u s2 x y H2 I2 rx ry q=>hr a b pins s2 σ H2 x y v u Q I2 rx ry q (hs _ _))
def A6 (K:PySem.W.Frag):R2:=fun x y H Q=>∃ p xs i v,x=.ref p∧y=.int i∧SqL K H p xs∧atI xs i=some v∧Q v H
def AJ (K:PySem.W.Frag):R2:=fun x y H Q=>∃ p xs i v,x=.ref p∧y=.int i∧SqT K H p xs∧atI xs i=some v∧Q v H
def Cw:R2:=fun x y H Q=>∃ z i c,x=.str z∧y=.int i∧z.length≤sizeLine∧atI z.cps.toList i=some c∧Q (.str ⟨#[c]⟩) H
theorem ax:IxR X (A6 X.K):=by
 intro value slice pins s σ H x y v u Q I rx ry h hs
 obtain ⟨p,xs,i,z,rfl,rfl,hq,he,q⟩:=h
 cases rx
 obtain ⟨t,rfl⟩:=ry
 obtain ⟨its,r,pl,hz⟩:=I.list hq
 obtain ⟨j,h1,h2,h3,h4,h5⟩:=oI he
 obtain ⟨w,ew,rw'⟩:=r.get h2
 have hl:=r.length
 have hn:=jo
 have fin:EP X pins σ Q w s:=⟨z,H,I,rw',q⟩
 by_cases h0:0≤i
 ·have hj:i.toNat=j:=by
   rw [seqIndex_of h0 h5] at h1
   exact Option.some.inj h1
  exact item_listR pl.isList h0 (by omega) (by rw [hj]; simpa using ew) fin hs
 ·have hj:(i+(its.toArray.size:Int)).toNat=j:=by
   rw [seqIndex_neg (by omega) h4] at h1
   rw [List.size_toArray,← hl]
   exact Option.some.inj h1
  exact subscriptTail_builtinR (x:=w) pl.isList.typeIs slot_list_getitem.lookup
   (wpAny_getItem_list_neg (Q:=fun r s'=>r=w∧EP X pins σ Q r s') pl.isList (by omega) (by rw [List.size_toArray] <;> omega) (by omega) (by rw [hj]; simpa using ew) ⟨rfl,fin⟩) hs
theorem aP:IxR X (AJ X.K):=by
 intro value slice pins s σ H x y v u Q I rx ry h hs
 obtain ⟨p,xs,i,z,rfl,rfl,hq,he,q⟩:=h
 cases rx
 obtain ⟨t,rfl⟩:=ry
 obtain ⟨its,r,pl,hz⟩:=I.tuple hq
 obtain ⟨j,h1,h2,h3,h4,h5⟩:=oI he
 obtain ⟨w,ew,rw'⟩:=r.get h2
 have hl:=r.length
 have hn:=jo
 have fin:EP X pins σ Q w s:=⟨z,H,I,rw',q⟩
 exact subscriptTail_builtinR (x:=w) pl.typeIs slot_tuple_getitem.lookup
  (getItem_tuple (j:=j) (Q:=fun r s'=>r=w∧EP X pins σ Q r s') pl (by omega) (by omega) (by rw [List.size_toArray,← hl]; exact h1) (by simpa using ew) ⟨rfl,fin⟩) hs
theorem vM:IxR X Cw:=by
 intro value slice pins s σ H x y v u Q I rx ry h hs
 obtain ⟨z,i,c,rfl,rfl,hz,he,q⟩:=h
 obtain ⟨t,rfl⟩:=rx
 obtain ⟨t',rfl⟩:=ry
 obtain ⟨j,h1,h2,h3,h4,h5⟩:=oI he
 have hl:z.cps.toList.length=z.length:=by simp [Str.length]
 rw [hl] at h1 h4 h5
 have hn:=jo
 exact tail_any (typeIs_str s z t) slot_str_getitem.lookup (getItem_str (c:=c) (by
  have e1:decide (i < -(2 ^ 63:Int))=false:=decide_eq_false (by omega)
  have e2:decide (i ≥ 2 ^ 63)=false:=decide_eq_false (by omega)
  rw [e1,e2,Bool.or_false]) (by rw [h1]; simpa using h2) ⟨.str ⟨#[c]⟩,H,I.tok _,⟨_,rfl⟩,q⟩) hs
def rIx (K:PySem.W.Frag):R2:=fun x y H Q=>A6 K x y H Q∨AJ K x y H Q∨Cw x y H Q
theorem rK (its:List Value) (n j:Nat) (u:Value):Obj.mapSeq (·.setIfInBounds j u) { cls:=.type "list",data:=.seq its.toArray n }={ cls:=.type "list",data:=.seq (its.set j u).toArray n }:=by
 simp [Obj.mapSeq]
theorem Inv.lst {pins:List (Addr×Obj)} {σ:St} {H:Hp} {s:Shared} {p:Addr} {xs:List V} (I:Inv X pins σ H s) (h:H p=some (.lst xs)) :
  ∃ (its:List Value) (n:Nat),Vals xs its∧s.heap.get? p=some { cls:=.type "list",data:=.seq its.toArray n }∧xs.length≤sizeLine:=by
 obtain ⟨z,its,n,r,e⟩:=I.hok p _ h
 exact ⟨its,n,r,e,z⟩
theorem Inv.lstUpd {pins:List (Addr×Obj)} {σ:St} {H:Hp} {s:Shared} {p:Addr} {xs ys:List V} {its its':List Value} {n n':Nat} {f:Obj→Obj} (I:Inv X pins σ H s) (h:H p=some (.lst xs))
  (ho:s.heap.get? p=some { cls:=.type "list",data:=.seq its.toArray n }) (hf:f { cls:=.type "list",data:=.seq its.toArray n }={ cls:=.type "list",data:=.seq its'.toArray n' }) (r:Vals ys its') (hz:ys.length≤sizeLine) (t:Nat) :
  Inv X pins σ (upd H p (.lst ys)) { s with heap:=s.heap.update p f,toks:=t }:=by
 have e:(s.heap.update p f).get? p=some { cls:=.type "list",data:=.seq its'.toArray n' }:=by
  rw [Heap.get?_update_self f ho (by rw [hf] <;> rfl),hf]
 refine I.write (x:=p) (e:=p) (by rw [h]; trivial) (.inl rfl) (fun b u hb q=>(Heap.get?_update_other _ _ (Ne.symm hb)).trans q) ⟨_,e⟩ ?_
 exact ⟨hz,its',n',r,e⟩
def C2:V→V→V→Hp→(Hp→Prop)→Prop:=fun o i v H Q=>∃ p xs k j,o=.ref p∧i=.int k∧H p=some (.lst xs)∧ixN xs.length k=some j∧Q (upd H p (.lst (xs.set j v)))
theorem set_list:C1 X C2:=by
 intro pins s σ H o i v ov iv u Q I ro ri rv h
 obtain ⟨p,xs,k,j,rfl,rfl,hp,hj,q⟩:=h
 cases ro
 obtain ⟨t,rfl⟩:=ri
 obtain ⟨its,n,r,ho,hz⟩:=I.lst hp
 obtain ⟨h1,h2,h3,h4⟩:=tG hj
 have hl:=r.length
 have hn:=jo
 have I':Inv X pins σ (upd H p (.lst (xs.set j v))) { s with heap:=s.heap.update p (Obj.mapSeq (·.setIfInBounds j u)) } :=
  I.lstUpd hp ho (rK its n j u) (r.set rv j) (by rw [List.length_set]; exact hz) s.toks
 by_cases h0:0≤k
 ·have hk:k.toNat=j:=by
   rw [seqIndex_of h0 h4] at h1
   exact Option.some.inj h1
  exact PySem.W.ki_setAt ho h0 (by omega) (by rw [List.size_toArray,← hl]; exact h4) (by rw [hk]; exact ⟨_,I',q⟩)
 ·have hk:(k+(its.toArray.size:Int)).toNat=j:=by
   rw [seqIndex_neg (by omega) h3] at h1
   rw [List.size_toArray,← hl]
   exact Option.some.inj h1
  exact PySem.W.ki_setBack ho (by omega) (by rw [List.size_toArray,← hl]; exact h3) (by omega) (by rw [hk]; exact ⟨_,I',q⟩)
theorem nP (lo hi:Option Int) (n:Nat):(sliceBounds lo hi none n).1=((HT.sIx n 0 lo:Nat):Int)∧(sliceBounds lo hi none n).2.1=((HT.sIx n n hi:Nat):Int)∧(sliceBounds lo hi none n).2.2=1:=by
 refine ⟨?_,?_,rfl⟩
 ·cases lo with
  | none=>simp [sliceBounds,HT.sIx]
  | some i =>
   simp only [sliceBounds,HT.sIx,Option.getD_none,show (1:Int) > 0 by decide,if_true]
   by_cases h:i<0
   ·simp only [h,if_true] <;> omega
   ·simp only [h,if_false] <;> omega
 ·cases hi with
  | none=>simp [sliceBounds,HT.sIx]
  | some i =>
   simp only [sliceBounds,HT.sIx,Option.getD_none,show (1:Int) > 0 by decide,if_true]
   by_cases h:i<0
   ·simp only [h,if_true] <;> omega
   ·simp only [h,if_false] <;> omega
theorem mx (its:List Value) (lo hi:Option Int):slicePick its.toArray lo hi none=((its.drop (HT.sIx its.length 0 lo)).take (HT.sIx its.length its.length hi - HT.sIx its.length 0 lo)).toArray:=by
 obtain ⟨h1,h2,h3⟩:=nP lo hi its.toArray.size
 unfold slicePick
 rw [h1,h2,h3]
 simp only [sliceRange_one,pick_run,List.size_toArray] <;> rfl
def D0 (K:PySem.W.Frag):V→Option Int→Option Int→Hp→VK→Prop:=fun x lo hi H Q=>∃ a xs,x=.ref a∧SqL K H a xs∧∀ p,H p=none→Q (.ref p) (upd H p (.lst (eM xs lo hi)))
theorem kn:SlR X (D0 X.K):=by
 intro pins s σ H x v vl vu lo hi sl Q I rx hs pl pu h
 obtain ⟨a,xs,rfl,hx,q⟩:=h
 cases rx
 obtain ⟨its,r,ht,hz⟩:=I.list hx
 have hlen:=r.length
 refine ⟨"list",_,slot_list_getitem.lookup,ht.isList.typeIs,?_⟩
 refine wpAny_getItem_list_slice ht.isList hs pl pu .none (by simp) ?_ (by rw [List.size_toArray] <;> omega)
 rw [mx,← hlen]
 refine ⟨.ref s.heap.objs.size,_,I.laid (t':=s.toks) (o:=.lst (eM xs lo hi)) (fun b ob q=>Heap.get?_push_of_some _ q) (Nat.le_refl _) ?_,rfl,q _ (I.hok.fresh (Nat.le_refl _))⟩
 exact ⟨Nat.le_trans (j5 xs lo hi) hz,_,0,(r.drop (HT.sIx xs.length 0 lo)).take (HT.sIx xs.length xs.length hi - HT.sIx xs.length 0 lo),Heap.get?_push_size _ rfl⟩
def fe:V→Bool
 | .non=>true
 | .bl _=>true
 | .int _=>true
 | .str _=>true
 | _=>false
def eqV:V→V→Bool
 | .non,.non=>true
 | .bl a,.bl b=>a == b
 | .bl a,.int b=>(if a then 1 else 0) == b
 | .int a,.bl b=>a == (if b then 1 else 0)
 | .int a,.int b=>a == b
 | .str a,.str b=>a == b
 | _,_=>false
theorem xA {A:Around} {s:Shared} {y x:V} {u v:Value} (ry:RelV y u) (rx:RelV x v) (fy:fe y=true) (fx:fe x=true):SeqAt.EqAt A s u v (eqV y x):=by
 cases y with
 | non =>
  cases ry
  cases x with
  | non=>cases rx; exact SeqAt.EqAt.same _
  | bl b=>cases rx; exact SeqAt.EqAt.none_bool b
  | int b=>obtain ⟨t,rfl⟩:=rx; exact SeqAt.EqAt.none_int b t
  | str b=>obtain ⟨t,rfl⟩:=rx; exact SeqAt.EqAt.none_str b t
  | _=>exact absurd (show false=true from fx) Bool.false_ne_true
 | bl a =>
  cases ry
  cases x with
  | non=>cases rx; exact SeqAt.EqAt.bool_none a
  | bl b=>cases rx; exact SeqAt.EqAt.bool_bool a b
  | int b=>obtain ⟨t,rfl⟩:=rx; exact SeqAt.EqAt.bool_int a b t
  | str b=>obtain ⟨t,rfl⟩:=rx; exact SeqAt.EqAt.bool_str a b t
  | _=>exact absurd (show false=true from fx) Bool.false_ne_true
 | int a =>
  obtain ⟨t',rfl⟩:=ry
  cases x with
  | non=>cases rx; exact SeqAt.EqAt.int_none a t'
  | bl b=>cases rx; exact SeqAt.EqAt.int_bool a t' b
  | int b=>obtain ⟨t,rfl⟩:=rx; exact SeqAt.EqAt.int_int a t' b t
  | str b=>obtain ⟨t,rfl⟩:=rx; exact SeqAt.EqAt.int_str a t' b t
  | _=>exact absurd (show false=true from fx) Bool.false_ne_true
 | str a =>
  obtain ⟨t',rfl⟩:=ry
  cases x with
  | non=>cases rx; exact SeqAt.EqAt.str_none a t'
  | bl b=>cases rx; exact SeqAt.EqAt.str_bool a t' b
  | int b=>obtain ⟨t,rfl⟩:=rx; exact SeqAt.EqAt.str_int a t' b t
  | str b=>obtain ⟨t,rfl⟩:=rx; exact SeqAt.EqAt.str_str a t' b t
  | _=>exact absurd (show false=true from fx) Bool.false_ne_true
 | _=>exact absurd (show false=true from fy) Bool.false_ne_true
def eqU (x:V) (u:Value):Bool:=match u with
 | .none=>eqV .non x
 | .bool b=>eqV (.bl b) x
 | .int i _=>eqV (.int i) x
 | .str z _=>eqV (.str z) x
 | _=>false
theorem xY {x y:V} {u:Value} (r:RelV y u) (f:fe y=true):eqU x u=eqV y x:=by
 cases y with
 | non=>cases r; rfl
 | bl b=>cases r; rfl
 | int i=>obtain ⟨t,rfl⟩:=r; rfl
 | str z=>obtain ⟨t,rfl⟩:=r; rfl
 | _=>exact absurd (show false=true from f) Bool.false_ne_true
theorem iS {x:V}:∀ {xs:List V} {us:List Value},Vals xs us→xs.all fe=true→us.any (eqU x)=xs.any fun y=>eqV y x
 | _,_,.nil,_=>rfl
 | y::xs,u::us,.cons r t,f=>by
  rw [List.all_cons,Bool.and_eq_true] at f
  rw [List.any_cons,List.any_cons,xY r f.1,iS t f.2]
theorem gK {A:Around} {s:Shared} {x:V} {v:Value} (rx:RelV x v) (fx:fe x=true):∀ {xs:List V} {us:List Value},Vals xs us→xs.all fe=true→∀ u∈us,SeqAt.EqAt A s u v (eqU x u)
 | _,_,.nil,_=>fun u hu=>by cases hu
 | y::xs,u::us,.cons r t,f=>fun u' hu=>by
  rw [List.all_cons,Bool.and_eq_true] at f
  rcases List.mem_cons.mp hu with rfl | hu
  ·rw [xY r f.1]; exact xA r rx f.1 fx
  ·exact gK rx fx t f.2 u' hu
def inV (x:V) (xs:List V):Bool:=xs.any fun y=>eqV y x
def rIn (K:PySem.W.Frag) (neg:Bool):R2:=fun x y H Q=>∃ p xs,y=.ref p∧(SqL K H p xs∨SqT K H p xs)∧fe x=true∧xs.all fe=true∧Q (.bl (if neg then !inV x xs else inV x xs)) H
theorem jr:OpR X (compareOp .In) (rIn X.K false):=by
 intro pins s σ H x y v u Q I rx ry h
 obtain ⟨p,xs,rfl,hq,fx,fs,q⟩:=h
 cases ry
 rcases hq with hq | hq
 ·obtain ⟨its,r,pl,hz⟩:=I.list hq
  refine SeqAt.in_listAt (eqU x) pl.isList (fun w hw=>gK rx fx r fs w (by simpa using hw)) ⟨.bl _,H,I,rfl,?_⟩
  rw [show its.toArray.any (eqU x)=its.any (eqU x) by simp,iS r fs]
  exact q
 ·obtain ⟨its,r,pl,hz⟩:=I.tuple hq
  refine SeqAt.in_tupleAt (eqU x) pl (fun w hw=>gK rx fx r fs w (by simpa using hw)) ⟨.bl _,H,I,rfl,?_⟩
  rw [show its.toArray.any (eqU x)=its.any (eqU x) by simp,iS r fs]
  exact q
theorem jd:OpR X (compareOp .NotIn) (rIn X.K true):=by
 intro pins s σ H x y v u Q I rx ry h
 obtain ⟨p,xs,rfl,hq,fx,fs,q⟩:=h
 cases ry
 rcases hq with hq | hq
 ·obtain ⟨its,r,pl,hz⟩:=I.list hq
  refine SeqAt.notIn_listAt (eqU x) pl.isList (fun w hw=>gK rx fx r fs w (by simpa using hw)) ⟨.bl _,H,I,rfl,?_⟩
  rw [show its.toArray.any (eqU x)=its.any (eqU x) by simp,iS r fs]
  exact q
 ·obtain ⟨its,r,pl,hz⟩:=I.tuple hq
  refine SeqAt.notIn_tupleAt (eqU x) pl (fun w hw=>gK rx fx r fs w (by simpa using hw)) ⟨.bl _,H,I,rfl,?_⟩
  rw [show its.toArray.any (eqU x)=its.any (eqU x) by simp,iS r fs]
  exact q
theorem aM:cW X (.builtin "len") (fun xs H Q=>∃ p ys,xs=[.ref p]∧(SqL X.K H p ys∨SqT X.K H p ys)∧Q (.int ys.length) H):=by
 intro pins s σ H xs us Q I r h
 obtain ⟨p,ys,rfl,hq,q⟩:=h
 obtain ⟨u,rfl,rx⟩:=vals1 r
 cases rx
 have hn:=jo
 rcases hq with hq | hq
 ·obtain ⟨its,r',pl,hz⟩:=I.list hq
  have hlen:=r'.length
  exact Calls.call_len_list pl.isList (by simp only [List.size_toArray] <;> omega) ⟨.int ys.length,H,I.tok _,⟨s.toks+1,by rw [List.size_toArray,hlen]⟩,q⟩
 ·obtain ⟨its,r',pl,hz⟩:=I.tuple hq
  have hlen:=r'.length
  exact len_tuple pl (by simp only [List.size_toArray] <;> omega) ⟨.int ys.length,H,I.tok _,⟨s.toks+1,by rw [List.size_toArray,hlen]⟩,q⟩
theorem fP:cW X (.builtin "len") (fun xs H Q=>∃ z,xs=[.str z]∧z.length≤sizeLine∧Q (.int z.length) H):=by
 intro pins s σ H xs us Q I r h
 obtain ⟨z,rfl,hz,q⟩:=h
 obtain ⟨u,rfl,t,rfl⟩:=vals1 r
 have hn:=jo
 exact len_str (by omega) ⟨.int z.length,H,I.tok _,⟨_,rfl⟩,q⟩
theorem oG:cW X (.type "list") (fun xs H Q=>∃ p ys,xs=[.ref p]∧(SqL X.K H p ys∨SqT X.K H p ys)∧∀ l,H l=none→Q (.ref l) (upd H l (.lst ys))):=by
 intro pins s σ H xs us Q I r h
 obtain ⟨p,ys,rfl,hq,q⟩:=h
 obtain ⟨u,rfl,rx⟩:=vals1 r
 cases rx
 have fin:∀ (its:List Value),Vals ys its→ys.length≤sizeLine→∀ (h':Heap) (c':Nat),(∀ b o',s.heap.get? b=some o'→h'.get? b=some o')→
   h'.get? s.heap.objs.size=some { cls:=.type "list",dict:=none,data:=.seq its.toArray c',slots:=#[] }→EP X pins σ Q (.ref s.heap.objs.size) { s with heap:=h' }:=fun its r' hz h' c' kp e =>
  ⟨.ref s.heap.objs.size,_,I.laid (t':=s.toks) kp (Nat.le_refl _) (show ObjOk X.prog X.w _ h' _ (.lst ys) from ⟨hz,its,c',r',e⟩),rfl,q _ (I.hok.fresh (Nat.le_refl _))⟩
 rcases hq with hq | hq
 ·obtain ⟨its,r',pl,hz⟩:=I.list hq
  have hlen:=r'.length
  obtain ⟨o,ho,hc,n,hd⟩:=pl.isList
  exact call_list_seq p (.inl rfl) ho hc hd (fun h' c' kp e=>fin its r' hz h' c' kp e) (by simp only [List.size_toArray] <;> omega)
 ·obtain ⟨its,r',pl,hz⟩:=I.tuple hq
  have hlen:=r'.length
  obtain ⟨o,ho,hc,n,hd⟩:=pl
  exact call_list_seq p (.inr rfl) ho hc hd (fun h' c' kp e=>fin its r' hz h' c' kp e) (by simp only [List.size_toArray] <;> omega)
theorem ck:cW X (.type "tuple") (fun xs H Q=>∃ p ys,xs=[.ref p]∧((SqL X.K H p ys∧∀ l,H l=none→Q (.ref l) (upd H l (.tup ys)))∨(SqT X.K H p ys∧Q (.ref p) H))):=by
 intro pins s σ H xs us Q I r h
 obtain ⟨p,ys,rfl,h⟩:=h
 obtain ⟨u,rfl,rx⟩:=vals1 r
 cases rx
 rcases h with ⟨hq,q⟩ | ⟨hq,q⟩
 ·obtain ⟨its,r',pl,hz⟩:=I.list hq
  have hlen:=r'.length
  refine call_tuple_list pl.isList (fun h' kp=>?_) (by simp only [List.size_toArray] <;> omega)
  have I1:Inv X pins σ H { s with heap:=h' }:=I.kept (t':=s.toks) kp
  have I2:Inv X pins σ (upd H h'.objs.size (.tup ys)) { s with heap:=h'.push { cls:=.type "tuple",data:=.seq its.toArray } } :=
   I1.laid (t':=s.toks) (fun b o e=>Heap.get?_push_of_some _ e) (Nat.le_refl _) (show ObjOk X.prog X.w _ _ _ (.tup ys) from ⟨hz,its,r',IsTup.new _ _⟩)
  exact ⟨.ref h'.objs.size,_,I2,rfl,q _ (I1.hok.fresh (Nat.le_refl _))⟩
 ·obtain ⟨its,r',pl,hz⟩:=I.tuple hq
  exact call_tuple_same pl ⟨.ref p,H,I,rfl,q⟩
def tyV (K:PySem.W.Frag) (T:String) (x:V) (H:Hp):Prop:=match x with
 | .str _=>T="str"
 | .int _=>T="int"
 | .ref p=>(T="list"∧∃ xs,SqL K H p xs)∨(T="tuple"∧∃ o,K.lookup p=some o∧o.cls=.type "tuple"∧o.dict=none)∨
   (T="dict"∧((∃ kvs,H p=some (.dK kvs))∨∃ kvs,H p=some (.dT kvs)))∨(T="set"∧∃ S n,H p=some (.set S n))
 | _=>False
theorem BK {pins:List (Addr×Obj)} {σ:St} {H:Hp} {s:Shared} {T:String} {x:V} {v:Value} (I:Inv X pins σ H s) (r:RelV x v) (ty:tyV X.K T x H) :
  s.TypeIs v T∧∀ a,v=.ref a→∃ ob,s.heap.get? a=some ob∧ob.dict=none:=by
 cases x with
 | str z =>
  obtain ⟨t,rfl⟩:=r
  cases (show T="str" from ty)
  exact ⟨typeIs_str s z t,fun _ e=>nomatch e⟩
 | int i =>
  obtain ⟨t,rfl⟩:=r
  cases (show T="int" from ty)
  exact ⟨typeIs_int s i t,fun _ e=>nomatch e⟩
 | ref p =>
  cases r
  rcases ty with ⟨rfl,xs,hq⟩ | ⟨rfl,o,hk,hc,hd⟩ | ⟨rfl,hk⟩ | ⟨rfl,S,n,hk⟩
  ·obtain ⟨its,_,pl,_⟩:=I.list hq
   refine ⟨pl.isList.typeIs,fun a e=>?_⟩
   cases e
   obtain ⟨o,n,e,c,hd,_⟩:=pl
   exact ⟨o,e,hd⟩
  ·refine ⟨⟨o,I.kIn p o hk,hc⟩,fun a e=>?_⟩
   cases e
   exact ⟨o,I.kIn _ o hk,hd⟩
  ·have z:∃ o,s.heap.get? p=some o∧o.ExactDict:=by
    rcases hk with ⟨kvs,hk⟩ | ⟨kvs,hk⟩
    ·obtain ⟨_,_,_,_,o,_,_,e,ex,_⟩:=I.hok p _ hk
     exact ⟨o,e,ex⟩
    ·obtain ⟨_,_,_,_,o,_,_,e,ex,_⟩:=I.hok p _ hk
     exact ⟨o,e,ex⟩
   obtain ⟨o,e,ex⟩:=z
   refine ⟨⟨o,e,ex.1⟩,fun a e2=>?_⟩
   cases e2
   exact ⟨o,e,ex.2.1⟩
  ·obtain ⟨o,_,_,_,e,ex,_⟩:=I.hok p _ hk
   refine ⟨⟨o,e,ex.1⟩,fun a e2=>?_⟩
   cases e2
   exact ⟨o,e,ex.2.1⟩
 | _=>exact False.elim ty
def EG (K:PySem.W.Frag) (T:String) (r:V→List V→Hp→VK→Prop) (to:TE):TE:=fun σ H Q=>to σ H fun x H1=>tyV K T x H1∧r x [] H1 Q
def tBM (K:PySem.W.Frag) (T:String) (r:V→List V→Hp→VK→Prop) (to:TE) (t:TA):TE:=fun σ H Q=>to σ H fun x H1=>tyV K T x H1∧t σ H1 fun xs H2=>r x xs H2 Q
variable {o e:Expr} {es:List Expr} {to:TE} {t:TA} {name:Str} {apos cpos:Pos} {T id:String} {r:V→List V→Hp→VK→Prop}
theorem dh (pa:PlainAttrs T) (slot:Slot T name id) (hty:typeOf (.builtin id)=pure (.type "method_descriptor")) (hm:MtR X id r) (ho:PE X o to) (ha:PA X (e::es) t)
  (hbase:attributeBase o name X.env (eval o X.env)=eval o X.env:=by rfl)
  (hfew:((backTo cpos (starEach (e::es) X.env)).all (fun x=>!x.1) && (backToKw cpos (keywordEach [] X.env)).all (fun x=>x.1.isSome)
   && decide ((e::es).length+([]:List Keyword).length+(if ([]:List Keyword).isEmpty then 0 else 1)<30))=true:=by rfl)
  (hline:(apos.endLine == cpos.line)=true:=by rfl) (hs:starEach (e::es) X.env=(false,eval e X.env)::starEach es X.env:=by rfl) (hplain:(backTo cpos (starEach es X.env)).any (·.1)=false:=by rfl) :
  PE X (.Call (.Attribute o name apos) (e::es) [] cpos) (tBM X.K T r to t):=by
 intro pins s σ H Q I h
 refine wpAny_Call_method_late hbase hfew hline rfl (thn (ho pins s σ H _ I h) fun v s1 ⟨x,H1,I1,r1,ty,q1⟩=>?_)
 obtain ⟨h1,h2⟩:=BK I1 r1 ty
 refine ⟨T,id,pa,slot,hty,h1,h2,?_⟩
 have hA:=ha cpos pins s1 σ H1 _ I1 q1
 rw [hs] at hA ⊢
 refine Calls.callWith_builtin (by show (false || (backTo cpos (starEach es X.env)).any (·.1))=false; rw [hplain] <;> rfl) (Calls.evalArgs_plain ?_)
 exact thn hA fun us s2 ⟨vs,H2,I2,r2,q2⟩=>hm pins s2 σ H2 x vs v us Q I2 r1 r2 q2
end
end L2
namespace L2
open PySem PySem.Spec PyProof.Rows
def MtM (X:Cx) (id:String) (r:V→List V→Hp→VK→Prop):Prop :=
 ∀ (pins:List (Addr×Obj)) (s:Shared) (σ:St) (H:Hp) (x:V) (xs:List V) (v:Value) (us:List Value) (Q:VK),Inv X pins σ H s→RelV x v→Vals xs us→r x xs H Q→
  wpAny (model X.prog X.w) X.A (call (.builtin id) (v::us)) (EP X pins σ Q) X.xe s
theorem Vals.one:∀ {x:V} {us:List Value},Vals [x] us→∃ u,us=[u]∧RelV x u
 | _,_,.cons r .nil=>⟨_,rfl,r⟩
theorem Vals.two:∀ {x y:V} {us:List Value},Vals [x,y] us→∃ u v,us=[u,v]∧RelV x u∧RelV y v
 | _,_,_,.cons r (.cons q .nil)=>⟨_,_,rfl,r,q⟩
theorem Vals.rep {xs:List V} {us:List Value} (h:Vals xs us):∀ k:Nat,Vals (List.replicate k xs).flatten (List.replicate k us).flatten
 | 0=>.nil
 | k+1=>by
  rw [List.replicate_succ,List.replicate_succ,List.flatten_cons,List.flatten_cons]
  exact Vals.append h (Vals.rep h k)
theorem foldl_rep (its:List Value):∀ (k:Nat) (acc:List Value),
  List.foldl (fun x1 x2=>x1++x2) acc.toArray (List.replicate k its.toArray)=(acc++(List.replicate k its).flatten).toArray
 | 0,acc=>by simp
 | k+1,acc=>by
  have e:acc.toArray++its.toArray=(acc++its).toArray:=by simp
  have e2:(acc++its)++(List.replicate k its).flatten=acc++(List.replicate (k+1) its).flatten:=by
   rw [List.replicate_succ,List.flatten_cons,List.append_assoc]
  rw [← e2,← foldl_rep its k (acc++its),← e,List.replicate_succ,List.foldl_cons]
section
variable {X:Cx} {pins:List (Addr×Obj)} {σ:St} {H:Hp} {s:Shared} {l b:Addr} {xs ys zs:List V}
theorem Inv.lset {its its':List Value} {n:Nat} {f:Array Value→Array Value} {t':Nat} (I:Inv X pins σ H s) (hH:H l=some (.lst xs))
  (e:s.heap.get? l=some { cls:=.type "list",data:=.seq its.toArray n }) (hf:f its.toArray=its'.toArray) (hv:Vals ys its') (hz:ys.length≤sizeLine) :
  Inv X pins σ (upd H l (.lst ys)) { s with heap:=s.heap.update l (Obj.mapSeq f),toks:=t' }:=by
 have q:=PySem.IsL.update e f
 rw [hf] at q
 refine I.write (x:=l) (e:=l) (by rw [hH]; exact trivial) (.inl rfl) (fun b' u hb hu=>(Heap.get?_update_other s.heap (Obj.mapSeq f) (Ne.symm hb)).trans hu) ⟨_,q⟩ ?_
 exact ⟨hz,its',_,hv,q⟩
theorem Inv.lnew {its:List Value} {t':Nat} (I:Inv X pins σ H s) (hv:Vals ys its) (hz:ys.length≤sizeLine) :
  Inv X pins σ (upd H s.heap.objs.size (.lst ys)) { s with heap:=s.heap.push { cls:=.type "list",data:=.seq its.toArray },toks:=t' } :=
 I.laid (fun _ _ q=>Heap.get?_push_of_some _ q) (Nat.le_refl _) ⟨hz,its,0,hv,Heap.get?_push_size _ rfl⟩
theorem Inv.fresh (I:Inv X pins σ H s):H s.heap.objs.size=none:=I.hok.fresh (Nat.le_refl _)
theorem Inv.lstM (I:Inv X pins σ H s) (hH:H l=some (.lst xs)):xs.length≤sizeLine∧∃ (its:List Value) (n:Nat),Vals xs its∧xs.length=its.length∧s.heap.get? l=some { cls:=.type "list",data:=.seq its.toArray n }:=by
 obtain ⟨z,its,n,r,e⟩:=I.hok l _ hH
 exact ⟨z,its,n,r,r.length,e⟩
theorem wV {n:Nat} (h:n≤sizeLine):Builtin.List.listTooLong n=false:=by
 unfold Builtin.List.listTooLong
 exact decide_eq_false (by omega)
end
section
variable {X:Cx}
def zI:V→List V→Hp→VK→Prop:=fun x vs H Q=>∃ l xs y,x=.ref l∧vs=[y]∧H l=some (.lst xs)∧xs.length<sizeLine∧Q .non (upd H l (.lst (xs++[y])))
theorem cz:MtM X "list.append" zI:=by
 intro pins s σ H x vs v us Q I rx rv h
 obtain ⟨l,xs,y,rfl,rfl,hH,hz,q⟩:=h
 cases rx
 obtain ⟨u,rfl,ru⟩:=rv.one
 obtain ⟨z,its,n,r,hl,e⟩:=I.lstM hH
 refine call_meets F.slot_list_append ⟨_,e,rfl⟩ F.entry_list_append (F.args_list_append_2 _ _) (PySem.list_append l its.toArray n u (by rw [List.size_toArray]; omega)) ⟨e,?_⟩
 refine ⟨.non,_,I.lset (its':=its++[u]) hH e (by simp) (r.append (.cons ru .nil)) ?_,rfl,q⟩
 rw [List.length_append,List.length_singleton]
 omega
def zY:V→List V→Hp→VK→Prop:=fun x vs H Q=>∃ l b xs zs,x=.ref l∧vs=[.ref b]∧H l=some (.lst xs)∧H b=some (.lst zs)∧xs.length+zs.length≤sizeLine∧Q .non (upd H l (.lst (xs++zs)))
theorem BZ:MtM X "list.extend" zY:=by
 intro pins s σ H x vs v us Q I rx rv h
 obtain ⟨l,b,xs,zs,rfl,rfl,hH,hB,hz,q⟩:=h
 cases rx
 obtain ⟨u,rfl,ru⟩:=rv.one
 cases ru
 obtain ⟨z,its,n,r,hl,e⟩:=I.lstM hH
 obtain ⟨z2,its2,n2,r2,hl2,e2⟩:=I.lstM hB
 have hsz:its.toArray.size+its2.toArray.size≤sizeLine:=by rw [List.size_toArray,List.size_toArray]; omega
 have hlong:¬ (!its.toArray.isEmpty && Builtin.List.listTooLong (its.toArray.size+its2.toArray.size))=true:=by
  rw [wV hsz,Bool.and_false]
  exact Bool.false_ne_true
 refine call_meets F.slot_list_extend ⟨_,e,rfl⟩ F.entry_list_extend (F.args_list_extend_2 _ _)
  (AutoSeq1.list_extend_list_list_0 l its.toArray n b its2.toArray n2 hlong (by rw [List.size_toArray]; omega) (by omega)) ⟨e,e2,?_⟩
 refine ⟨.non,_,I.lset (its':=its++its2) hH e (by simp) (r.append r2) ?_,rfl,q⟩
 rw [List.length_append]
 omega
def EW:V→List V→Hp→VK→Prop:=fun x vs H Q=>∃ l xs y,x=.ref l∧vs=[]∧H l=some (.lst xs)∧xs[xs.length - 1]?=some y∧Q y (upd H l (.lst xs.dropLast))
def DG:V→List V→Hp→VK→Prop:=fun x vs H Q=>∃ l xs i k y,x=.ref l∧vs=[.int i]∧H l=some (.lst xs)∧-(2 ^ 63)≤i∧i<2 ^ 63∧seqIndex? i xs.length=some k∧xs[k]?=some y∧Q y (upd H l (.lst (xs.eraseIdx k)))
def CP:V→List V→Hp→VK→Prop:=fun x vs H Q=>∃ l xs,x=.ref l∧vs=[]∧H l=some (.lst xs)∧Q .non (upd H l (.lst xs.reverse))
def D7:V→List V→Hp→VK→Prop:=fun x vs H Q=>∃ l xs,x=.ref l∧vs=[]∧H l=some (.lst xs)∧Q .non (upd H l (.lst []))
def DQ:R2:=fun x y H Q=>∃ l b xs zs,x=.ref l∧y=.ref b∧H l=some (.lst xs)∧H b=some (.lst zs)∧xs.length+zs.length≤sizeLine∧∀ p,H p=none→Q (.ref p) (upd H p (.lst (xs++zs)))
theorem rQ:OpR X (binaryOp .Add) DQ:=by
 intro pins s σ H x y v u Q I rx ry h
 obtain ⟨l,b,xs,zs,rfl,rfl,hH,hB,hz,q⟩:=h
 cases rx
 cases ry
 obtain ⟨z,its,n,r,hl,e⟩:=I.lstM hH
 obtain ⟨z2,its2,n2,r2,hl2,e2⟩:=I.lstM hB
 refine PySem.P.add_list e e2 ?_ (by rw [List.size_toArray,List.size_toArray]; omega)
 have ea:its.toArray++its2.toArray=(its++its2).toArray:=by simp
 rw [ea]
 exact ⟨.ref _,_,I.lnew (t':=s.toks) (r.append r2) (by rw [List.length_append]; omega),rfl,q _ I.fresh⟩
def EJ:R2:=fun x y H Q=>∃ l k xs,x=.ref l∧y=.int k∧H l=some (.lst xs)∧-(2 ^ 63)≤k∧k<2 ^ 63∧xs.length * k.toNat≤sizeLine∧
 ∀ p,H p=none→Q (.ref p) (upd H p (.lst (List.replicate k.toNat xs).flatten))
theorem len_rep {α:Type} (xs:List α) (k:Nat):(List.replicate k xs).flatten.length=k * xs.length:=by
 induction k with
 | zero=>simp
 | succ k ih=>rw [List.replicate_succ,List.flatten_cons,List.length_append,ih,Nat.succ_mul,Nat.add_comm]
end
section
variable {prog:Program} {w:World} {A:Around} {E:Value→Shared→Prop} {s:Shared}
end
section
variable {X:Cx}
end
end L2
namespace Att
open PySem PySem.W PySem.Calls PyProof.Rows
theorem kh {P:Params} {h:Heap}:∀ (ns:List Int) (vs:List Value),WellAll P h vs (ns.map WData.int)→IntsAre vs ns:=by
 intro ns
 induction ns with
 | nil =>
  intro vs w
  rw [List.map_nil] at w
  cases w
  exact .nil
 | cons n ns ih =>
  intro vs w
  rw [List.map_cons] at w
  cases w with
  | cons a b =>
   cases a
   exact .cons _ _ (ih _ b)
theorem tQ {l:OpenLaw} {n:Nat} (hn:l.most=some n) {P:Params} {h:Heap} {args:List WData} {vals:List Value}
  (hpre:l.row.toRowW.claim.pre args=true) (hwl:WellAll P h vals args) :
  ∃ a vs ns,vals=[Value.ref a]∧args=[WData.list (ns.map WData.int)]∧h.get? a=some { cls:=.type "list",data:=.seq vs.toArray }∧IntsAre vs ns∧ns.length≤n:=by
 have hsh:WShape.hasAll [] args [.list .int]=true:=(pre_splitW hpre).1
 have hc:l.pre.holds [] { args:=args }=true:=(pre_splitW hpre).2
 obtain ⟨d,r,rfl,h1,h2⟩:=hasAllW_cons hsh
 obtain rfl:=hasAllW_nil h2
 obtain ⟨xs,rfl,h3⟩:=hasW_list h1
 obtain ⟨ns,rfl⟩:=items_int h3
 have hlen:ns.length≤n:=by
  unfold OpenLaw.pre at hc
  have h4:(WTm.not (.lt (.lit (.int (n:Int))) (.len (.arg 0)))).holds [] { args:=[.list (ns.map .int)] }=true:=by
   have h4:=(holds_andW hc).1
   rw [hn] at h4
   exact h4
  have h5:=condW_of h4 (w_not (w_lt w_lit (w_len_list (w_arg rfl))))
  rw [List.length_map] at h5
  refine Nat.le_of_not_lt fun q=>?_
  have q':(n:Int)<((ns.length:Nat):Int):=by omega
  first
   | (rw [decide_eq_true q'] at h5; exact absurd h5 (by decide))
   | (simp at h5; omega)
 cases hwl with
 | cons w1 w2 =>
  cases w2
  cases w1 with
  | list ho hall=>exact ⟨_,_,ns,rfl,rfl,ho,kh ns _ hall,hlen⟩
theorem ue (l:OpenLaw) (args:List WData):l.row.toRowW.claim.post args (.bool true) args=true :=
 postW_of (r:=l.row.toRowW) (X:=(true == true))
  (show WShape.has [] (.bool true) .bool=true by first | rfl | decide | simp [WShape.has,WShape.arms,WShape.armsAll])
  (show (WTm.eq .res (.lit (.bool true))).value [] { args:=args,res:=some (.bool true),after:=args }=some (.bool (true == true)) from w_eq_bool (w_res rfl) w_lit) rfl
theorem qj {l:OpenLaw} {n:Nat} {q:Program} {loose:List Str} {XP:(Str→Option Value)→Heap→Prop} {YP:World→Heap→Prop} {d:DefRec}
  (hn:l.most=some n) (hdf:d.params.defaults=[])
  (call:∀ (w:World) (s₀ s₁:Shared) (mg mb:Str→Option Value) (fa:Addr) (o:Obj) (pm cd doc:Value) (a:Addr) (vs:List Value) (ns:List Int),
   Ground q loose [] XP w s₀ mg mb s₁.heap→YP w s₁.heap→
   s₁.heap.get? fa=some o→o.data=.func (docDef d.name d.params d.body d.scope pm cd doc)→s₁.heap.CodeRec cd d.name→mg d.name=some (.ref fa)→
   s₁.heap.get? a=some { cls:=.type "list",data:=.seq vs.toArray }→IntsAre vs ns→ns.length≤n→s₁.gens=#[]→
   codeAny (model l.prog w) callerA (.call (.ref fa) ⟨[.ref a],[]⟩) (fun r s'=>r=.ok (.ret (.bool true))∧OldK s₁.heap s'.heap∧s'.os=s₁.os∧AllBare s'.gens) s₁) :
  WalkO q loose XP YP l.row.toRowW d [] (fun f vs=>PySem.call f vs):=by
 intro w s₀ s₁ mg mb G Y fa o pm cd doc dV kV ho hd hcd hD hmg hg args vals as hpre hlay hrd hwl hlo
 obtain rfl:dV=.none:=Dflts.none hD hdf
 obtain rfl:kV=.none:=Dflts.noKw hD
 obtain ⟨a,vs,ns,rfl,rfl,hobj,hints,hlen⟩:=tQ hn hpre hwl
 refine enter_call (codeAny_mono (call w s₀ s₁ mg mb fa o pm cd doc a vs ns G Y ho (fd_plain hd) hcd hmg hobj hints hlen hg) fun r s' hq=>?_)
 obtain ⟨rfl,h2,h3,h4⟩:=hq
 exact ⟨.inl ⟨.bool true,.bool true,[],rfl,fun _=>rfl,.bool true,ue l _,fun _=>⟨List.Pairwise.nil,fun _ hm=>(nomatch hm)⟩⟩,h2,h3,h4⟩
section
variable {prog:Program} {w:World} {A:Around} {E:Value→Shared→Prop} {s:Shared} {K:Frag}
def Dk (h:Heap):Heap:={ h with objs:=#[] }
def ledger (h:Heap) (L d:Addr):List (Addr×Obj):=(List.range h.objs.size).filterMap fun a=>if a=L∨a=d then none else (h.get? a).map fun o=>(a,o)
end
end Att
namespace L2
open PySem PySem.Spec PyProof.Rows
theorem ju:∀ {vs:List Value} {ns:List Int},IntsAre vs ns→Vals (ns.map V.int) vs
 | _,_,.nil=>.nil
 | _,_,.cons n t h=>.cons ⟨t,rfl⟩ (ju h)
def zk (H:Hp):Prop:=∀ b,H b=none∨∃ o xs,H b=some (.frz o (.lst xs))
theorem wZ {P:Program} {w:World} {K:PySem.W.Frag} {mg mb:Str→Option Value} {CX:CXT} {k:Nat} {fa a:Addr} {fd:FuncData} {x:Str} {sp:Sp} {s₁:Shared} {vs:List Value} {ns:List Int}
  (KX:K.In s₁.heap) (hns:s₁.heap.Ns mainGlobals mg) (hb:s₁.heap.Ns builtinsNs mb) (hbb:∀ x:Str,x≠"__name__"→mb x=bootBuiltins x) (hlim:s₁.heap.NoLimit) (hg:s₁.gens=#[])
  (ha:s₁.heap.get? a=some { cls:=.type "list",data:=.seq vs.toArray }) (hi:IntsAre vs ns) (hl:ns.length≤sizeLine) (hr:Room k callerA)
  (F:∀ base:Heap,K.In base→base.Ns mainGlobals mg→FnOk P w K mg base CX k fa fd [x] sp) (hbind:∀ (s:Shared) (u:Value),BindsTo s fd ⟨[u],[]⟩ [(x,u)])
  (hsp:∀ H:Hp,zk H→SqL K H a (ns.map V.int)→sp [.ref a] H (fun v _=>v=.bl true) fun _ _ _=>False)
  (hCX:∀ H e s',CX [] H s₁ (fun _ _ _=>False) e s'→False) :
  codeAny (model P w) callerA (.call (.ref fa) ⟨[.ref a],[]⟩) (fun r s'=>r=.ok (.ret (.bool true))∧OldK s₁.heap s'.heap∧s'.os=s₁.os∧AllBare s'.gens) s₁:=by
 have rv:=ju hi
 have lenV:=hi.length
 have core:∀ H:Hp,zk H→SqL K H a (ns.map V.int)→HOk P w H s₁.heap→(∀ b,H b≠none→b=a)→(H a≠none→K.lookup a=none)→
   codeAny (model P w) callerA (.call (.ref fa) ⟨[.ref a],[]⟩) (fun r s'=>r=.ok (.ret (.bool true))∧OldK s₁.heap s'.heap∧s'.os=s₁.os∧AllBare s'.gens) s₁:=by
  intro H hO hS hok hA hK
  have base_of:∀ {b:Addr} {o:Obj},s₁.heap.get? b=some o→H b=none→(oJ s₁.heap H).get? b=some o:=fun e n=>wR e n
  have noA:∀ {b:Addr} {o:Obj} {es:Array DictEntry} {ep:Nat},s₁.heap.get? b=some o→o.data=.dict es ep→H b=none:=fun {b o es ep} e d=>by
   cases q:H b with
   | none=>rfl
   | some u =>
    have e':b=a:=hA b (by rw [q]; simp)
    subst e'
    rw [ha] at e; cases e
    have d':Data.seq vs.toArray _=Data.dict es ep:=d
    cases d'
  have nsK:∀ {b:Addr} {m:Str→Option Value},s₁.heap.Ns b m→(oJ s₁.heap H).Ns b m:=fun {b m} ⟨o,es,ep,e,d,r⟩=>⟨o,es,ep,base_of e (noA e d),d,r⟩
  have hKb:K.In (oJ s₁.heap H):=fun b o e=>base_of (KX b o e) (by
   cases q:H b with
   | none=>rfl
   | some u =>
    have e':b=a:=hA b (by rw [q]; simp)
    subst e'
    rw [hK (by rw [q]; simp)] at e; cases e)
  have hM:Mod K mg (oJ s₁.heap H):=⟨hKb,nsK hns,⟨mb,nsK hb,hbb⟩,let ⟨mc,h1,h2⟩:=hlim; ⟨mc,nsK h1,h2⟩⟩
  have e0:Env0 P w K mg (oJ s₁.heap H) callerA [] s₁ H:=⟨rfl,hM,fun b o e=>zh e,Nat.le_of_eq (uL _ _),trivial,fun b hb=>absurd (show b∈([]:List Addr) from hb) (by simp),hok,.of_eq hg⟩
  refine codeAny_mono ((F _ hKb (nsK hns)).run callerA [] s₁ H ⟨[.ref a],[]⟩ [.ref a] [.ref a] _ _ hr e0 (hbind s₁ (.ref a)) (.cons rfl .nil) (hsp H hO hS)) fun r s' h=>?_
  cases r with
  | error e=>exact (hCX H e s' h).elim
  | ok fl =>
   cases fl with
   | next=>exact False.elim h
   | brk=>exact False.elim h
   | cont=>exact False.elim h
   | ret u =>
    obtain ⟨v,H',os,bare,un,hok',r',q⟩:=h
    have q':v=.bl true:=q
    subst q'
    obtain rfl:u=Value.bool true:=r'
    refine ⟨rfl,OldK.of_keep fun b o e=>?_,os,bare⟩
    cases q:H b with
    | none=>exact un.keep b o e q (by intro z; exact absurd (show b∈([]:List Addr) from z) (by simp)) (by simp)
    | some u =>
     rcases hO b with z | ⟨ob,xs,z⟩
     ·rw [q] at z; cases z
     ·have z2:=un.frzs b ob _ z
      obtain ⟨e1,_⟩:=hok b _ z
      obtain ⟨e2,_⟩:=hok' b _ z2
      rw [e] at e1; cases e1
      exact e2
 cases hk:K.lookup a with
 | some o =>
  have e:=KX a o hk
  rw [ha] at e
  cases e
  refine core (fun _=>none) (fun _=>.inl rfl) (.inr ⟨_,vs.toArray,_,hk,rfl,rfl,rfl,by rw [List.size_toArray,lenV]; exact hl,by simpa using rv⟩) (fun b u z=>by have z':(none:Option HO)=some u:=z; cases z') (fun b z=>absurd rfl z) fun z=>absurd rfl z
 | none =>
  refine core (fun b=>if b=a then some (.frz { cls:=.type "list",data:=.seq vs.toArray } (.lst (ns.map V.int))) else none) (fun b=>?_) (.inl (.inr ⟨{ cls:=.type "list",data:=.seq vs.toArray },if_pos rfl⟩)) (fun b u z=>?_) (fun b z=>?_) fun _=>hk
  ·by_cases hb:b=a
   ·exact .inr ⟨_,_,if_pos hb⟩
   ·exact .inl (if_neg hb)
  ·by_cases hb:b=a
   ·have z':=(if_pos hb).symm.trans z
    cases z'
    subst hb
    exact ⟨ha,by rw [List.length_map]; exact hl,vs,_,rv,ha⟩
   ·have z':=(if_neg hb).symm.trans z
    cases z'
  ·by_cases hb:b=a
   ·exact hb
   ·exact absurd (if_neg hb) z
end L2
namespace L2
open PySem PySem.Spec PyProof.Rows
abbrev KOf {K:PySem.W.Frag} {h:Heap} (_:K.In h):PySem.W.Frag:=K
theorem zg {l:PySem.W.OpenLaw} {n k:Nat} {q:Program} {loose:List Str} {XP:(Str→Option Value)→Heap→Prop} {YP:World→Heap→Prop} {d:DefRec} {K:Params→PySem.W.Frag} {CX:World→CXT} {sp:World→Sp} {x:Str}
  (hn:l.most=some n) (hn2:n≤sizeLine) (hdf:d.params.defaults=[]) (hr:Room k callerA)
  (hY:∀ (w:World) (h:Heap),YP w h→(K w.params).In h)
  (F:∀ (w:World) (mg:Str→Option Value) (fa:Addr) (h:Heap),(K w.params).In h→h.Ns mainGlobals mg→mg d.name=some (.ref fa)→
   ∃ fd:FuncData,(∀ (s:Shared) (u:Value),BindsTo s fd ⟨[u],[]⟩ [(x,u)])∧
    ∀ base:Heap,(K w.params).In base→base.Ns mainGlobals mg→FnOk l.prog w (K w.params) mg base (CX w) k fa fd [x] (sp w))
  (hsp:∀ (w:World) (H:Hp) (a:Addr) (ns:List Int),ns.length≤n→zk H→SqL (K w.params) H a (ns.map V.int)→sp w [.ref a] H (fun v _=>v=.bl true) fun _ _ _=>False)
  (hCX:∀ (w:World) (H:Hp) (s:Shared) (e:Value) (s':Shared),CX w [] H s (fun _ _ _=>False) e s'→False) :
  PySem.W.WalkO q loose XP YP l.row.toRowW d [] (fun f vs=>PySem.call f vs):=by
 refine Att.qj hn hdf fun w s₀ s₁ mg mb fa o pm cd doc a vs ns G Y ho hd hcd hmg hobj hints hlen hg=>?_
 have KX:=hY w _ Y
 obtain ⟨fd,hb,hF⟩:=F w mg fa _ KX G.T.g hmg
 exact wZ KX G.T.g G.T.b G.T.builtins G.T.nolimit hg hobj hints (Nat.le_trans hlen hn2) hr hF hb (fun H hO hS=>hsp w H a ns hlen hO hS) fun H e s'=>hCX w H s₁ e s'
theorem wW {l:PySem.W.OpenLaw} {n k:Nat} {q:Program} {loose:List Str} {XP:(Str→Option Value)→Heap→Prop} {YP:World→Heap→Prop} {d:DefRec} {K:Params→PySem.W.Frag} {CX:CXT} {sp:PySem.W.Frag→Sp} {x:Str}
  (hn:l.most=some n) (hn2:n≤sizeLine) (hdf:d.params.defaults=[]) (hr:Room k callerA)
  (hY:∀ (w:World) (h:Heap),YP w h→(K w.params).In h)
  (F:∀ (w:World) (mg:Str→Option Value) (fa:Addr) (h:Heap),(K w.params).In h→h.Ns mainGlobals mg→mg d.name=some (.ref fa)→
   ∃ fd:FuncData,(∀ (s:Shared) (u:Value),BindsTo s fd ⟨[u],[]⟩ [(x,u)])∧
    ∀ base:Heap,(K w.params).In base→base.Ns mainGlobals mg→FnOk l.prog w (K w.params) mg base CX k fa fd [x] (sp (K w.params)))
  (hsp:∀ (K:PySem.W.Frag) (H:Hp) (a:Addr) (ns:List Int),ns.length≤n→zk H→SqL K H a (ns.map V.int)→sp K [.ref a] H (fun v _=>v=.bl true) fun _ _ _=>False)
  (hCX:∀ (H:Hp) (s:Shared) (e:Value) (s':Shared),CX [] H s (fun _ _ _=>False) e s'→False) :
  PySem.W.WalkO q loose XP YP l.row.toRowW d [] (fun f vs=>PySem.call f vs) :=
 zg (K:=K) (CX:=fun _=>CX) (sp:=fun w=>sp (K w.params)) hn hn2 hdf hr hY F (fun w H a ns h1 h2 h3=>hsp (K w.params) H a ns h1 h2 h3) fun _ H s e s'=>hCX H s e s'
end L2
namespace L2
open PySem PySem.Spec PyProof.Rows
def inClass (s:Stmt) (j:Nat):Stmt:=match s with
 | .ClassDef _ _ _ body _ _ _ _ _ _ _=>body.getD j (.Pass ⟨0,0,0,0⟩)
 | _=>.Pass ⟨0,0,0,0⟩
def dH (s:Stmt):Arguments:=match s with
 | .FunctionDef _ a _ _ _ _ _ _ _ _=>a
 | _=>{ posonlyargs:=[],args:=[],vararg:=none,kwonlyargs:=[],kw_defaults:=[],kwarg:=none,defaults:=[] }
def cP (s:Stmt):List Stmt:=match s with
 | .FunctionDef _ _ b _ _ _ _ _ _ _=>b
 | _=>[]
def aq (s:Stmt):Scope:=match s with
 | .FunctionDef _ _ _ _ _ _ sc _ _ _=>sc
 | _=>{ kind:=.function,names:=[],isGenerator:=false,isCoroutine:=false }
abbrev CX0:CXT:=fun _ _ _ _ _ _=>False
abbrev E0:XK:=fun _ _ _=>False
theorem bN {X:Cx}:Passes CX0 X E0:=fun _ _ _ _ _ _ _ h=>h.elim
structure Fun (K:PySem.W.Frag) (x qual:Str) (st:Stmt) (f:Addr) (fd:FuncData):Prop where
 ex:∃ (oc:Value) (od:Option Addr) (kV doc pm:Value) (an:Option Addr) (cdv ct:Value) (osl:Array (Option Value)),
  fd=PySem.W.fnOf x qual (dH st) (cP st) (aq st) .none kV doc pm an cdv ct∧K.lookup f=some ⟨oc,od,.func fd,osl⟩∧PySem.W.codeIn K cdv qual=true
 kp:PySem.W.keepIn K (.ref f)=true
section
variable {P:Program} {w:World} {K:PySem.W.Frag} {mg:Str→Option Value} {base:Heap}
theorem Fun.ok {x qual:Str} {st:Stmt} {f:Addr} {fd:FuncData} {N ps:List Str} {k:Nat} {sp:Sp} (F:Fun K x qual st f fd) (S:FnScope N ps (aq st)) (len:∀ vs H Q E,sp vs H Q E→vs.length=ps.length)
  (hbody:∀ (cdv:Value) (A:Around) (outer:List Env) (s:Shared) (H:Hp) (vs:List V) (Q:VK) (E:XK),Room k (A.deeper (envOfC qual (aq st) s.heap.objs.size f cdv))→sp vs H Q E→
   ∃ t,PSs (fJ CX0 P w K mg base N qual (aq st) f cdv A outer s H E).nox (cP st) t∧t { nx:=fun _ H'=>Q .non H',rt:=Q } (start N vs) H):FnOk P w K mg base CX0 (k+1) f fd ps sp:=by
 obtain ⟨oc,od,kV,doc,pm,an,cdv,ct,osl,rfl,lk,hcd⟩:=F.ex
 refine Am lk hcd S len fun A outer s H vs Q E hr hsp=>?_
 obtain ⟨t,h,q⟩:=hbody cdv A outer s H vs Q E hr hsp
 exact ⟨t,h.nox,q⟩
theorem Fun.binds {x qual:Str} {st:Stmt} {f:Addr} {fd:FuncData} {ps:List Str} (F:Fun K x qual st f fd)
  (h:∀ (kV doc pm:Value) (an:Option Addr) (cdv ct:Value) (us:List Value),us.length=ps.length→bindArgs (PySem.W.fnOf x qual (dH st) (cP st) (aq st) .none kV doc pm an cdv ct) ⟨us,[]⟩=pure (ps.zip us)):Binds K fd ps []:=by
 obtain ⟨oc,od,kV,doc,pm,an,cdv,ct,osl,rfl,lk,hcd⟩:=F.ex
 exact .all (h kV doc pm an cdv ct)
theorem rG {x qual:Str} {st:Stmt} {f:Addr} {oc:Value} {od an:Option Addr} {osl:Array (Option Value)} {kV doc pm cdv ct:Value} (l:K.lookup f=some ⟨oc,od,.func (PySem.W.fnOf x qual (dH st) (cP st) (aq st) .none kV doc pm an cdv ct),osl⟩)
  (c:PySem.W.codeIn K cdv qual=true) (k:PySem.W.keepIn K (.ref f)=true):Fun K x qual st f (PySem.W.fnOf x qual (dH st) (cP st) (aq st) .none kV doc pm an cdv ct):=⟨⟨oc,od,kV,doc,pm,an,cdv,ct,osl,rfl,l,c⟩,k⟩
end
theorem xT {A:Around} {k:Nat} (hr:Room k A):A.units+1<cLine:=Nat.lt_of_le_of_lt (Nat.add_le_add_left (by decide:1≤64) _) hr.units
theorem aW {n:Nat} (h:n≤1000):n<sizeLine:=Nat.lt_of_le_of_lt h (by decide)
section
variable {X:Cx}
theorem pv (i:Nat) {x:Str} {pos:Pos} (hN:X.N[i]?=some x:=by rfl) (hv:Vis X.env.scope x:=by first | exact Or.inl rfl | exact Or.inr (Or.inl rfl) | exact Or.inr (Or.inr rfl)) (hd:(x == ("__debug__":Str))=false:=by decide)
  (hcd:(x == ("__classdict__":Str))=false:=by decide):PE X (.Name x pos) (Cy i):=Bu hN hv hd hcd
end
theorem bh {A B:Prop} (h:B):if false=true then A else B:=by
 rw [if_neg Bool.false_ne_true]
 exact h
theorem bf {A B:Prop} (h:A):if true=true then A else B:=by
 rw [if_pos rfl]
 exact h
theorem du {c A B:Prop} [Decidable c] (h1:c→A) (h2:¬ c→B):if c then A else B:=by
 by_cases h:c
 ·rw [if_pos h]
  exact h1 h
 ·rw [if_neg h]
  exact h2 h
def Same (H H':Hp):Prop:=∀ b o,H b=some o→H' b=some o
theorem Same.refl (H:Hp):Same H H:=fun _ _ h=>h
theorem Same.trans {H H1 H2:Hp} (a:Same H H1) (b:Same H1 H2):Same H H2:=fun c o h=>b c o (a c o h)
theorem Same.free {H H':Hp} (e:Same H H') {l:Addr} (h:H' l=Option.none):H l=Option.none:=by
 cases q:H l with
 | none=>rfl
 | some o =>
  rw [e l o q] at h
  cases h
theorem Same.seq {K:PySem.W.Frag} {H H':Hp} {a:Addr} {xs:List V} (e:Same H H') (h:SqL K H a xs):SqL K H' a xs:=by
 rcases h with (h | ⟨o,h⟩) | h
 ·exact .inl (.inl (e _ _ h))
 ·exact .inl (.inr ⟨o,e _ _ h⟩)
 ·exact .inr h
end L2
set_option maxHeartbeats 4000000
namespace L2
open PySem PySem.Spec PyProof.Rows
def Big (i:Int):Prop:=i.natAbs<2 ^ 4000
def EB (i j:Int):Prop:=Big i∧Big j
def Ej (_ j:Int):Prop:=0<j∧Big j
section
variable {X:Cx}
theorem pH:cW X (.builtin "isinstance") (fun xs H Q=>∃ (x c:V) (t:Value) (b:Bool),xs=[x,c]∧TyOf X.K H x t∧(∃ u,RelV c u∧(∀ u',RelV c u'→u'=u)∧PySem.W.kitOne X.K t u=some b)∧Q (.bl b) H):=by
 intro pins s σ H xs us Q I r h
 obtain ⟨x,c,t,b,rfl,ty,⟨u,_,hu,e⟩,q⟩:=h
 obtain ⟨u1,u2,rfl,r1,r2⟩:=vals2 r
 have e2:=hu u2 r2
 subst e2
 exact u6 I r1 ty e fun tk=>⟨.bl b,H,I.tok _,rfl,q⟩
def C6 (K:PySem.W.Frag) (n:String):List V→Hp→VK→Prop:=fun xs H Q=>∃ (x:V) (t:Value) (b:Bool),xs=[x,.ty n]∧TyOf K H x t∧PySem.W.kitOne K t (.type n)=some b∧Q (.bl b) H
theorem bU (n:String):cW X (.builtin "isinstance") (C6 X.K n):=by
 intro pins s σ H xs us Q I r h
 obtain ⟨x,t,b,rfl,ty,e,q⟩:=h
 exact pH pins s σ H _ us Q I r ⟨x,.ty n,t,b,rfl,ty,⟨.type n,rfl,fun u' h'=>h',e⟩,q⟩
def EV (K:PySem.W.Frag) (C:Addr):List V→Hp→VK→Prop:=fun xs H Q=>∃ (x:V) (t:Value) (b:Bool),xs=[x,.ref C]∧TyOf K H x t∧PySem.W.kitOne K t (.ref C)=some b∧Q (.bl b) H
theorem Inv.turnedNew {pins:List (Addr×Obj)} {σ:St} {H:Hp} {s:Shared} {h':Heap} {t':Nat} {ch:List Addr} {a:Addr} {o:HO} (I:Inv X pins σ H s) (k:∀ b u,b∉ch→s.heap.get? b=some u→h'.get? b=some u)
  (hf:∀ b∈ch,ij X pins H b) (hp:s.heap.objs.size≤a) (new:ObjOk X.prog X.w (upd H a o) h' a o):Inv X pins σ (upd H a o) { s with heap:=h',toks:=t' }:=by
 have na:H a=none:=I.hok.fresh hp
 have nch:∀ b u,H b=some u→b∉ch:=fun b u e z=>by
  have:=(hf b z).1
  rw [this] at e
  cases e
 refine I.step (g':=s.gens) (d':=s.drawn) (ch:=ch) (fun b hb=>?_) (fun b u _ _ hc e _=>k b u hc e) (fun b u _ _ hc e _=>⟨u.slots,k b u hc e⟩) (fun b u _ e n=>?_)
  (fun b u hc e=>⟨u,k b u hc e⟩) (fun b xs e=>by rw [au (aG e na)]; exact e) (fun b u v e=>by rw [au (aG e na)]; exact e) (fun b ps e=>⟨#[],by rw [au (aG e na),e]; simp⟩) (fun m hm=>?_) (fun b u e=>?_) I.bare
 ·obtain ⟨_,f1,_,f3,f4,f5⟩:=hf b hb
  exact ⟨f3,f1,f4,f5⟩
 ·have hne:b≠a:=Nat.ne_of_lt (Nat.lt_of_lt_of_le (Heap.lt_size e) hp)
  rw [au hne]
  exact n
 ·obtain ⟨ob,es,ep,ho,r⟩:=hm
  exact ⟨ob,es,ep,k _ ob (fun z=>(hf _ z).2.1 rfl) ho,r⟩
 ·by_cases hb:b=a
  ·subst hb
   rw [ah] at e
   cases e
   exact new
  ·rw [au hb] at e
   refine (I.hok b u e).stay (fun c v hc q=>k c v ?_ q) (fun c q=>by rw [au (aG q na)]; exact q) fun c xs q=>by rw [au (aG q na)]; exact q
   rcases hc with z | z
   ·rw [z]; exact nch b u e
   ·exact nch c _ z
theorem Inv.turnedL {pins:List (Addr×Obj)} {σ:St} {H:Hp} {s:Shared} {h':Heap} {t':Nat} {ch:List Addr} (I:Inv X pins σ H s) (k:∀ b u,b∉ch→s.heap.get? b=some u→h'.get? b=some u)
  (hf:∀ b∈ch,ij X pins H b):Inv X pins σ H { s with heap:=h',toks:=t' }:=by
 have nch:∀ b u,H b=some u→b∉ch:=fun b u e z=>by
  have:=(hf b z).1
  rw [this] at e
  cases e
 refine I.step (g':=s.gens) (d':=s.drawn) (ch:=ch) (fun b hb=>?_) (fun b u _ _ hc e _=>k b u hc e) (fun b u _ _ hc e _=>⟨u.slots,k b u hc e⟩) (fun b u _ e n=>n)
  (fun b u hc e=>⟨u,k b u hc e⟩) (fun b xs e=>e) (fun b u v e=>e) (fun b ps e=>⟨#[],by rw [e]; simp⟩) (fun m hm=>?_) (fun b u e=>?_) I.bare
 ·obtain ⟨_,f1,_,f3,f4,f5⟩:=hf b hb
  exact ⟨f3,f1,f4,f5⟩
 ·obtain ⟨ob,es,ep,ho,r⟩:=hm
  exact ⟨ob,es,ep,k _ ob (fun z=>(hf _ z).2.1 rfl) ho,r⟩
 ·refine (I.hok b u e).stay (fun c v hc q=>k c v ?_ q) (fun c q=>q) fun c xs q=>q
  rcases hc with z | z
  ·rw [z]; exact nch b u e
  ·exact nch c _ z
end
def Ite (K:PySem.W.Frag) (a:Addr):It :=
 ⟨fun i H=>∃ xs x,SqL K H a xs∧xs[i]?=some x,fun i H v H'=>∃ T x,H T=none∧H'=upd H T (.tup [.int (i:Int),x])∧v=.ref T∧∀ xs,SqL K H a xs→xs[i]?=some x,fun i H=>∃ xs,SqL K H a xs∧xs.length≤i⟩
theorem vt {P:Program} {w:World} {K:PySem.W.Frag} {elts:List Expr} {x1:Nat} {tp:Pos} (a e it:Addr) (hei:e≠it) :
  Turn P w K (.Tuple elts x1 tp) (Ite K a) [e,it] e (fun i h=>(∃ old,IsEnum h e it i old)∧h.IsListIter it a i) where
 mem:=by simp
 obj:=fun i h st b hb=>by
  obtain ⟨⟨old,he⟩,⟨o,e1,c,d⟩⟩:=st
  rcases List.mem_cons.mp hb with z | z
  ·subst z
   exact ⟨_,he,fun v q=>nomatch q⟩
  ·have z':b=it:=by simpa using z
   subst z'
   exact ⟨o,e1,fun v q=>by rw [d] at q; cases q⟩
 keep:=fun i h h' st k=>⟨st.1.elim fun old he=>⟨old,k e (by simp) _ he⟩,st.2.at fun o q=>k it (by simp) o q⟩
 item:=by
  intro X hP hw hK hc i pins s σ H E I hf st hg
  subst hP hw hK
  obtain ⟨xs,x,hq,hx⟩:=hg
  obtain ⟨its,rv,p,hz⟩:=I.list hq
  obtain ⟨u,hu,ru⟩:=rv.get hx
  obtain ⟨⟨old,he⟩,hit⟩:=st
  refine wpAny_pyNext_enum_item he hit p.isList (x:=u) (by simpa using hu) hei fun h' ho hit' hT hsz hk=>?_
  have helt:e<s.heap.objs.size:=Heap.lt_size he
  have hilt:it<s.heap.objs.size:=by obtain ⟨_,q,_⟩:=hit; exact Heap.lt_size q
  refine ⟨_,rfl,?_⟩
  refine wpAny_letOwnedTupleGo_enum ho fun h2 he2 hs2=>?_
  have k2:∀ b o,b∉[e,it]→s.heap.get? b=some o→h2.get? b=some o:=fun b o hb q=>by
   have n1:b≠e:=fun z=>hb (by simp [z])
   have n2:b≠it:=fun z=>hb (by simp [z])
   exact (hs2.2 b n1).trans (hk b o n1 n2 q)
  have t2:h2.get? s.heap.objs.size=some { cls:=.type "tuple",data:=.seq #[.int i s.toks,u] }:=(hs2.2 _ (Nat.ne_of_gt helt)).trans hT
  have hn:H s.heap.objs.size=none:=I.hok.fresh (Nat.le_refl _)
  have new:ObjOk X.prog X.w (upd H s.heap.objs.size (.tup [.int (i:Int),x])) h2 s.heap.objs.size (.tup [.int (i:Int),x]) :=
   ⟨by simp only [List.length_cons,List.length_nil]; rw [sizeLine_eq]; decide,[.int i s.toks,u],.cons ⟨_,rfl⟩ (.cons ru .nil),⟨_,t2,rfl,_,rfl⟩⟩
  have I2:Inv X pins σ (upd H s.heap.objs.size (.tup [.int (i:Int),x])) { s with heap:=h2,toks:=s.toks+1 }:=I.turnedNew k2 hf (Nat.le_refl _) new
  refine ⟨.ref s.heap.objs.size,_,I2,rfl,⟨s.heap.objs.size,x,hn,rfl,rfl,fun ys hy=>by rw [I.list_inj hy hq]; exact hx⟩,⟨⟨u,?_⟩,hit'.at fun o q=>(hs2.2 it hei.symm).trans q⟩,fun b hb=>?_⟩
  ·simpa using he2
  ·have hb1:b≠s.heap.objs.size:=by
    rcases List.mem_cons.mp hb with z | z
    ·rw [z]; exact Nat.ne_of_lt helt
    ·have z':b=it:=by simpa using z
     rw [z']; exact Nat.ne_of_lt hilt
   rw [au hb1]
   exact (hf b hb).1
 done:=by
  intro X hP hw hK hc i pins s σ H E I hf st hg
  subst hP hw hK
  obtain ⟨xs,hq,hx⟩:=hg
  obtain ⟨its,rv,p,hz⟩:=I.list hq
  obtain ⟨⟨old,he⟩,hit⟩:=st
  have hl:=rv.length
  refine wpAny_pyNext_enum_end (I.ok.hd hc) he hit p.isList (by simp; omega) fun h' eb=>⟨rfl,?_⟩
  exact I.turnedL (t':=s.toks) (fun b o hb q=>eb b o (fun z=>hb (by simp [z])) q) hf
 self:=fun _ _ _ _ _ st h=>by
  obtain ⟨⟨old,he⟩,_⟩:=st
  exact wpAny_pyIter_enum he h
section
variable {X:Cx}
def CT (K:PySem.W.Frag) (ta:TA):TI:=fun σ H R=>ta σ H fun vs H1=>∃ a,vs=[.ref a]∧(∃ xs,SqL K H1 a xs)∧R (Ite K a) H1
theorem yU {a:Expr} {ta:TA} {p pos tp:Pos} {elts:List Expr} {x1:Nat} (hg:Gl X "enumerate") (hm:X.mg "enumerate"=none) (ha:PA X [a] ta) (hs:starEach [a] X.env=[(false,eval a X.env)]:=by rfl) :
  PI X (.Tuple elts x1 tp) (.Call (.Name "enumerate" p) [a] [] pos) (CT X.K ta):=by
 intro pins s σ H R I h
 refine Call_ (fL I hg hm boot_enumerate (PyProof.Rows.callWith_type1 (thn (ha pos pins s σ H _ I h) fun us s1 ⟨vs,H1,I1,r1,q1⟩=>?_) hs rfl))
 obtain ⟨l,e,⟨xs,hx⟩,q⟩:=q1
 subst e
 obtain ⟨u,rfl,ru⟩:=vals1 r1
 cases ru
 obtain ⟨its,rv,pl,hz⟩:=I1.list hx
 refine call_enumerate_list pl.isList fun h' he hit hsz hk=>?_
 refine wpAny_pyIter_enum he ?_
 have hfp:∀ b∈[s1.heap.objs.size+1,s1.heap.objs.size],ij X pins H1 b:=fun b hb=>by
  have hge:s1.heap.objs.size≤b:=by
   rcases List.mem_cons.mp hb with z | z
   ·omega
   ·have z':b=s1.heap.objs.size:=by simpa using z
    omega
  exact I1.fpOk hge (I1.hok.fresh hge)
 exact ⟨s1.heap.objs.size+1,[s1.heap.objs.size+1,s1.heap.objs.size],_,_,H1,rfl,I1.kept (t':=s1.toks) hk,vt l _ _ (Nat.succ_ne_self _),⟨⟨_,he⟩,hit⟩,hfp,q⟩
end
theorem vJ {K:PySem.W.Frag} {a:Addr} {xs:List V} {g:TG} {tb:TS} {D:Ends} {σ:St} {H:Hp} (Pv:Nat→St→Hp→Prop) (h0:Pv 0 σ H) (hl:∀ i σ H,i≤xs.length→Pv i σ H→SqL K H a xs)
  (hs:∀ i x σ H T,xs[i]?=some x→Pv i σ H→H T=none→g (.ref T) σ (upd H T (.tup [.int (i:Int),x])) fun σ2 H2=>tb { D with nx:=Pv (i+1),ct:=Pv (i+1),bk:=D.nx } σ2 H2) (hd:∀ σ H,Pv xs.length σ H→D.nx σ H) :
  ∃ W:Nat→Nat→St→Hp→Prop,(∃ m,W 0 m σ H)∧∀ i m σ H,W i m σ H→
   ((Ite K a).stop i H∧D.nx σ H)∨((Ite K a).go i H∧∃ N:St→Hp→Prop,(∀ σ' H',N σ' H'→∃ m',m'<m∧W (i+1) m' σ' H')∧∀ x H',(Ite K a).yld i H x H'→g x σ H' fun σ2 H2=>tb { D with nx:=N,ct:=N,bk:=D.nx } σ2 H2):=by
 refine ⟨fun i m σ H=>m=xs.length - i∧i≤xs.length∧Pv i σ H,⟨xs.length,by simp,Nat.zero_le _,h0⟩,?_⟩
 rintro i m σ H ⟨rfl,hi,p⟩
 have q:=hl i σ H hi p
 by_cases hlt:i<xs.length
 ·refine .inr ⟨⟨xs,xs[i],q,by simp [hlt]⟩,Pv (i+1),fun σ' H' p'=>⟨xs.length - (i+1),by omega,rfl,hlt,p'⟩,fun v H' y=>?_⟩
  obtain ⟨T,x,hT,e1,e2,y⟩:=y
  subst e1 e2
  exact hs i x σ H T (y xs q) p hT
 ·have e:i=xs.length:=by omega
  subst e
  exact .inl ⟨⟨xs,q,Nat.le_refl _⟩,hd σ H p⟩
section
variable {prog:Program} {w:World} {A:Around} {E:Value→Shared→Prop} {s:Shared}
end
section
variable {X:Cx} {pos:Pos}
def Ey (K:PySem.W.Frag) (n:Nat) (t:TGs):TG:=fun v σ H Q=>∃ a xs,v=.ref a∧SqL K H a xs∧xs.length=n∧t xs σ H Q
end
structure Cal (P:Program) (w:World) (K:PySem.W.Frag) (mg:Str→Option Value) (base:Heap) (k:Nat) (x:Str) (ps:List Str) (sp:Sp):Prop where
 ex:∃ (f:Addr) (fd:FuncData),FnOk P w K mg base CX0 k f fd ps sp∧Binds K fd ps []∧PySem.W.keepIn K (.ref f)=true∧mg x=some (.ref f)
section
variable {X:Cx} {k j:Nat} {x:Str} {ps:List Str} {sp:Sp} {p pos:Pos} {e:Expr} {es:List Expr} {t:TA}
theorem az (C:Cal X.prog X.w X.K X.mg X.base k x ps sp) (hr:Room j X.A) (hj:k≤j) (hg:Gl X x) (ha:PA X (e::es) t) (hdb:(x == ("__debug__":Str))=false:=by decide) (he:starEach (e::es) X.env=(false,eval e X.env)::starEach es X.env:=by rfl) (hpl:(backTo pos (starEach es X.env)).any (·.1)=false:=by rfl) :
  PE X (.Call (.Name x p) (e::es) [] pos) (tH sp [] E0 t):=by
 obtain ⟨f,fd,G,b,kp,m⟩:=C.ex
 exact sk G (hr.mono hj) hg m kp b .nil bN ha hdb he hpl
end
theorem ao {H:Hp} {p:Addr} (h:H p=none) (o:HO):Same H (upd H p o):=fun b u q=>by rw [au (aG q h)]; exact q
theorem Same.upd {H H1:Hp} {p:Addr} (s:Same H H1) (h:H p=none) (o:HO):Same H (upd H1 p o):=fun b u q=>by rw [au (aG q h)]; exact s b u q
theorem small {n:Nat} (h:n≤1000):n≤sizeLine:=Nat.le_of_lt (aW h)
end L2
namespace L2
open PySem PySem.Spec PyProof.Rows
structure FunAt (K:PySem.W.Frag) (x:Str) (st:Stmt):Prop where
 ex:∃ (f:Addr) (fd:FuncData),Fun K x x st f fd∧PySem.W.nsIn K mainGlobals x=some (some (.ref f))
theorem wt {K:PySem.W.Frag} {x:Str} {st:Stmt} {f:Addr} {oc:Value} {od an:Option Addr} {osl:Array (Option Value)} {kV doc pm cdv ct:Value} (a:PySem.W.nsIn K mainGlobals x=some (some (.ref f)))
  (l:K.lookup f=some ⟨oc,od,.func (PySem.W.fnOf x x (dH st) (cP st) (aq st) .none kV doc pm an cdv ct),osl⟩)
  (c:PySem.W.codeIn K cdv x=true) (k:PySem.W.keepIn K (.ref f)=true):FunAt K x st:=⟨f,_,rG (st:=st) l c k,a⟩
theorem FunAt.cal {P:Program} {w:World} {K:PySem.W.Frag} {h base:Heap} {mg:Str→Option Value} {x:Str} {st:Stmt} {ps:List Str} {k:Nat} {sp:Sp} (F:FunAt K x st) (X:K.In h) (G:h.Ns mainGlobals mg)
  (hb:∀ (kV doc pm:Value) (an:Option Addr) (cdv ct:Value) (us:List Value),us.length=ps.length→bindArgs (PySem.W.fnOf x x (dH st) (cP st) (aq st) .none kV doc pm an cdv ct) ⟨us,[]⟩=pure (ps.zip us))
  (ok:∀ (f:Addr) (fd:FuncData),Fun K x x st f fd→FnOk P w K mg base CX0 k f fd ps sp):Cal P w K mg base k x ps sp:=by
 obtain ⟨f,fd,F1,a⟩:=F.ex
 exact ⟨f,fd,ok f fd F1,F1.binds hb,F1.kp,PySem.W.mg_of X G a⟩
theorem FunAt.law {P:Program} {w:World} {K:PySem.W.Frag} {h:Heap} {mg:Str→Option Value} {x p:Str} {st:Stmt} {fa:Addr} {k:Nat} {sp:Sp} (F:FunAt K x st) (X:K.In h) (G:h.Ns mainGlobals mg) (hfa:mg x=some (.ref fa))
  (hb:∀ (kV doc pm:Value) (an:Option Addr) (cdv ct:Value) (u:Value),bindArgs (PySem.W.fnOf x x (dH st) (cP st) (aq st) .none kV doc pm an cdv ct) ⟨[u],[]⟩=pure [(p,u)])
  (ok:∀ (base:Heap),K.In base→base.Ns mainGlobals mg→∀ (f:Addr) (fd:FuncData),Fun K x x st f fd→FnOk P w K mg base CX0 k f fd [p] sp) :
  ∃ fd:FuncData,(∀ (s:Shared) (u:Value),BindsTo s fd ⟨[u],[]⟩ [(p,u)])∧∀ base:Heap,K.In base→base.Ns mainGlobals mg→FnOk P w K mg base CX0 k fa fd [p] sp:=by
 obtain ⟨f,fd,F1,a⟩:=F.ex
 have e:=hfa.symm.trans (PySem.W.mg_of X G a)
 cases e
 refine ⟨fd,fun s u=>?_,fun base kb nb=>ok base kb nb _ fd F1⟩
 obtain ⟨oc,od,kV,doc,pm,an,cdv,ct,osl,rfl,lk,hcd⟩:=F1.ex
 exact .of_eq (hb kV doc pm an cdv ct u)
end L2
namespace L2
open PySem PySem.Spec PyProof.Rows
theorem de {K:PySem.W.Frag} {x qual:Str} {st:Stmt} {f:Addr} {oc:Value} {od an:Option Addr} {osl:Array (Option Value)} {kV doc pm cdv ct:Value}
  (l:K.lookup f=some ⟨oc,od,.func (PySem.W.fnOf x qual (dH st) (cP st) (aq st) .none kV doc pm an cdv ct),osl⟩)
  (c:PySem.W.codeIn K cdv qual=true) (k:PySem.W.keepIn K (.ref f)=true):∃ fd,Fun K x qual st f fd:=⟨_,rG (st:=st) l c k⟩
end L2
namespace L2
open PySem PySem.Spec PyProof.Rows
theorem cB:∀ (names:List (Str×NameKind)) (n:Nat) (acc:List (Str×Addr)),cellsFrom n names acc=cellsFrom n names []++acc
 | [],_,_=>rfl
 | (x,k)::r,n,acc=>by
  unfold cellsFrom
  split
  ·rw [cB r (n+1) ((x,n)::acc),cB r (n+1) [(x,n)],List.append_assoc]
   rfl
  ·exact cB r n acc
theorem eD {y:Str}:∀ (names:List (Str×NameKind)) (n:Nat),(∀ k,(y,k)∈names→k≠.cell)→(cellsFrom n names []).lookup y=none
 | [],_,_=>rfl
 | (x,k)::r,n,h=>by
  have hr:∀ k,(y,k)∈r→k≠.cell:=fun k' hk=>h k' (List.mem_cons_of_mem _ hk)
  unfold cellsFrom
  split
  ·rename_i hk
   rw [cB,List.lookup_append,eD r (n+1) hr]
   have hne:(y == x)=false:=by
    cases e:(y == x) with
    | false=>rfl
    | true =>
     have e':y=x:=beq_iff_eq.mp e
     subst e'
     exact absurd (beq_iff_eq.mp hk) (h k List.mem_cons_self)
   show Option.or none (List.lookup y [(x,n)])=none
   rw [List.lookup_cons,hne]
   rfl
  ·exact eD r n hr
theorem gj {env:Env} (f:Str×NameKind→List (Str×Addr)→Sem (ForInStep (List (Str×Addr))))
  (hf:∀ name kind cs,f (name,kind) cs=if kind == .free then (do let a ← cellOf env name; pure (.yield ((name,a)::cs))) else pure (.yield cs)) :
  ∀ (names:List (Str×NameKind)) (acc:List (Str×Addr)),(∀ y∈names,y.2=.free→∃ c,env.cells.lookup y.1=some c)→(∀ y c,acc.lookup y=some c→env.cells.lookup y=some c)→
   ∃ cl,forIn names acc f=pure cl∧(∀ y c,cl.lookup y=some c→env.cells.lookup y=some c)∧(∀ y c,acc.lookup y=some c→∃ c',cl.lookup y=some c')∧∀ y∈names,y.2=.free→∃ c,cl.lookup y.1=some c
 | [],acc,_,ha=>⟨acc,by rw [List.forIn_nil],ha,fun y c e=>⟨c,e⟩,fun y hy=>nomatch hy⟩
 | (x,k)::r,acc,hc,ha=>by
  have hr:∀ y∈r,y.2=.free→∃ c,env.cells.lookup y.1=some c:=fun y hy=>hc y (List.mem_cons_of_mem _ hy)
  by_cases hk:k=.free
  ·obtain ⟨c,ec⟩:=hc (x,k) List.mem_cons_self hk
   have ha':∀ y d,((x,c)::acc).lookup y=some d→env.cells.lookup y=some d:=fun y d e=>by
    rw [List.lookup_cons] at e
    cases q:(y == x) with
    | true =>
     rw [q] at e
     have e1:c=d:=Option.some.inj e
     rw [beq_iff_eq.mp q,← e1]
     exact ec
    | false=>rw [q] at e; exact ha y d e
   obtain ⟨cl,h1,h2,h3,h4⟩:=gj f hf r ((x,c)::acc) hr ha'
   refine ⟨cl,?_,h2,fun y d e=>?_,fun y hy hf=>?_⟩
   ·rw [List.forIn_cons,hf,if_pos (by rw [hk]; rfl)]
    have:cellOf env x=pure c:=by unfold cellOf; rw [ec]
    rw [this]
    simp only [pure_bind]
    exact h1
   ·cases q:(y == x) with
    | true=>exact h3 y c (by rw [List.lookup_cons,q])
    | false=>exact h3 y d (by rw [List.lookup_cons,q]; exact e)
   ·rcases List.mem_cons.mp hy with z | z
    ·subst z
     exact h3 x c (by rw [List.lookup_cons]; simp)
    ·exact h4 y z hf
  ·obtain ⟨cl,h1,h2,h3,h4⟩:=gj f hf r acc hr ha
   refine ⟨cl,?_,h2,h3,fun y hy hf=>?_⟩
   ·rw [List.forIn_cons,hf,if_neg (by intro z; exact hk (beq_iff_eq.mp z))]
    simp only [pure_bind]
    exact h1
   ·rcases List.mem_cons.mp hy with z | z
    ·subst z
     exact absurd hf hk
    ·exact h4 y z hf
theorem lU {scope:Scope} {env:Env} (hc:∀ y∈scope.names,y.2=.free→∃ c,env.cells.lookup y.1=some c) :
  ∃ cl,closureFor scope env=pure cl∧(∀ y c,cl.lookup y=some c→env.cells.lookup y=some c)∧∀ y∈scope.names,y.2=.free→∃ c,cl.lookup y.1=some c:=by
 unfold closureFor
 obtain ⟨cl,h1,h2,_,h4⟩:=gj (env:=env) (fun (x:Str×NameKind) (r:List (Str×Addr))=>if x.2 == .free then (do let a ← cellOf env x.1; pure (.yield ((x.1,a)::r))) else pure (.yield r)) (fun _ _ _=>rfl) scope.names [] hc (fun y c e=>by cases e)
 refine ⟨cl,?_,h2,h4⟩
 have e:∀ (f:Str×NameKind→List (Str×Addr)→Sem (ForInStep (List (Str×Addr)))),(∀ x r,f x r=if x.2 == .free then (do let a ← cellOf env x.1; pure (.yield ((x.1,a)::r))) else pure (.yield r))→(forIn scope.names ([]:List (Str×Addr)) f >>= fun cs=>pure cs)=(pure cl:Sem _):=fun f hf=>by
  have:f=fun (x:Str×NameKind) (r:List (Str×Addr))=>if x.2 == .free then (do let a ← cellOf env x.1; pure (.yield ((x.1,a)::r))) else pure (.yield r):=by
   funext x r
   exact hf x r
  rw [this,h1]
  rfl
 refine e _ fun x r=>?_
 obtain ⟨n,k⟩:=x
 cases hk:k == NameKind.free <;> simp [hk]
section
variable {prog:Program} {w:World} {A:Around} {E:Value→Shared→Prop} {R:Result→Shared→Prop} {s:Shared}
theorem uh {elt target iter:Expr} {ifs:List Expr} {scope:Scope} {pos:Pos} {it acc:Value} {env:Env} (I:Nat→Shared→Prop)
  (turn:∀ n s,I n s→wpAny (model prog w) A (pyNext it) (fun r s₁=>match r with
   | none=>R (.ok .next) s₁
   | some v=>wpAny (model prog w) A (letOwnedTupleGo target it v) (fun _ s₁'=>wpAny (model prog w) A (assign target env v) (fun _ s₂ =>
     wpAny (model prog w) A (forIn ifs true fun c r=>if r=true then do let ok ← isTrue c env (eval c env); pure (ForInStep.yield ok) else pure (ForInStep.yield r)) (fun ok s₃ =>
      if ok=true then wpAny (model prog w) A (eval elt env) (fun x s₄ =>
       wpAny (model prog w) A (call (.builtin "list.append") [acc,x]) (fun _ s₅=>∃ m,m<n∧I m s₅) (fun _ _=>False) s₄) (fun _ _=>False) s₃
      else ∃ m,m<n∧I m s₃) (fun _ _=>False) s₂) (fun _ _=>False) s₁') (fun _ _=>False) s₁) (fun _ _=>False) s)
  (n:Nat) (h:I n s) :
  codeAny (model prog w) A (.compLoop (.ListComp elt [⟨target,iter,ifs,0⟩] scope pos) 0 it acc env) R s:=by
 refine codeAny_loop rfl I (fun n s hI=>?_) n h
 show wpAny _ A ((compTurn (.ListComp elt [⟨target,iter,ifs,0⟩] scope pos) 0 it acc env).onRaise (fun x=>do noteFrame x env; theTreesLotGoes x)) _ _ s
 refine wpAny_noted ?_
 rw [compTurn_list]
 refine wpAny_mono (E:=fun _ _=>False) ?_ (fun _ _ z=>z) fun _ _ z=>z.elim
 refine wpAny_bind (wpAny_standAt (wpAny_bind (wpAny_mono (turn n s hI) (fun r s₁ h₁=>?_) fun _ _ h'=>h')))
 cases r with
 | none=>exact wpAny_pure h₁
 | some v =>
  refine wpAny_bind (wpAny_mono h₁ (fun _ s₁' h₁'=>?_) fun _ _ h'=>h')
  refine wpAny_bind (wpAny_mono h₁' (fun _ s₂ h₂=>wpAny_bind (wpAny_mono h₂ (fun ok s₃ h₃=>?_) fun _ _ h'=>h')) fun _ _ h'=>h')
  cases ok with
  | false=>exact wpAny_pure ⟨rfl,h₃⟩
  | true =>
   exact wpAny_bind (wpAny_bind (wpAny_mono h₃ (fun x s₄ h₄=>wpAny_bind (wpAny_mono h₄ (fun _ s₅ h₅=>wpAny_pure (wpAny_pure ⟨rfl,h₅⟩)) fun _ _ h'=>h')) fun _ _ h'=>h'))
theorem wX {scope:Scope} {env:Env} {cl:List (Str×Addr)} {Q:Env→Shared→Prop}
  (hQ:Q { scope:=scope,locals:=s.heap.objs.size,globals:=env.globals,cells:=cellsFrom (s.heap.objs.size+1) scope.names cl,qual:=env.qual,func:=none,code:=env.code,frame:=env.frame,builtins:=env.builtins }
   { s with heap:=pushCells (s.heap.push { cls:=.type "dict",data:=.dict #[] }) scope.names }) :
  wpAny (model prog w) A (newFunctionEnv scope env.globals cl [] env.qual none .none (some env)) Q E s:=by
 simp only [newFunctionEnv,Option.isSome_some,if_true]
 refine wpAny_bind (wpAny_alloc ?_)
 refine wpAny_bind (wpAny_layCells _ (fun name kind cells=>by cases hkc:kind == NameKind.cell <;> simp [hkc]) _ _ _ _ ?_)
 rw [show ({ s with heap:=s.heap.push { cls:=.type "dict",data:=.dict #[] } }:Shared).heap.objs.size=s.heap.objs.size+1 from Heap.size_push ..]
 rw [List.forIn_nil]
 exact wpAny_bind (wpAny_pure (wpAny_pure hQ))
end
end L2
namespace L2
open PySem PySem.Spec PyProof.Rows
def eV (X:Cx) (scope:Scope) (C:Addr) (cells:List (Str×Addr)) (N':List Str) (fp:List Addr) (s:Shared) (H:Hp):Cx where
 prog:=X.prog
 w:=X.w
 K:=X.K
 mg:=X.mg
 base:=X.base
 A:=X.A
 N:=N'
 s₀:=s
 H₀:=H
 env:={ scope:=relabel scope X.env,locals:=C,globals:=X.env.globals,cells:=cells,qual:=X.env.qual,func:=none,code:=X.env.code,frame:=X.env.frame,builtins:=X.env.builtins }
 outer:=X.stack
 stack:=X.stack
 ex:=fp
 fn:=fun y=>decide (scope.names.lookup y=some .cell)
 calm:=X.calm
 pn:=[]
 xe:=fun _ _=>False
def qh:Option NameKind→Bool
 | some .cell=>true
 | some .free=>true
 | _=>false
theorem iQ {o:Option NameKind} (h:qh o=true):o=some .cell∨o=some .free:=by
 cases o with
 | none=>cases h
 | some k=>cases k <;> first | exact .inl rfl | exact .inr rfl | cases h
def sX (env:Env) (scope:Scope) (y:Str):Bool:=qh (env.scope.names.lookup y) && qh ((relabel scope env).names.lookup y) && scope.names.all (fun z=>!(z.1 == y) || !(z.2 == .cell)) && scope.names.any fun z=>z.1 == y && z.2 == .free
def PTs (X:Cx) (ifs:List Expr) (t:TT):Prop :=
 ∀ (pins:List (Addr×Obj)) (s:Shared) (σ:St) (H:Hp) (Q:Bool→Hp→Prop),Inv X pins σ H s→t σ H Q→
  wpAny (model X.prog X.w) X.A (forIn ifs true fun c r=>if r=true then do let ok ← isTrue c X.env (eval c X.env); pure (ForInStep.yield ok) else pure (ForInStep.yield r)) (TP X pins σ Q) X.xe s
def Ax:TT:=fun _ H Q=>Q true H
theorem bV {X:Cx}:PTs X [] Ax:=fun pins s σ H Q I h=>by
 rw [List.forIn_nil]
 exact wpAny_pure ⟨H,I,h⟩
theorem si {X:Cx} {c:Expr} {t:TT} (h:PT X c t):PTs X [c] t:=fun pins s σ H Q I hw=>by
 rw [List.forIn_cons]
 simp only [if_true]
 refine wpAny_bind (wpAny_bind (thn (h pins s σ H Q I hw) fun b s1 q=>wpAny_pure ?_))
 show wpAny _ _ (forIn [] b _) _ _ s1
 rw [List.forIn_nil]
 exact wpAny_pure q
def capσ (nv:Nat) (ix:List Nat) (σ:St):St:=List.replicate nv none++ix.map fun i=>(σ[i]?).getD none
def jL (J:It) (g:TG) (tt:TT) (te:TE) (nv:Nat) (ix:List Nat) (σ:St) (Q:VK) (H1:Hp) (D:Addr):Prop:=∃ W:Nat→Nat→Hp→Prop,(∃ m,W 0 m (upd H1 D (.lst [])))∧∀ i m H2,W i m H2→
 (J.stop i H2∧Q (.ref D) H2)∨(J.go i H2∧∃ Nx:Hp→Prop,(∀ H',Nx H'→∃ m',m'<m∧W (i+1) m' H')∧∀ x H',J.yld i H2 x H'→g x (capσ nv ix σ) H' fun σ2 H3=>σ2.drop nv=(capσ nv ix σ).drop nv∧tt σ2 H3 fun b H4 =>
  if b=true then te σ2 H4 fun v H5=>∃ xs,H5 D=some (.lst xs)∧xs.length<sizeLine∧Nx (upd H5 D (.lst (xs++[v]))) else Nx H4)
def AF (wi:TI) (g:TG) (tt:TT) (te:TE) (nv:Nat) (ix:List Nat):TE:=fun σ H Q=>wi σ H fun J H1=>∀ D,H1 D=none→jL J g tt te nv ix σ Q H1 D
section
variable {X:Cx} {elt target iter:Expr} {ifs:List Expr} {scope:Scope} {pos:Pos} {g:TG} {tt:TT} {te:TE}
theorem lI {pins:List (Addr×Obj)} {σ:St} {H:Hp} {s:Shared} {J:It} {fp:List Addr} {it:Addr} {tn:Nat→Heap→Prop} {Q:VK} {E:Value→Shared→Prop} {RR:Value→Addr→Result→Shared→Prop} {cl:List (Str×Addr)} (xs capN:List Str) (ix:List Nat) (hc:X.calm=true)
  (hg:∀ C cells fp s H,PG (eV X scope C cells (xs++capN) fp s H) target g) (ht:∀ C cells fp s H,PTs (eV X scope C cells (xs++capN) fp s H) ifs tt) (he:∀ C cells fp s H,PE (eV X scope C cells (xs++capN) fp s H) elt te)
  (hix:ix.map (fun i=>X.N[i]?)=capN.map some) (hcap:capN.all (sX X.env scope)=true) (hfree:scope.names.all (fun z=>!(z.2 == .free) || qh (X.env.scope.names.lookup z.1))=true) (hkind:scope.kind=.function)
  (hclo:∀ y c,cl.lookup y=some c→X.env.cells.lookup y=some c) (hclh:∀ y∈scope.names,y.2=.free→∃ c,cl.lookup y.1=some c)
  (I:Inv X pins σ H s) (T:Turn X.prog X.w X.K target J fp it tn) (st:tn 0 s.heap) (hf:∀ b∈fp,ij X pins H b)
  (h:∀ D,H D=none→jL J g tt te xs.length ix σ Q H D)
  (hRR:∀ D C s' H' m,Inv X pins σ H' s'→ij X pins H' C→s'.heap.Ns C m→Q (.ref D) H'→RR (.ref D) C (.ok .next) s') :
  wpAny (model X.prog X.w) X.A (newList []) (fun acc s₃=>wpAny (model X.prog X.w) X.A (newFunctionEnv scope X.env.globals cl [] X.env.qual none .none (some X.env)) (fun cenv s₄ =>
   codeAny (model X.prog X.w) X.A (.compStart (.ListComp elt [⟨target,iter,ifs,0⟩] scope pos) 0 (.ref it) acc { cenv with scope:=relabel scope X.env }) (RR acc cenv.locals) s₄) E s₃) E s:=by
 refine wpAny_newObj_type (wX ?_)
 generalize hD:s.heap.objs.size=D
 have nD:H D=none:=I.hok.fresh (Nat.le_of_eq hD)
 generalize hH1:s.heap.push { cls:=.type "list",dict:=none,data:=.seq ([]:List Value).toArray }=h1
 have z1:h1.objs.size=D+1:=by rw [← hH1,Heap.size_push,hD]
 have k1:∀ b o,s.heap.get? b=some o→h1.get? b=some o:=fun b o e=>by rw [← hH1]; exact Heap.get?_push_of_some _ e
 have l1:h1.get? D=some { cls:=.type "list",dict:=none,data:=.seq ([]:List Value).toArray }:=by rw [← hH1,← hD]; exact Heap.get?_push_size _ rfl
 show codeAny _ _ _ (RR (.ref D) h1.objs.size) { s with heap:=pushCells (h1.push { cls:=.type "dict",data:=.dict #[] }) scope.names }
 rw [z1]
 generalize hH2:h1.push { cls:=.type "dict",data:=.dict #[] }=h2
 have z2:h2.objs.size=D+2:=by rw [← hH2,Heap.size_push,z1]
 have k2:∀ b o,h1.get? b=some o→h2.get? b=some o:=fun b o e=>by rw [← hH2]; exact Heap.get?_push_of_some _ e
 have n2:h2.Ns (D+1) (fun _=>none):=by rw [← hH2,← z1]; exact Heap.Ns.new h1 (.type "dict")
 have ok:=cellsFrom_ok scope.names h2 (D+2) [] ⟨fun _ _ hm=>(nomatch hm),List.Pairwise.nil⟩ (Nat.le_of_eq z2.symm)
 rw [z2] at ok
 have k3:=pushCells_keeps scope.names h2
 have n3:(pushCells h2 scope.names).Ns (D+1) (fun _=>none):=n2.keeps k3
 generalize hH3:pushCells h2 scope.names=h3 at ok k3 n3
 have kk:∀ b o,s.heap.get? b=some o→h3.get? b=some o:=fun b o e=>k3 b o (k2 b o (k1 b o e))
 have l3:h3.get? D=some { cls:=.type "list",dict:=none,data:=.seq ([]:List Value).toArray }:=k3 _ _ (k2 _ _ l1)
 rw [cB]
 generalize hcs:cellsFrom (D+2) scope.names []=cs at ok
 have csn:∀ y,(∀ k,(y,k)∈scope.names→k≠.cell)→cs.lookup y=none:=fun y hy=>by rw [← hcs]; exact eD _ _ hy
 have csh:∀ y,scope.names.lookup y=some .cell→∃ c,cs.lookup y=some c:=fun y hy=>by rw [← hcs]; exact l7 hy
 have cells_or:∀ y c,(cs++cl).lookup y=some c→(cs.lookup y=some c)∨(cs.lookup y=none∧cl.lookup y=some c):=fun y c e=>by
  rw [List.lookup_append] at e
  cases q:cs.lookup y with
  | some d=>rw [q] at e; exact .inl e
  | none=>rw [q] at e; exact .inr ⟨rfl,e⟩
 have newc:∀ y c,cs.lookup y=some c→D+2≤c∧h3.IsCell c none:=fun y c e=>⟨(ok.empty y c (PySem.mem_of_lookup e)).2,(ok.empty y c (PySem.mem_of_lookup e)).1⟩
 have oldc:∀ y c,cl.lookup y=some c→D > c∧(∃ v,h3.IsCell c v)∧H c=none:=fun y c e=>by
  obtain ⟨v,q⟩:=I.cell y c (hclo y c e)
  exact ⟨by rw [← hD]; exact q.lt,⟨v,q.keeps kk⟩,I.freeC y c (hclo y c e)⟩
 have szD:s.heap.objs.size≤D:=Nat.le_of_eq hD
 have szC:s.heap.objs.size≤D+1:=by omega
 let X':Cx:=eV X scope (D+1) (cs++cl) (xs++capN) fp s H
 have fpD:∀ b∈fp,D > b:=fun b hb=>by
  obtain ⟨o,e,_⟩:=T.obj 0 s.heap st b hb
  rw [← hD]
  exact Heap.lt_size e
 have okX:X'.Ok:=by
  refine ⟨I.ok.mod,?_,I.ok.glob,I.ok.blt,szC,fun x y c h1 h2=>?_,fun x hx=>?_,fun x c hx hl=>?_,fun _=>I.ok.hd hc,I.ok.frames,.inl rfl,fun b hb=>⟨?_,fun x c hl z=>?_⟩,fun b o e=>⟨(I.bs b o e).1,(I.bs b o e).2⟩,Nat.le_trans I.ok.bsz I.sz,fun b o e hb=>?_,fun b hb hz=>?_,I.stack,I.stkFree⟩
  ·show (relabel scope X.env).kind=.function
   exact hkind
  ·rcases cells_or x c h1 with e1 | ⟨_,e1⟩ <;> rcases cells_or y c h2 with e2 | ⟨_,e2⟩
   ·exact name_of_addr ok.apart (PySem.mem_of_lookup e1) (PySem.mem_of_lookup e2)
   ·have a1:=(newc x c e1).1
    have a2:=(oldc y c e2).1
    omega
   ·have a1:=(newc y c e2).1
    have a2:=(oldc x c e1).1
    omega
   ·exact I.ok.inj x y c (hclo x c e1) (hclo y c e2)
  ·
   have hm:∃ k,(x,k)∈scope.names∧(k=.free∨k=.cell):=by
    have hx':(relabel scope X.env).names.lookup x=some .cell∨(relabel scope X.env).names.lookup x=some .free:=hx
    have mem:∀ k,(relabel scope X.env).names.lookup x=some k→(x,k)∈(relabel scope X.env).names:=fun k e=>PySem.mem_of_lookup e
    rcases hx' with e | e
    ·obtain ⟨⟨n,k⟩,h1,h2⟩:=List.mem_map.mp (mem _ e)
     by_cases q:(k == NameKind.free && X.env.scope.kind == .function && X.env.kindOf n == some .cell)=true
     ·simp only [q,if_true] at h2
      cases h2
      simp only [Bool.and_eq_true] at q
      exact ⟨k,h1,.inl (beq_iff_eq.mp q.1.1)⟩
     ·simp only [q] at h2
      cases h2
      exact ⟨_,h1,.inr rfl⟩
    ·obtain ⟨⟨n,k⟩,h1,h2⟩:=List.mem_map.mp (mem _ e)
     by_cases q:(k == NameKind.free && X.env.scope.kind == .function && X.env.kindOf n == some .cell)=true
     ·simp only [q,if_true] at h2
      cases h2
     ·simp only [q] at h2
      cases h2
      exact ⟨_,h1,.inl rfl⟩
   obtain ⟨k,hk,hk2⟩:=hm
   show ∃ c,(cs++cl).lookup x=some c
   rw [List.lookup_append]
   cases q:cs.lookup x with
   | some d=>exact ⟨d,rfl⟩
   | none =>
    rcases hk2 with z | z
    ·subst z
     obtain ⟨c,e⟩:=hclh _ hk rfl
     exact ⟨c,e⟩
    ·subst z
     exfalso
     have:∀ (names:List (Str×NameKind)) (n:Nat),(x,NameKind.cell)∈names→(cellsFrom n names []).lookup x≠none:=by
      intro names
      induction names with
      | nil=>intro n hm; cases hm
      | cons p r ih =>
       intro n hm
       obtain ⟨a,b⟩:=p
       unfold cellsFrom
       split
       ·rw [cB,List.lookup_append]
        rcases List.mem_cons.mp hm with z | z
        ·cases z
         cases (cellsFrom (n+1) r []).lookup x with
         | some d=>intro z; cases z
         | none=>simp
        ·cases e:(cellsFrom (n+1) r []).lookup x with
         | some d=>intro z; cases z
         | none=>exact absurd e (ih (n+1) z)
       ·rename_i hb
        rcases List.mem_cons.mp hm with z | z
        ·cases z
         exact absurd rfl hb
        ·exact ih n z
     exact this scope.names (D+2) hk (by rw [hcs]; exact q)
  ·have hx':scope.names.lookup x=some .cell:=of_decide_eq_true hx
   rcases cells_or x c hl with e1 | ⟨e0,_⟩
   ·have:=(newc x c e1).1
    show s.heap.objs.size≤c
    omega
   ·obtain ⟨d,e⟩:=csh x hx'
    rw [e0] at e
    cases e
  ·exact Nat.ne_of_lt (Nat.lt_succ_of_lt (fpD b hb))
  ·rcases cells_or x c hl with e1 | ⟨_,e1⟩
   ·have a1:=(newc x c e1).1
    have a2:=fpD b hb
    subst z
    omega
   ·exact (hf b hb).2.2.2.2.1 x c (hclo x c e1) z
  ·obtain ⟨f0,f1,f2,f3,_⟩:=hf b hb
   rcases f3 with z | z
   ·exact I.ok.noex b o e z
   ·have a1:=(I.ok.bs b o e).1
    exact absurd (Nat.lt_of_lt_of_le (Heap.lt_size a1) z) (Nat.lt_irrefl _)
  ·have z:=I.stkSub b hz
   rcases List.mem_cons.mp z with q | q
   ·exact (hf b hb).2.1 q
   ·exact (hf b hb).2.2.1 q
 have hgens:AllBare s.gens:=I.bare
 have capl:capN.length=ix.length:=by
  have:=congrArg List.length hix
  rw [List.length_map,List.length_map] at this
  exact this.symm
 have I0:Inv X' [] (capσ xs.length ix σ) (upd H D (.lst [])) { s with heap:=h3 }:=by
  refine ⟨okX,rfl,hgens,Un.laid kk szD nD,⟨_,n3,fun i y v e1 e2 e3=>?_⟩,fun y c e=>?_,?_,fun y c e=>?_,fun p hp=>absurd hp (by show p∉([]:List (Addr×Obj))++[]; simp),I.hok.laid kk szD ⟨by decide,[],0,.nil,l3⟩,?_⟩
  ·
   have e1':(xs++capN)[i]?=some y:=e1
   have e2':(List.replicate xs.length none++ix.map fun i=>(σ[i]?).getD none)[i]?=some (some v):=e2
   by_cases hi:i<xs.length
   ·rw [List.getElem?_append_left (by simpa using hi),List.getElem?_replicate] at e2'
    rw [if_pos hi] at e2'
    cases e2'
   ·rw [List.getElem?_append_right (by omega)] at e1'
    rw [List.getElem?_append_right (by simpa using hi),List.length_replicate,List.getElem?_map] at e2'
    generalize i - xs.length=j at e1' e2'
    cases ej:ix[j]? with
    | none=>rw [ej] at e2'; cases e2'
    | some k =>
     rw [ej] at e2'
     have e2'':(σ[k]?).getD none=some v:=Option.some.inj e2'
     have hs:σ[k]?=some (some v):=by
      cases q:σ[k]? with
      | none=>rw [q] at e2''; cases e2''
      | some o=>rw [q] at e2''; exact congrArg some e2''
     have hN:X.N[k]?=some y:=by
      have q:=congrArg (fun l=>l[j]?) hix
      simp only [List.getElem?_map,ej,e1',Option.map_some] at q
      exact Option.some.inj q
     have hyc:=List.all_eq_true.mp hcap y (List.mem_of_getElem? e1')
     unfold sX at hyc
     simp only [Bool.and_eq_true] at hyc
     obtain ⟨⟨⟨c1,c2⟩,c3⟩,c4⟩:=hyc
     have vis:Vis X.env.scope y:=(iQ c1).elim (fun z=>.inr (.inl z)) fun z=>.inr (.inr z)
     obtain ⟨m0,_,hl0⟩:=I.loc
     obtain ⟨u,ru,lk⟩:=hl0 k y v hN hs vis
     refine ⟨u,ru,.inr ⟨iQ c2,?_⟩⟩
     rcases lk with ⟨q,_⟩ | ⟨_,c,ec,hcell⟩
     ·have q':X.env.scope.names.lookup y=some .local:=q
      rw [q'] at c1
      cases c1
     ·have no:cs.lookup y=none:=csn y fun k hk z=>by
       have:=List.all_eq_true.mp c3 _ hk
       subst z
       simp at this
      obtain ⟨z,hz,hz2⟩:=List.any_eq_true.mp c4
      simp only [Bool.and_eq_true] at hz2
      have ez:z.1=y:=beq_iff_eq.mp hz2.1
      obtain ⟨d,ed⟩:=hclh z hz (beq_iff_eq.mp hz2.2)
      rw [ez] at ed
      have:d=c:=Option.some.inj ((hclo y d ed).symm.trans ec)
      subst this
      refine ⟨d,?_,hcell.keeps kk⟩
      show (cs++cl).lookup y=some d
      rw [List.lookup_append,no]
      exact ed
  ·rcases cells_or y c e with e1 | ⟨_,e1⟩
   ·exact ⟨none,(newc y c e1).2⟩
   ·exact (oldc y c e1).2.1
  ·show (upd H D (.lst [])) (D+1)=none
   rw [au (Nat.succ_ne_self D)]
   exact I.hok.fresh szC
  ·rcases cells_or y c e with e1 | ⟨_,e1⟩
   ·have a1:=(newc y c e1).1
    rw [au (Nat.ne_of_gt (by omega:D<c))]
    exact I.hok.fresh (by omega)
   ·have a1:=oldc y c e1
    rw [au (Nat.ne_of_lt a1.1)]
    exact a1.2.2
  ·show (capσ xs.length ix σ).length=(xs++capN).length
   unfold capσ
   rw [List.length_append,List.length_replicate,List.length_map,List.length_append,capl]
 have st3:tn 0 h3:=T.keep 0 s.heap h3 st fun b _ o e=>kk b o e
 obtain ⟨W,⟨m0,w0⟩,turn⟩:=h D nD
 have fpX:∀ {pins':List (Addr×Obj)} {H':Hp},(∀ b∈fp,H' b=none)→(∀ p∈pins',∀ b∈fp,p.1≠b)→∀ b∈fp,ij X' pins' H' b:=fun {pins' H'} hn hp b hb=>by
  refine ⟨hn b hb,(okX.exf b hb).1,okX.exfs b hb,.inl hb,(okX.exf b hb).2,fun p hp'=>?_⟩
  rcases List.mem_append.mp hp' with q | q
  ·exact absurd (show p∈([]:List (Addr×Obj)) from q) (by simp)
  ·exact hp p q b hb
 have noHP:∀ {H':Hp},(∀ b∈fp,H' b=none)→∀ b∈fp,ij X' [] H' b:=fun hn=>fpX hn fun p hp=>absurd hp (by simp)
 have loop:∀ s₃:Shared,s₃={ s with heap:=h3 }→codeAny (model X.prog X.w) X.A (.compLoop (.ListComp elt [⟨target,iter,ifs,0⟩] scope pos) 0 (.ref it) (.ref D) X'.env) (RR (.ref D) (D+1)) s₃:=by
  rintro s₃ rfl
  refine uh (fun n s'=>∃ i H',Inv X' [] (capσ xs.length ix σ) H' s'∧tn i s'.heap∧(∀ b∈fp,H' b=none)∧W i n H') ?_ m0 ⟨0,_,I0,st3,fun b hb=>?_,w0⟩
  ·rintro n s' ⟨i,H',I',st',fr',w'⟩
   rcases turn i n H' w' with ⟨stop,q⟩ | ⟨go,Nx,hN,step⟩
   ·refine thn (T.done X' rfl rfl rfl hc i [] s' _ H' _ I' (noHP fr') st' stop) fun r s4 ⟨hr,I4⟩=>?_
    subst hr
    obtain ⟨m,hn4,_⟩:=I4.loc
    have u4:Un (frs X.stack) fp H H' s.heap s4.heap:=I4.base
    have J4:Inv X pins σ H' s4:=I.call' I4.os u4 I4.hok I4.bare fun b hb=>by
     obtain ⟨f0,f1,f2,f3,f4,f5⟩:=hf b hb
     exact ⟨f3,f1,f4,f5⟩
    refine hRR D (D+1) s4 H' m J4 ⟨I4.free,?_,?_,.inr (Nat.le_trans I.sz szC),fun x c e z=>?_,fun p hp z=>?_⟩ hn4 q
    ·exact Nat.ne_of_gt (Nat.lt_of_lt_of_le I.lt szC)
    ·exact I.nofs szC
    ·obtain ⟨v,qq⟩:=I.cell x c e
     exact Nat.ne_of_lt (Nat.lt_of_lt_of_le qq.lt szC) z
    ·exact Nat.ne_of_lt (Nat.lt_of_lt_of_le (Heap.lt_size (I.pin p hp).1) szC) z
   ·refine thn (T.item X' rfl rfl rfl hc i [] s' _ H' _ I' (noHP fr') st' go) fun r s4 ⟨u,hr,h4⟩=>?_
    subst hr
    refine thn h4 fun _ s5 ⟨x,H5,I5,r5,y5,st5,fr5⟩=>?_
    have I5':=I5.pinned (noHP fr5) (T.obj _ _ st5)
    have back:∀ {σ7:St} {H7:Hp} {s7:Shared},Inv X' ([]++lN fp s5.heap) σ7 H7 s7→(∀ (j:Nat) v,(capσ xs.length ix σ)[j]?=some (some v)→σ7[j]?=some (some v))→Nx H7→∃ m,m<n∧∃ i H',Inv X' [] (capσ xs.length ix σ) H' s7∧tn i s7.heap∧(∀ b∈fp,H' b=none)∧W i m H':=fun {σ7 H7 s7} I7 hσ n7=>by
     obtain ⟨m',hm,w7⟩:=hN H7 n7
     have I8:Inv X' [] (capσ xs.length ix σ) H7 s7:=(I7.weak (by rw [I7.len]; exact I0.len) hσ).pins_of fun p hp=>absurd hp (by simp)
     refine ⟨m',hm,i+1,H7,I8,T.keep _ _ _ st5 fun b hb o e=>(I7.pin (b,o) (List.mem_append_right _ (List.mem_append_right _ (gk hb e)))).1,fun b hb=>?_,w7⟩
     obtain ⟨o,e,d⟩:=T.obj _ _ st5 b hb
     exact (I7.pin (b,o) (List.mem_append_right _ (List.mem_append_right _ (gk hb e)))).2.1
    have conv:∀ σ7:St,σ7.drop xs.length=(capσ xs.length ix σ).drop xs.length→∀ (j:Nat) v,(capσ xs.length ix σ)[j]?=some (some v)→σ7[j]?=some (some v):=fun σ7 e j v q=>by
     by_cases hj:j<xs.length
     ·unfold capσ at q
      rw [List.getElem?_append_left (by simpa using hj),List.getElem?_replicate,if_pos hj] at q
      cases q
     ·have e2:=congrArg (fun l=>l[j - xs.length]?) e
      simp only [List.getElem?_drop] at e2
      rw [show xs.length+(j - xs.length)=j by omega] at e2
      rw [e2]
      exact q
    refine thn (hg _ _ _ _ _ _ s5 _ H5 x u _ I5' r5 (step x H5 y5)) fun _ s6 ⟨σ6,H6,I6,hσ,q6⟩=>?_
    refine thn (ht _ _ _ _ _ _ s6 σ6 H6 _ I6 q6) fun b s7 ⟨H7,I7,q7⟩=>?_
    cases b with
    | false =>
     rw [if_neg Bool.false_ne_true]
     rw [if_neg Bool.false_ne_true] at q7
     exact back I7 (conv σ6 hσ) q7
    | true =>
     rw [if_pos rfl]
     rw [if_pos rfl] at q7
     refine thn (he _ _ _ _ _ _ s7 σ6 H7 _ I7 q7) fun v s8 ⟨y,H8,I8,r8,ys,hy,hl,q8⟩=>?_
     refine thn (cz _ s8 σ6 H8 (.ref D) [y] (.ref D) [v] (fun _ H9=>Nx H9) I8 rfl (.cons r8 .nil) ⟨D,ys,y,rfl,rfl,hy,hl,q8⟩) fun _ s9 ⟨_,H9,I9,_,q9⟩=>?_
     exact back I9 (conv σ6 hσ) q9
  ·rw [au (Nat.ne_of_lt (fpD b hb))]
   exact (hf b hb).1
 exact codeAny_compStart_list (loop _ rfl) (wpAny_mono (T.self X.A 0 _ _ (fun _ _=>False) st3 (loop _ rfl)) (fun _ _ z=>z) fun _ _ z=>z.elim)
theorem cJ {wi:TI} (xs capN:List Str) (ix:List Nat) (hc:X.calm=true) (hi:PI X target iter wi)
  (hg:∀ C cells fp s H,PG (eV X scope C cells (xs++capN) fp s H) target g) (ht:∀ C cells fp s H,PTs (eV X scope C cells (xs++capN) fp s H) ifs tt) (he:∀ C cells fp s H,PE (eV X scope C cells (xs++capN) fp s H) elt te)
  (hix:ix.map (fun i=>X.N[i]?)=capN.map some:=by rfl) (hcap:capN.all (sX X.env scope)=true:=by rfl) (hfree:scope.names.all (fun z=>!(z.2 == .free) || qh (X.env.scope.names.lookup z.1))=true:=by rfl) (hkind:scope.kind=.function:=by rfl)
  (hnames:scope.names.all (fun z=>!(z.2 == .local) || scope.names.lookup z.1 == some .local)=true:=by decide +kernel) (hs:∀ x,foldedSetIterable iter X.env x=pure x:=by intro _; rfl) :
  PE X (.ListComp elt [⟨target,iter,ifs,0⟩] scope pos) (AF wi g tt te xs.length ix):=by
 intro pins s σ H Q I h
 have hcf:∀ y∈scope.names,y.2=.free→∃ c,X.env.cells.lookup y.1=some c:=fun y hy hf=>by
  have:=List.all_eq_true.mp hfree y hy
  rw [hf] at this
  exact I.ok.has y.1 (iQ (show qh (X.env.scope.names.lookup y.1)=true by simpa using this))
 obtain ⟨cl,hcl,h2,h3⟩:=lU hcf
 rw [eval_ListComp]
 refine wpAny_comprehension_free (use:=none) rfl hs hcl hkind (fun x hx hl=>?_) (thn (hi pins s σ H _ I h) fun v s1 h1=>thn h1 fun itv s2 ⟨it,fp,tn,J,H2,e,I2,T,st,hf,q⟩=>?_)
 ·have:=List.all_eq_true.mp hnames x hx
  rw [hl] at this
  simpa using this
 subst e
 refine lI (RR:=fun acc C=>compPost (model X.prog X.w) X.A X.xe none (EP X pins σ Q) acc C) xs capN ix hc hg ht he hix hcap hfree hkind h2 h3 I2 T st hf q ?_
 intro D C s' H' m I' fC hn q'
 refine ⟨m,hn,fun h' hs'=>⟨.ref D,H',?_,rfl,q'⟩⟩
 obtain ⟨f0,f1,f2,f3,f4,f5⟩:=fC
 exact I'.turned (t':=s'.toks) (fun b o hb e=>(hs'.2 b hb).trans e) f0 f1 f3 f4 f5
end
end L2
namespace L2
open PySem PySem.Spec PyProof.Rows
section
variable {X:Cx} {elt target iter:Expr} {ifs:List Expr} {scope:Scope} {pos spos px:Pos} {g:TG} {tt:TT} {te:TE}
theorem dw {wi:TI} {i:Nat} {x:Str} (xs capN:List Str) (ix:List Nat) (hc:X.calm=true) (hN:X.N.Nodup) (hxi:X.N[i]?=some x) (hx:Loc X.env.scope x) (hi:PI X target iter wi)
  (hg:∀ C cells fp s H,PG (eV X scope C cells (xs++capN) fp s H) target g) (ht:∀ C cells fp s H,PTs (eV X scope C cells (xs++capN) fp s H) ifs tt) (he:∀ C cells fp s H,PE (eV X scope C cells (xs++capN) fp s H) elt te)
  (hix:ix.map (fun i=>X.N[i]?)=capN.map some:=by rfl) (hcap:capN.all (sX X.env scope)=true:=by rfl) (hfree:scope.names.all (fun z=>!(z.2 == .free) || qh (X.env.scope.names.lookup z.1))=true:=by rfl) (hkind:scope.kind=.function:=by rfl)
  (hnames:scope.names.all (fun z=>!(z.2 == .local) || scope.names.lookup z.1 == some .local)=true:=by decide +kernel) (hs:∀ x,foldedSetIterable iter X.env x=pure x:=by intro _; rfl)
  (hsw:swapsWith (.ListComp elt [⟨target,iter,ifs,0⟩] scope pos) (some (.Name x px)) spos.line X.env=pure true:=by rfl)
  (hf:X.fn x=true∨X.env.scope.names.lookup x=some .local:=by first | exact .inl rfl | exact .inr rfl | assumption) :
  PS X (.Assign [.Name x px] (.ListComp elt [⟨target,iter,ifs,0⟩] scope pos) spos) (Bh (AF wi g tt te xs.length ix) (tf i)):=by
 intro pins s σ H D I h
 have hcf:∀ y∈scope.names,y.2=.free→∃ c,X.env.cells.lookup y.1=some c:=fun y hy hf=>by
  have:=List.all_eq_true.mp hfree y hy
  rw [hf] at this
  exact I.ok.has y.1 (iQ (show qh (X.env.scope.names.lookup y.1)=true by simpa using this))
 obtain ⟨cl,hcl,h2,h3⟩:=lU hcf
 rw [exec_Assign_Name_used _ _ _ _ hsw]
 refine wpAny_bind (wpAny_standAt (wpAny_bind ?_))
 show wpAny _ X.A (do let _ ← comprehension (.ListComp elt [⟨target,iter,ifs,0⟩] scope pos) scope X.env _ (newList []) false (eval iter X.env) (some (assign (.Name x px) X.env))) _ _ s
 refine wpAny_bind (wpAny_mono (wpAny_comprehension_free (use:=some (assign (.Name x px) X.env)) (Q:=fun _ s'=>SP X pins D .next s') rfl hs hcl hkind (fun x hx hl=>?_)
  (thn (hi pins s σ H _ I h) fun v s1 h1=>thn h1 fun itv s2 ⟨it,fp,tn,J,H2,e,I2,T,st,hf',q⟩=>?_)) (fun _ s' hq=>wpAny_pure (wpAny_pure hq)) fun _ _ e=>e)
 ·have:=List.all_eq_true.mp hnames x hx
  rw [hl] at this
  simpa using this
 subst e
 refine lI (Q:=fun v H1=>tf i v σ H1 D.nx) (RR:=fun acc C=>compPost (model X.prog X.w) X.A X.xe (some (assign (.Name x px) X.env)) (fun _ s'=>SP X pins D .next s') acc C) xs capN ix hc hg ht he hix hcap hfree hkind h2 h3 I2 T st hf' q ?_
 intro E C s' H' m I' fC hn q'
 obtain ⟨f0,f1,f2,f3,f4,f5⟩:=fC
 obtain ⟨oC,es,ep,hoC,hdC,r⟩:=hn
 have I'':Inv X (pins++[(C,oC)]) σ H' s':=I'.pins_of fun p hp=>by
  rcases List.mem_append.mp hp with z | z
  ·exact I'.pin p (List.mem_append_right _ z)
  ·have e:p=(C,oC):=by simpa using z
   subst e
   exact ⟨hoC,f0,f1,f2,fun v z=>by rw [hdC] at z; cases z⟩
 show wpAny _ X.A (assign (.Name x px) X.env (.ref E)) _ _ s'
 refine thn (aI hN hxi hx hf _ s' σ H' (.ref E) (.ref E) _ I'' rfl q') fun _ s4 ⟨σ2,H4,I4,q4⟩=>?_
 have hp4:=I4.pin (C,oC) (List.mem_append_right _ (List.mem_append_right _ (by simp)))
 refine ⟨m,⟨oC,es,ep,hp4.1,hdC,r⟩,fun h' hs'=>⟨σ2,H4,?_,q4⟩⟩
 have I5:Inv X pins σ2 H4 s4:=I4.unpinned
 exact I5.turned (t':=s4.toks) (fun b o hb e=>(hs'.2 b hb).trans e) hp4.2.1 f1 f3 f4 f5
end
theorem cX {K:PySem.W.Frag} {a:Addr} {xs:List V} {g:TG} {tt:TT} {te:TE} {nv:Nat} {ix:List Nat} {σ:St} {D:Addr} {H:Hp} {Q:VK} (Pv:Nat→List V→Hp→Prop) (h0:Pv 0 [] (upd H D (.lst []))) (hl:∀ i ys H,i≤xs.length→Pv i ys H→SqL K H a xs)
  (hs:∀ i x ys H,xs[i]?=some x→Pv i ys H→H D=some (.lst ys)→g x (capσ nv ix σ) H fun σ2 H3=>σ2.drop nv=(capσ nv ix σ).drop nv∧tt σ2 H3 fun b H4 =>
   if b=true then te σ2 H4 fun v H5=>∃ zs,H5 D=some (.lst zs)∧zs.length<sizeLine∧(∃ ys',Pv (i+1) ys' (upd H5 D (.lst (zs++[v])))∧(upd H5 D (.lst (zs++[v]))) D=some (.lst ys')) else ∃ ys',Pv (i+1) ys' H4∧H4 D=some (.lst ys'))
  (hd:∀ ys H,Pv xs.length ys H→H D=some (.lst ys)→Q (.ref D) H) :
  jL (Itl K a) g tt te nv ix σ Q H D:=by
 refine ⟨fun i m H2=>m=xs.length - i∧i≤xs.length∧∃ ys,Pv i ys H2∧H2 D=some (.lst ys),⟨xs.length,by simp,Nat.zero_le _,[],h0,ah⟩,?_⟩
 rintro i m H2 ⟨rfl,hi,ys,p,hD⟩
 have q:=hl i ys H2 hi p
 by_cases hlt:i<xs.length
 ·refine .inr ⟨⟨xs,xs[i],q,by simp [hlt]⟩,fun H'=>∃ ys,Pv (i+1) ys H'∧H' D=some (.lst ys),fun H' p'=>⟨xs.length - (i+1),by omega,rfl,hlt,p'⟩,fun x H' y=>?_⟩
  obtain ⟨e,y⟩:=y
  subst e
  exact hs i x ys _ (y xs q) p hD
 ·have e:i=xs.length:=by omega
  subst e
  exact .inl ⟨⟨xs,q,Nat.le_refl _⟩,hd ys H2 p hD⟩
theorem qN {lo:Int} {n:Nat} {g:TG} {tt:TT} {te:TE} {nv:Nat} {ix:List Nat} {σ:St} {D:Addr} {H:Hp} {Q:VK} (Pv:Nat→List V→Hp→Prop) (h0:Pv 0 [] (upd H D (.lst [])))
  (hs:∀ i ys H,i<n→Pv i ys H→H D=some (.lst ys)→g (.int (lo+i)) (capσ nv ix σ) H fun σ2 H3=>σ2.drop nv=(capσ nv ix σ).drop nv∧tt σ2 H3 fun b H4 =>
   if b=true then te σ2 H4 fun v H5=>∃ zs,H5 D=some (.lst zs)∧zs.length<sizeLine∧(∃ ys',Pv (i+1) ys' (upd H5 D (.lst (zs++[v])))∧(upd H5 D (.lst (zs++[v]))) D=some (.lst ys')) else ∃ ys',Pv (i+1) ys' H4∧H4 D=some (.lst ys'))
  (hd:∀ ys H,Pv n ys H→H D=some (.lst ys)→Q (.ref D) H) :
  jL (Itr lo n) g tt te nv ix σ Q H D:=by
 refine ⟨fun i m H2=>m=n - i∧i≤n∧∃ ys,Pv i ys H2∧H2 D=some (.lst ys),⟨n,by simp,Nat.zero_le _,[],h0,ah⟩,?_⟩
 rintro i m H2 ⟨rfl,hi,ys,p,hD⟩
 by_cases hlt:i<n
 ·refine .inr ⟨hlt,fun H'=>∃ ys,Pv (i+1) ys H'∧H' D=some (.lst ys),fun H' p'=>⟨n - (i+1),by omega,rfl,hlt,p'⟩,fun x H' y=>?_⟩
  obtain ⟨e,y⟩:=y
  subst e y
  exact hs i ys _ hlt p hD
 ·have e:i=n:=by omega
  subst e
  exact .inl ⟨Nat.le_refl _,hd ys H2 p hD⟩
end L2
namespace L2
open PySem PySem.Spec PyProof.Rows
def eqL:List V→List V→Bool
 | [],[]=>true
 | x::xs,y::ys=>eqV x y && eqL xs ys
 | _,_=>false
def eqJ (xs ys:List V) (j:Nat):Bool:=match xs[j]?,ys[j]? with
 | some a,some b=>eqV a b
 | _,_=>false
section
variable {X:Cx}
def EY (K:PySem.W.Frag) (neg:Bool):R2:=fun x y H Q=>∃ a b xs ys,x=.ref a∧y=.ref b∧SqL K H a xs∧SqL K H b ys∧xs.all fe=true∧ys.all fe=true∧Q (.bl (if neg then !eqL xs ys else eqL xs ys)) H
theorem pT:cW X (.builtin "sorted") (fun xs H Q=>∃ (p:Addr) (ns:List Int),xs=[.ref p]∧SqL X.K H p (ns.map V.int)∧ns.length<64∧∀ (l:Addr) (ns':List Int),H l=none→ns'.Perm ns→ns'.Pairwise (·≤·)→Q (.ref l) (upd H l (.lst (ns'.map V.int)))):=by
 intro pins s σ H xs us Q I r h
 obtain ⟨p,ns,rfl,hp,hl,q⟩:=h
 obtain ⟨u,rfl,ru⟩:=vals1 r
 cases ru
 obtain ⟨its,rv,pl,hz⟩:=I.list hp
 have hlen:=rv.length
 rw [List.length_map] at hlen
 refine sorted_ints pl.isList (intsAre_of rv) (by omega) fun out ns' a1 a2 a3=>?_
 obtain ⟨e,he⟩:=sortedAll_at s.heap its out
 have hn:H (s.heap.objs.size+1)=none:=I.hok.fresh (Nat.le_succ _)
 refine ⟨.ref (s.heap.objs.size+1),_,I.laid (t':=s.toks) (o:=.lst (ns'.map V.int)) (fun _ _=>sortedAll_old) (Nat.le_succ _) ?_,rfl,q _ ns' hn a2 a3⟩
 refine ⟨?_,out.toList,e,ju a1,?_⟩
 ·rw [List.length_map,a2.length_eq]
  exact small (by omega)
 ·simpa using he
theorem kM:∀ {bs:List Bool} {us:List Value},Vals (bs.map V.bl) us→∀ (i:Nat) v,us[i]?=some v→∃ b,bs[i]?=some b∧v=.bool b
 | [],_,r,i,v,e=>by cases r; simp at e
 | b::bs,_,.cons r t,0,v,e=>by
  simp at e
  subst e
  exact ⟨b,rfl,r⟩
 | b::bs,_,.cons r t,i+1,v,e=>by
  obtain ⟨c,h1,h2⟩:=kM t i v (by simpa using e)
  exact ⟨c,by simpa using h1,h2⟩
theorem i3 (hc:X.calm=true):cW X (.builtin "all") (fun xs H Q=>∃ (p:Addr) (bs:List Bool),xs=[.ref p]∧SqL X.K H p (bs.map V.bl)∧Q (.bl (bs.all id)) H):=by
 intro pins s σ H xs us Q I r h
 obtain ⟨p,bs,rfl,hp,q⟩:=h
 obtain ⟨u,rfl,ru⟩:=vals1 r
 cases ru
 obtain ⟨its,rv,pl,hz⟩:=I.list hp
 have hl:=pl.isList
 have hlt:p<s.heap.objs.size:=by obtain ⟨_,e,_⟩:=hl; exact Heap.lt_size e
 have hlen:=rv.length
 rw [List.length_map] at hlen
 refine call_all_walk (wpAny_pyIter_list hl ?_)
 refine ⟨s.heap.objs.size,[s.heap.objs.size,p],[s.heap.objs.size],its.toArray.size,_,_,fun i=>(bs[i]?).getD true,rfl,Walks.list (A:=X.A.in1) (I.ok.hd hc) _ p (Nat.ne_of_lt hlt) its.toArray,
  ⟨⟨_,Heap.get?_push_size _ rfl,rfl,rfl⟩,hl.push _⟩,fun i v s' Q' E' hP hQ=>?_,fun h' tk hk=>?_⟩
 ·obtain ⟨b,e,rfl⟩:=kM rv i v (by simpa using hP)
  simp only [e,Option.getD_some] at hQ
  exact wpAny_truthy_bool hQ
 ·have e:((List.range its.toArray.size).all fun i=>(bs[i]?).getD true)=bs.all id:=by
   rw [List.size_toArray,← hlen,Bool.eq_iff_iff,List.all_eq_true,List.all_eq_true]
   constructor
   ·intro z b hb
    obtain ⟨i,hi,rfl⟩:=List.getElem_of_mem hb
    have:=z i (List.mem_range.mpr hi)
    show bs[i]=true
    simpa only [List.getElem?_eq_getElem hi,Option.getD_some] using this
   ·intro z i hi
    have hi':=List.mem_range.mp hi
    have z2:bs[i]=true:=z _ (List.getElem_mem hi')
    simpa only [List.getElem?_eq_getElem hi',Option.getD_some] using z2
  refine ⟨.bl (bs.all id),H,I.kept fun b o x=>hk b o (fun hm=>?_) (Heap.get?_push_of_some _ x),by rw [e]; rfl,q⟩
  rw [List.mem_singleton.mp hm] at x
  exact Nat.lt_irrefl _ (Heap.lt_size x)
def CZ (K:PySem.W.Frag):V→Hp→VK→Prop:=fun x H Q=>∃ a xs,x=.ref a∧SqL K H a xs∧∀ p,H p=none→Q (.ref p) (upd H p (.lst xs.reverse))
def Fb (K:PySem.W.Frag) (te:TE):TE:=fun σ H Q=>te σ H fun x H1=>CZ K x H1 Q
end
structure ClsFn (K:PySem.W.Frag) (C:Addr) (m:Str) (g:Addr):Prop where
 rd:PySem.W.readsIn K C (.type "type")=true
 at_:PySem.W.findCls K (.ref C) (.type "type") m=some (.val (.ref g))
 sp:PySem.W.specialIn K (.ref C) "__getattribute__"=some (some (.builtin "type.__getattribute__"))
 kp:PySem.W.keepIn K (.ref g)=true
section
variable {X:Cx} {CX:CXT} {k:Nat} {f C:Addr} {fd:FuncData} {ps:List Str} {sp:Sp} {dvs:List V} {ds:List Value} {E:XK} {x m:Str} {p pos apos:Pos} {e:Expr} {es:List Expr} {t:TA}
theorem fF {pl:Sem Bool} (hg:Gl X x) (hm:X.mg x=some (.ref C)) (c:ClsFn X.K C m f) (F:FnOk X.prog X.w X.K X.mg X.base CX k f fd ps sp) (hr:Room k X.A) (hb:Binds X.K fd ps ds) (hd:Vals dvs ds) (hx:Passes CX X E) (ha:PA X (e::es) t)
  (hdb:(x == ("__debug__":Str))=false:=by decide) (hst:starEach (e::es) X.env=(false,eval e X.env)::starEach es X.env:=by rfl) (hpl:(backTo pos (starEach es X.env)).any (·.1)=false:=by rfl)
  (ht:eval (.Call (.Attribute (.Name x p) m apos) (e::es) [] pos) X.env=(do
   let ov ← eval (.Name x p) X.env
   standAt apos.atName
   let (f,first) ← holding [ov] (getMethod ov m pl)
   callWith pos f first (backTo pos (starEach (e::es) X.env)) (backToKw pos (keywordEach [] X.env))):=by rfl) :
  PE X (.Call (.Attribute (.Name x p) m apos) (e::es) [] pos) (tH sp dvs E t):=by
 intro pins s σ H Q I h
 refine PySem.W.methodCall_KW (pl:=pl) (eR I hg hm ?_ hdb) ht
 refine PySem.W.method_cls I.kIn c.sp (PySem.W.cls_value I.kIn c.rd c.at_ rfl ?_)
 have I1:Inv X pins σ H { s with toks:=s.toks+1 }:=I.tok _
 refine PySem.W.callWith_K (first:=[]) (h₀:=X.base) I.ok.mod.kin c.kp (thn (ha pos pins _ σ H _ I1 h) fun us s2 ⟨vs,H2,I2,r,q2⟩=>⟨I2.kIn,?_⟩) hst hpl
 exact qJ (us:=us) (vs:=vs) F hr hb hd hx I2 r q2
end
end L2
namespace L2
open PySem PySem.Spec PyProof.Rows
def XAt (B h:Heap) (x:Addr) (C:Value) (d:Option Addr) (vs:Array Value):Prop:=B.get? x=none∧∃ sl,h.get? x=some ⟨C,d,.fields vs,sl⟩
def TAt (B h:Heap) (x:Addr) (vs:Array Value) (fl:Value):Prop:=∃ (T:Addr) (oT:Obj) (ts:Array Value),vs[1]?=some (.ref T)∧T≠x∧B.get? T=none∧h.get? T=some oT∧oT.data=.fields ts∧ts[3]?=some fl
structure Moved (l:List Env) (B h h':Heap):Prop where
 stay:B.StaysIn h'
 funs:h'.FunFrames B l
 slot:∀ b∈frs l,∀ o,h.get? b=some o→∃ sl,h'.get? b=some { o with slots:=sl }
theorem Moved.trans {l:List Env} {B h h1 h2:Heap} (a:Moved l B h h1) (b:Moved l B h1 h2):Moved l B h h2 :=
 ⟨b.stay,b.funs,fun c hc o e=>by
  obtain ⟨sl,e1⟩:=a.slot c hc o e
  obtain ⟨sl2,e2⟩:=b.slot c hc _ e1
  exact ⟨sl2,e2⟩⟩
section
variable {M:Model} {A:Around} {E:Value→Shared→Prop} {s:Shared} {B:Heap} {l:List Env} {x:Addr} {C:Value} {d:Option Addr} {vs:Array Value}
theorem gF {h:Heap} (hl:h.FunFrames B l) {b:Addr} {o:Obj} {ws:Array Value} (e:h.get? b=some o) (hd:o.data=.fields ws):b∉frs l:=fun hb=>by
 obtain ⟨_,o',e',n⟩:=hl.mem hb
 rw [e] at e'
 cases e'
 exact n ws hd
theorem fI {h:Heap} (hs:B.StaysIn h) (hl:h.FunFrames B l) {b:Addr} {o:Obj} {ws:Array Value} (e:h.get? b=some o) (hd:o.data=.fields ws) (hb:B.get? b=none) (f:Obj→Obj):Moved l B h (h.update b f):=by
 have nf:=gF hl e hd
 refine ⟨fun c u q=>?_,hl.of_keeps fun c u q n=>⟨u,?_,rfl⟩,fun c hc u q=>⟨u.slots,?_⟩⟩
 ·have hne:b≠c:=fun z=>by rw [z,q] at hb; cases hb
  rw [Heap.get?_update_other _ _ hne]
  exact hs c u q
 ·have hne:b≠c:=fun z=>by
   subst z
   rw [e] at q
   cases q
   exact n ws hd
  rw [Heap.get?_update_other _ _ hne]
  exact q
 ·have hne:b≠c:=fun z=>nf (by rw [z]; exact hc)
  rw [Heap.get?_update_other _ _ hne]
  exact q
theorem gN {fl:Value} {Q:Unit→Shared→Prop} (hs:B.StaysIn s.heap) (hl:s.heap.FunFrames B l) (hx:XAt B s.heap x C d vs) (ht:TAt B s.heap x vs fl)
  (h:∀ h',XAt B h' x C d vs→TAt B h' x vs .none→Moved l B s.heap h'→Q () { s with heap:=h' }):wpAny M A (setFlight (.ref x) none) Q E s:=by
 obtain ⟨bx,sl,ex⟩:=hx
 obtain ⟨T,oT,ts,v1,hne,bT,eT,dT,t3⟩:=ht
 have h3:3<ts.size:=(Array.getElem?_eq_some_iff.mp t3).1
 unfold setFlight
 refine wpAny_bind (wpAny_field ex rfl v1 ?_)
 rw [if_pos (show (Value.ref T != Value.none)=true by simp)]
 refine wpAny_setField eT dT h3 (h _ ⟨bx,sl,?_⟩ ?_ (fI hs hl eT dT bT _))
 ·rw [Heap.get?_update_other _ _ hne]
  exact ex
 ·have dN:=Obj.data_mapFields dT (·.setIfInBounds 3 Value.none)
  exact ⟨T,_,_,v1,hne,bT,Heap.get?_update_self _ eT (Obj.isFreed_of_fields dN),dN,by simp [h3]⟩
theorem ni {env:Env} {outer:List Env} {L:Addr} {head:Value} {hadNext:Bool} {Q:Unit→Shared→Prop} (hfr:A.frames=some (env::outer)) (hf:env.frame=some L) (hs:B.StaysIn s.heap) (hl:s.heap.FunFrames B (env::outer))
  (hx:XAt B s.heap x C d vs) (h1:1<vs.size)
  (h:∀ h' ws,ws[0]?=vs[0]?→XAt B h' x C d ws→TAt B h' x ws (rawInt L)→Moved (env::outer) B s.heap h'→Q () { s with heap:=h' }) :
  wpAny M A (do let a ← frameOf env; let pl ← entryPlaceOf L hadNext; let b ← EntryCells.newEntry head a .none (rawInt L) .none pl; setField (.ref x) 1 b) Q E s:=by
 obtain ⟨bx,sl,ex⟩:=hx
 have nx:=gF hl ex rfl
 refine wpAny_bind (wpAny_frameOf_fun hfr hl hf fun g1 k1=>?_)
 have ex1:g1.get? x=some ⟨C,d,.fields vs,sl⟩:=(k1.2.1 x nx).trans ex
 have hs1:B.StaysIn g1:=fun b o q=>(k1.2.1 b fun hb=>by have z:=(hl.mem hb).1; rw [q] at z; cases z).trans (hs b o q)
 have m1:Moved (env::outer) B s.heap g1:=⟨hs1,hl.of_keeps fun b o q _=>let ⟨sl',z⟩:=k1.2.2 b o q; ⟨_,z,rfl⟩,fun b _ o q=>k1.2.2 b o q⟩
 refine wpAny_bind (wpAny_entryPlaceOf fun pl hpl=>?_)
 unfold EntryCells.newEntry newFields
 refine wpAny_bind (wpAny_newObj_type ?_ (hpl.sizeOk5 _ _ _ _ _))
 generalize hts:([head,Value.ref L,Value.none,rawInt L,Value.none]++(if pl.isEmpty then List.replicate 6 Value.none else pl)).toArray=ts
 have t3:ts[3]?=some (rawInt L):=by
  rw [← hts]
  simp
 have hTx:g1.objs.size≠x:=Nat.ne_of_gt (Heap.lt_size ex1)
 have m2:Moved (env::outer) B g1 (g1.push ⟨.type "traceback",none,.fields ts,#[]⟩) :=
  ⟨fun b o q=>Heap.get?_push_of_some _ (hs1 b o q),m1.funs.of_keeps fun b o q _=>⟨o,Heap.get?_push_of_some _ q,rfl⟩,fun b _ o q=>⟨o.slots,Heap.get?_push_of_some _ q⟩⟩
 have ex2:=Heap.get?_push_of_some (h:=g1) ⟨.type "traceback",none,.fields ts,#[]⟩ ex1
 refine wpAny_setField ex2 rfl h1 (h _ (vs.setIfInBounds 1 (.ref g1.objs.size)) ?_ ⟨bx,sl,?_⟩ ?_ ((m1.trans m2).trans (fI m2.stay m2.funs ex2 rfl bx _)))
 ·rw [Array.getElem?_setIfInBounds_ne (by decide)]
 ·exact Heap.get?_update_self (Obj.mapFields (·.setIfInBounds 1 (Value.ref g1.objs.size))) ex2 rfl
 ·refine ⟨g1.objs.size,⟨.type "traceback",none,.fields ts,#[]⟩,ts,by simp [h1],hTx,hs1.fresh,?_,rfl,t3⟩
  rw [Heap.get?_update_other _ _ (Ne.symm hTx)]
  exact Heap.get?_push_size _ rfl
theorem lB {env:Env} {outer:List Env} {L:Addr} {Q:Unit→Shared→Prop} (hfr:A.frames=some (env::outer)) (hf:env.frame=some L) (hs:B.StaysIn s.heap) (hl:s.heap.FunFrames B (env::outer))
  (hx:XAt B s.heap x C d vs) (ht:vs[1]?=some .none∨TAt B s.heap x vs .none)
  (h:∀ h' ws,ws[0]?=vs[0]?→XAt B h' x C d ws→TAt B h' x ws (rawInt L)→Moved (env::outer) B s.heap h'→Q () { s with heap:=h' }) :
  wpAny M A (noteFrame (.ref x) env) Q E s:=by
 obtain ⟨bx,sl,ex⟩:=id hx
 unfold noteFrame
 simp only [hf]
 rcases ht with v1 | ⟨T,oT,ts,v1,hne,bT,eT,dT,t3⟩
 ·refine wpAny_bind (wpAny_field ex rfl v1 ?_)
  rw [if_neg (by decide)]
  exact ni hfr hf hs hl hx (Array.getElem?_eq_some_iff.mp v1).1 h
 ·refine wpAny_bind (wpAny_field ex rfl v1 ?_)
  rw [if_pos (show (Value.ref T != Value.none)=true by simp)]
  refine wpAny_bind (wpAny_field eT dT t3 ?_)
  rw [if_neg (show ¬ ((Value.none == rawInt L)=true) by simp [rawInt])]
  refine wpAny_bind (wpAny_setField eT dT (Array.getElem?_eq_some_iff.mp t3).1 ?_)
  have mv:=fI hs hl eT dT bT (Obj.mapFields (·.setIfInBounds 3 Value.none))
  refine ni (s:={ s with heap:=s.heap.update T (Obj.mapFields (·.setIfInBounds 3 Value.none)) }) hfr hf mv.stay mv.funs ⟨bx,sl,?_⟩ (Array.getElem?_eq_some_iff.mp v1).1 fun h' ws a b c e=>h h' ws a b c (mv.trans e)
  show (s.heap.update T _).get? x=_
  rw [Heap.get?_update_other _ _ hne]
  exact ex
theorem jV {env:Env} {outer:List Env} {L:Addr} {Q:Unit→Shared→Prop} (hfr:A.frames=some (env::outer)) (hf:env.frame=some L) (hs:B.StaysIn s.heap) (hl:s.heap.FunFrames B (env::outer))
  (hx:XAt B s.heap x C d vs) (ht:vs[1]?=some .none∨TAt B s.heap x vs .none)
  (h:∀ h' ws,ws[0]?=vs[0]?→XAt B h' x C d ws→TAt B h' x ws .none→Moved (env::outer) B s.heap h'→Q () { s with heap:=h' }) :
  wpAny M A (leaving env (.ref x)) Q E s:=by
 unfold leaving
 refine wpAny_bind (lB hfr hf hs hl hx ht fun g1 ws a b c e=>?_)
 exact gN (s:={ s with heap:=g1 }) e.stay e.funs b c fun g2 b2 c2 e2=>h g2 ws a b2 c2 (e.trans e2)
end
end L2
namespace L2
open PySem PySem.Spec PyProof.Rows
theorem HOk.tracked {P:Program} {w:World} {H:Hp} {h h':Heap} (ok:HOk P w H h) (k:∀ b u o,H b=some u→h.get? b=some o→h'.get? b=some o):HOk P w H h':=fun b u e=>by
 refine (ok b u e).stay (fun c v hc q=>?_) (fun _ q=>q) fun _ _ q=>q
 rcases hc with z | z
 ·subst z
  exact k _ u v e q
 ·exact k c _ v z q
theorem ObjOk.there {P:Program} {w:World} {H:Hp} {h:Heap} {a:Addr} {o:HO} (x:ObjOk P w H h a o):∃ u,h.get? a=some u:=by
 cases o with
 | lst xs=>obtain ⟨_,_,_,_,e⟩:=x; exact ⟨_,e⟩
 | tup xs=>obtain ⟨_,_,_,p⟩:=x; obtain ⟨u,e,_⟩:=p; exact ⟨u,e⟩
 | dK kvs=>obtain ⟨_,_,_,_,u,_,_,e,_⟩:=x; exact ⟨u,e⟩
 | dT kvs=>obtain ⟨_,_,_,_,u,_,_,e,_⟩:=x; exact ⟨u,e⟩
 | set S n=>obtain ⟨u,_,_,_,e,_⟩:=x; exact ⟨u,e⟩
 | ins C dx fs=>exact ⟨_,x.2.2.2.1⟩
 | own y=>exact x
 | xd fs=>obtain ⟨_,⟨u,_,_,e,_⟩,_⟩:=x; exact ⟨u,e⟩
 | met f y=>exact ⟨_,x⟩
 | rng lo hi=>obtain ⟨_,_,_,e⟩:=x; exact ⟨_,e⟩
 | frz u v=>exact ⟨u,x.1⟩
 | tbl ps=>exact ⟨_,x⟩
 | ext φ=>exact x.2.1
theorem j8 {h B B':Heap}:∀ {l:List Env},(∀ b∈frs l,B'.get? b=none)→h.FunFrames B l→h.FunFrames B' l
 | [],_,_=>trivial
 | env::r,hn,⟨hk,⟨L,o,hf,_,ho,hd⟩,hr⟩=>by
  have e:frs (env::r)=L::frs r:=by
   unfold frs
   rw [List.filterMap_cons,hf]
  exact ⟨hk,⟨L,o,hf,hn L (by rw [e]; exact List.mem_cons_self),ho,hd⟩,j8 (fun b hb=>hn b (by rw [e]; exact List.mem_cons_of_mem _ hb)) hr⟩
structure Fly (P:Program) (w:World) (outer:List Env) (H H':Hp) (g B:Heap) (x C:Addr) (d:Option Addr) (h':Heap):Prop where
 un:Un (frs outer) [] H H' g h'
 hok:HOk P w H' h'
 stay:B.StaysIn h'
 funs:h'.FunFrames B outer
 cov:∀ b o,g.get? b=some o→b∉frs outer→∃ o',B.get? b=some o'
 covT:∀ b o,H' b=some o→∃ o',B.get? b=some o'
 exc:∃ vs,XAt B h' x (.ref C) d vs∧TAt B h' x vs .none
def CXE (P:Program) (w:World):CXT:=fun outer H s E e s'=>∃ (x C:Addr) (d:Option Addr) (H':Hp) (B:Heap),e=.ref x∧s'.os=s.os∧AllBare s'.gens∧Fly P w outer H H' s.heap B x C d s'.heap∧E (.ref C) d H'
section
variable {P:Program} {w:World} {outer:List Env} {H H':Hp} {g B h h':Heap} {x C:Addr} {d:Option Addr}
theorem Fly.noX (F:Fly P w outer H H' g B x C d h):H' x=none:=by
 obtain ⟨_,⟨bx,_⟩,_⟩:=F.exc
 cases q:H' x with
 | none=>rfl
 | some o =>
  obtain ⟨o',z⟩:=F.covT x o q
  rw [z] at bx
  cases bx
theorem ma (un:Un (frs outer) [] H H' g h) (hs:B.StaysIn h) (hl:h.FunFrames B outer) (cov:∀ b o,g.get? b=some o→b∉frs outer→∃ o',B.get? b=some o') (m:Moved outer B h h'):Un (frs outer) [] H H' g h' where
 keep:=fun b o e n hb hx=>by
  have e1:=un.keep b o e n hb hx
  obtain ⟨o',e2⟩:=cov b o e hb
  have e3:=hs b o' e2
  rw [e1] at e3
  cases e3
  exact m.stay b _ e2
 slot:=fun b o e n hb hx=>by
  obtain ⟨sl,e1⟩:=un.slot b o e n hb hx
  obtain ⟨sl2,e2⟩:=m.slot b hb _ e1
  exact ⟨sl2,e2⟩
 free:=un.free
 there:=fun b o e hx=>by
  by_cases hb:b∈frs outer
  ·obtain ⟨o1,e1⟩:=un.there b o e hx
   obtain ⟨sl,e2⟩:=m.slot b hb o1 e1
   exact ⟨_,e2⟩
  ·obtain ⟨o',e2⟩:=cov b o e hb
   exact ⟨o',m.stay b o' e2⟩
 tups:=un.tups
 frzs:=un.frzs
 tbls:=un.tbls
theorem jy (ok:HOk P w H' h) (hs:B.StaysIn h) (covT:∀ b o,H' b=some o→∃ o',B.get? b=some o') (m:B.StaysIn h'):HOk P w H' h' :=
 ok.tracked fun b u o e q=>by
  obtain ⟨o',e2⟩:=covT b u e
  have e3:=hs b o' e2
  rw [q] at e3
  cases e3
  exact m b _ e2
theorem Fly.moved (F:Fly P w outer H H' g B x C d h) {vs:Array Value} (m:Moved outer B h h') (hx:XAt B h' x (.ref C) d vs) (ht:TAt B h' x vs .none):Fly P w outer H H' g B x C d h' :=
 ⟨ma F.un F.stay F.funs F.cov m,jy F.hok F.stay F.covT m.stay,m.stay,m.funs,F.cov,F.covT,vs,hx,ht⟩
end
def yv (X:Cx) (E:XK):Prop:=∀ (pins:List (Addr×Obj)) (σ:St) (H:Hp) (s:Shared) (h':Heap) (x C:Addr) (sl:Array (Option Value)) (vs:Array Value),Inv X pins σ H s→(∀ b o,s.heap.get? b=some o→h'.get? b=some o)→
 s.heap.get? x=none→h'.get? x=some ⟨.ref C,none,.fields vs,sl⟩→vs[1]?=some .none→E (.ref C) none H→X.xe (.ref x) { s with heap:=h' }
section
variable {P:Program} {w:World} {K:PySem.W.Frag} {mg:Str→Option Value} {base:Heap} {N:List Str} {qual:Str} {scope:Scope} {f:Addr} {cd:Value} {A:Around} {outer:List Env} {s₀:Shared} {H₀:Hp} {E:XK}
theorem mE {X:Cx} {env:Env} {outer:List Env} {L:Addr} (e:X.stack=env::outer) (hf:env.frame=some L):frs X.stack=L::frs outer:=by
 rw [e]
 unfold frs
 rw [List.filterMap_cons,hf]
theorem pW {H1 H2:Hp} {g0 g1 h' B:Heap} {L:Addr} (hL:g0.objs.size≤L) (a:Un (frs outer) [] H₀ H1 g0 g1) (b:Un (L::frs outer) [] H1 H2 g1 h'):Un (frs outer) [] H₀ H2 g0 h':=by
 have nL:∀ c o,g0.get? c=some o→c≠L:=fun c o e=>Nat.ne_of_lt (Nat.lt_of_lt_of_le (Heap.lt_size e) hL)
 have n0:∀ c:Addr,c∉([]:List Addr):=fun c=>by simp
 refine ⟨fun c o e n hc hx=>?_,fun c o e n hc hx=>?_,fun c o e n hx=>?_,fun c o e hx=>?_,fun c xs e=>b.tups c xs (a.tups c xs e),fun c o u e=>b.frzs c o u (a.frzs c o u e),fun c ps e=>?_⟩
 ·exact b.keep c o (a.keep c o e n hc hx) (a.free c o e n hx) (fun z=>(List.mem_cons.mp z).elim (nL c o e) hc) (n0 c)
 ·obtain ⟨sl,e1⟩:=a.slot c o e n hc hx
  obtain ⟨sl2,e2⟩:=b.slot c _ e1 (a.free c o e n hx) (List.mem_cons_of_mem _ hc) (n0 c)
  exact ⟨sl2,e2⟩
 ·obtain ⟨o1,e1⟩:=a.there c o e hx
  exact b.free c o1 e1 (a.free c o e n hx) (n0 c)
 ·obtain ⟨o1,e1⟩:=a.there c o e hx
  exact b.there c o1 e1 (n0 c)
 ·obtain ⟨m1,e1⟩:=a.tbls c ps e
  obtain ⟨m2,e2⟩:=b.tbls c _ e1
  exact ⟨m1++m2,by rw [e2,Array.append_assoc]⟩
theorem uR:Passes (CXE P w) (fJ (CXE P w) P w K mg base N qual scope f cd A outer s₀ H₀ E) E:=by
 intro pins σ H s e s' I hx
 obtain ⟨x,C,d,H',B,rfl,os,bare,F,q⟩:=hx
 obtain ⟨vs,xa,ta⟩:=F.exc
 show wpAny _ _ (leaving _ _) _ _ s'
 have hfr:=I.ok.frames
 have hsf:frs (fJ (CXE P w) P w K mg base N qual scope f cd A outer s₀ H₀ E).stack=s₀.heap.objs.size::frs outer:=mE rfl rfl
 refine jV (L:=s₀.heap.objs.size) hfr rfl F.stay F.funs xa (.inr ta) fun h' ws _ xa' ta' m=>?_
 refine ⟨x,C,d,H',B,rfl,os.trans I.os,bare,⟨?_,jy F.hok F.stay F.covT m.stay,m.stay,m.funs.2.2,fun b o e hb=>?_,F.covT,ws,xa',ta'⟩,q⟩
 ·have u2:=ma F.un F.stay F.funs F.cov m
  exact pW (L:=s₀.heap.objs.size) (B:=B) (Nat.le_refl _) I.base (hsf▸u2)
 ·obtain ⟨o1,e1⟩:=I.base.there b o e (fun z=>by simp [fJ] at z)
  refine F.cov b o1 e1 fun z=>?_
  rw [hsf] at z
  exact (List.mem_cons.mp z).elim (Nat.ne_of_lt (Heap.lt_size e)) hb
theorem nA:yv (fJ (CXE P w) P w K mg base N qual scope f cd A outer s₀ H₀ E) E:=by
 intro pins σ H s h' x C sl vs I kp nx hx v1 q
 show wpAny _ _ (leaving _ _) _ _ _
 have hfr:=I.ok.frames
 have hsf:frs (fJ (CXE P w) P w K mg base N qual scope f cd A outer s₀ H₀ E).stack=s₀.heap.objs.size::frs outer:=mE rfl rfl
 let B:=PySem.W.hideAll s.heap (frs (fJ (CXE P w) P w K mg base N qual scope f cd A outer s₀ H₀ E).stack)
 have hB:B.StaysIn s.heap:=fun b o e=>PySem.W.of_hideAll _ e
 have hB':B.StaysIn h':=fun b o e=>kp b o (hB b o e)
 have bget:∀ b o,s.heap.get? b=some o→b∉frs (fJ (CXE P w) P w K mg base N qual scope f cd A outer s₀ H₀ E).stack→B.get? b=some o:=fun b o e n=>PySem.W.hideAll_get _ e n
 have bx:B.get? x=none:=by
  cases z:B.get? x with
  | none=>rfl
  | some o =>
   have:=hB x o z
   rw [nx] at this
   cases this
 have fn:h'.FunFrames B (fJ (CXE P w) P w K mg base N qual scope f cd A outer s₀ H₀ E).stack:=(j8 (fun b hb=>PySem.W.hideAll_none _ hb) I.stack).of_keeps fun b o e _=>⟨o,kp b o e,rfl⟩
 have covT:∀ b o,H b=some o→∃ o',B.get? b=some o':=fun b o e=>by
  have hlt:=(I.hok b o e).lt
  obtain ⟨u,hu⟩:∃ u,s.heap.get? b=some u:=(I.hok b o e).there
  refine ⟨u,bget b u hu fun hb=>?_⟩
  rw [I.stkFree b hb] at e
  cases e
 have un0:Un (frs (fJ (CXE P w) P w K mg base N qual scope f cd A outer s₀ H₀ E).stack) [] H H s.heap h':=Un.kept kp
 have cov1:∀ b o,s.heap.get? b=some o→b∉frs (fJ (CXE P w) P w K mg base N qual scope f cd A outer s₀ H₀ E).stack→∃ o',B.get? b=some o':=fun b o e n=>⟨o,bget b o e n⟩
 refine jV (s:={ s with heap:=h' }) (B:=B) (L:=s₀.heap.objs.size) hfr rfl hB' fn ⟨bx,sl,hx⟩ (.inl v1) fun h2 ws _ xa' ta' m=>?_
 refine ⟨x,C,none,H,B,rfl,I.os,I.bare,⟨?_,jy (I.hok.kept kp) hB' covT m.stay,m.stay,m.funs.2.2,fun b o e hb=>?_,covT,ws,xa',ta'⟩,q⟩
 ·have u2:=ma un0 hB' fn cov1 m
  exact pW (L:=s₀.heap.objs.size) (B:=B) (Nat.le_refl _) I.base (hsf▸u2)
 ·obtain ⟨o1,e1⟩:=I.base.there b o e (fun z=>by simp [fJ] at z)
  refine cov1 b o1 e1 fun z=>?_
  rw [hsf] at z
  exact (List.mem_cons.mp z).elim (Nat.ne_of_lt (Heap.lt_size e)) hb
end
end L2
namespace L2
open PySem PySem.Spec PyProof.Rows
section
variable {P:Program} {w:World} {K:PySem.W.Frag} {mg:Str→Option Value} {base:Heap} {k:Nat} {f:Addr} {fd:FuncData} {ps:List Str} {sp:Sp}
theorem Fun.okX {x qual:Str} {st:Stmt} {N:List Str} (F:Fun K x qual st f fd) (S:FnScope N ps (aq st)) (len:∀ vs H Q E,sp vs H Q E→vs.length=ps.length)
  (hbody:∀ (cdv:Value) (A:Around) (outer:List Env) (s:Shared) (H:Hp) (vs:List V) (Q:VK) (E:XK),Room k (A.deeper (envOfC qual (aq st) s.heap.objs.size f cdv))→sp vs H Q E→
   ∃ t,PSs (fJ (CXE P w) P w K mg base N qual (aq st) f cdv A outer s H E) (cP st) t∧t { nx:=fun _ H'=>Q .non H',rt:=Q } (start N vs) H):FnOk P w K mg base (CXE P w) (k+1) f fd ps sp:=by
 obtain ⟨oc,od,kV,doc,pm,an,cdv,ct,osl,rfl,lk,hcd⟩:=F.ex
 exact Am lk hcd S len fun A outer s H vs Q E hr hsp=>hbody cdv A outer s H vs Q E hr hsp
end
structure CalX (P:Program) (w:World) (K:PySem.W.Frag) (mg:Str→Option Value) (base:Heap) (k:Nat) (x:Str) (ps:List Str) (sp:Sp):Prop where
 ex:∃ f fd,FnOk P w K mg base (CXE P w) k f fd ps sp∧Binds K fd ps []∧PySem.W.keepIn K (.ref f)=true∧mg x=some (.ref f)
abbrev TX:=St→Hp→VK→XK→Prop
def FX (X:Cx) (pins:List (Addr×Obj)) (σ:St) (E:XK) (v:Value) (s':Shared):Prop:=∃ H1 s1,Inv X pins σ H1 s1∧CXE X.prog X.w X.stack H1 s1 E v s'
def PX (X:Cx) (e:Expr) (t:TX):Prop :=
 ∀ (pins:List (Addr×Obj)) (s:Shared) (σ:St) (H:Hp) (Q:VK) (E:XK),Inv X pins σ H s→t σ H Q E→wpAny (model X.prog X.w) X.A (eval e X.env) (EP X pins σ Q) (FX X pins σ E) s
section
variable {X:Cx} {k j:Nat} {f:Addr} {fd:FuncData} {ps:List Str} {sp:Sp} {E:XK} {x:Str} {p pos:Pos} {e:Expr} {es:List Expr} {t:TA}
theorem Ba (C:CalX X.prog X.w X.K X.mg X.base k x ps sp) (hx:Passes (CXE X.prog X.w) X E) (hr:Room j X.A) (hj:k≤j) (hg:Gl X x) (ha:PA X (e::es) t) (hdb:(x == ("__debug__":Str))=false:=by decide) (he:starEach (e::es) X.env=(false,eval e X.env)::starEach es X.env:=by rfl) (hpl:(backTo pos (starEach es X.env)).any (·.1)=false:=by rfl) :
  PE X (.Call (.Name x p) (e::es) [] pos) (tH sp [] E t):=by
 obtain ⟨f,fd,F,b,kp,m⟩:=C.ex
 exact sk F (hr.mono hj) hg m kp b .nil hx ha hdb he hpl
theorem Cq (C:CalX X.prog X.w X.K X.mg X.base k x ps sp) (hr:Room j X.A) (hj:k≤j) (hg:Gl X x) (ha:PA X.nox (e::es) t) (hdb:(x == ("__debug__":Str))=false:=by decide) (he:starEach (e::es) X.env=(false,eval e X.env)::starEach es X.env:=by rfl) (hpl:(backTo pos (starEach es X.env)).any (·.1)=false:=by rfl) :
  PX X (.Call (.Name x p) (e::es) [] pos) (fun σ H Q E=>t σ H fun vs H1=>sp vs H1 Q E):=by
 obtain ⟨f,fd,F,b,kp,m⟩:=C.ex
 intro pins s σ H Q E I h
 refine wpAny_Call_Name_kw (eR I hg m ?_ hdb)
 have h1:=ha pos pins s σ H _ (I.wish _) h
 refine PySem.W.callWith_K (h₀:=X.base) I.ok.mod.kin kp (wpAny_mono h1 (fun us s1 ⟨vs,H1,I1,r,q⟩=>⟨I1.kIn,?_⟩) fun _ _ z=>z.elim) he hpl
 have I2:=I1.unwish
 have hl:(us++[]).length=ps.length:=by rw [List.append_nil,← r.length]; exact F.len _ _ _ _ q
 have hb2:=b s1 us I2.kIn hl
 rw [List.append_nil] at hb2
 refine wpAny_call (codeAny_mono (F.run X.A X.stack s1 H1 ⟨us,[]⟩ us vs Q E (hr.mono hj) I2.env0 hb2 r q) fun r s' hq=>?_)
 cases r with
 | error e=>exact ⟨H1,s1,I2,hq⟩
 | ok fl =>
  cases fl with
  | ret u=>exact I2.after hq
  | next=>exact False.elim hq
  | brk=>exact False.elim hq
  | cont=>exact False.elim hq
end
def VE:List Value:=[.type "ValueError",.type "Exception",.type "BaseException",.type "object"]
def qw (K:PySem.W.Frag) (C:Addr):Prop:=PySem.W.excIn K C VE "ValueError.__new__"=true
theorem zz {K:PySem.W.Frag} {h:Heap} {C:Addr} (q:qw K C) (X:K.In h):∃ bm N nm q bs hdct sn sub ab col dd k0 k1 k2 k3 k5 mN,h.get? C=some (excClassObj nm q C N bs bm hdct sn sub ab col dd k0 k1 k2 k3 k5 "ValueError.__new__")∧h.Ns N mN∧mN "__init__"=none∧OwnTail h VE bm:=by
 unfold qw PySem.W.excIn at q
 split at q
 ·rename_i dd cd sl ho
  split at q
  ·rename_i C' bm k0 k1 k2 k3 n k5 hm hs
   simp only [Bool.and_eq_true,beq_iff_eq,Bool.not_eq_true'] at q
   obtain ⟨⟨⟨⟨⟨rfl,rfl⟩,hdel⟩,ht⟩,hok⟩,hni⟩:=q
   obtain ⟨nm,bs,mro,ns,qn,hd,sn,sub,ab,col,del⟩:=cd
   dsimp only at hm hdel hok hni
   subst hm hdel
   have hsl:sl=#[k0,k1,k2,k3,some (.builtin "ValueError.__new__"),k5]:=by
    obtain ⟨l⟩:=sl
    simp only at hs
    rw [hs]
   subst hsl
   exact ⟨bm,ns,nm,qn,bs,hd,sn,sub,ab,col,dd,k0,k1,k2,k3,k5,_,X _ _ ho,.of_isNs (PySem.W.isNs_of_in X hok),PySem.W.nsMap_none_of_in X hok hni,PySem.W.tail_of_in X ht⟩
  ·cases q
 ·cases q
def zy (E:XK) (C:Addr):TS:=fun _ _ H=>E (.ref C) none H
theorem mW {X:Cx} {E:XK} {x:Str} {C:Addr} {np cpos pos:Pos} (hs:yv X E) (hc:X.calm=true) (hg:Gl X x) (hm:X.mg x=some (.ref C)) (q:qw X.K C) (hd:(x == ("__debug__":Str))=false:=by decide) :
  PS X (.Raise (some (.Call (.Name x np) [] [] cpos)) none pos) (zy E C):=by
 intro pins s σ H D I h
 obtain ⟨tl,N,nm,q,bs,hdct,sn,sub,ab,col,dd,k0,k1,k2,k3,k5,mN,hC,hN,hni,T⟩:=zz q I.kIn
 refine wpAny_Raise_call_subT (C:=C) (nm:=nm) (q:=q) (N:=N) (bs:=bs) (bm:=tl) (hdct:=hdct) (sn:=sn) (sub:=sub) (ab:=ab) (col:=col) (dd:=dd) (k0:=k0) (k1:=k1) (k2:=k2) (k3:=k3) (k5:=k5)
  PySem.F.excBase_ValueError (mN:=mN) (T.hasType PySem.F.excBase_ValueError.hasBase) (I.ok.hd hc) rfl hni (eR I hg hm ⟨rfl,?_⟩ hd)
 refine evalArgs_empty ⟨rfl,Nat.zero_le _,hC,hN,T,fun h' e made=>?_⟩
 obtain ⟨t,ht,_,_⟩:=made.there
 exact hs pins σ H s h' e C #[] _ I made.keeps made.new ht rfl h
end L2
namespace L2
open PySem PySem.Spec PyProof.Rows
abbrev TSX:=Ends→XK→St→Hp→Prop
def PSX (X:Cx) (st:Stmt) (t:TSX):Prop :=
 ∀ (pins:List (Addr×Obj)) (s:Shared) (σ:St) (H:Hp) (D:Ends) (E:XK),Inv X pins σ H s→t D E σ H→wpAny (model X.prog X.w) X.A (exec st X.env) (SP X pins D) (FX X pins σ E) s
section
variable {X:Cx} {e:Expr} {tx:TX} {pos:Pos}
def BO (tx:TX):TSX:=fun D E σ H=>tx σ H (fun _ H1=>D.nx σ H1) E
theorem vG (he:PX X e tx) (hs:swapsWith e none pos.line X.env=pure false:=by rfl):PSX X (.Expr e pos) (BO tx):=by
 intro pins s σ H D E I h
 exact wpAny_Expr_any (thn (he pins s σ H _ E I h) fun v s1 ⟨x,H1,I1,r1,q1⟩=>⟨σ,H1,I1,q1⟩) I.quiet hs
def Eh (tx:TX):TSX:=fun D E σ H=>tx σ H D.rt E
def Ef (i:Nat) (tx:TX):TSX:=fun D E σ H=>tx σ H (fun v H1=>D.nx (σ.set i (some v)) H1) E
end
def ExO (a C:Addr) (d:Option Addr):HO:=.ext fun h=>∃ vs sl,h.get? a=some ⟨.ref C,d,.fields vs,sl⟩
theorem A5 {P:Program} {w:World} {H:Hp} {h:Heap} {a C:Addr} {d:Option Addr} {vs:Array Value} {sl:Array (Option Value)} (e:h.get? a=some ⟨.ref C,d,.fields vs,sl⟩):ObjOk P w H h a (ExO a C d) :=
 ⟨⟨vs,sl,e⟩,⟨_,e⟩,fun _ _ ⟨vs,sl,q⟩ k=>⟨vs,sl,k _ q⟩⟩
section
variable {P:Program} {w:World} {outer:List Env} {H H':Hp} {g B h:Heap} {x C:Addr} {d:Option Addr}
theorem Fly.fresh (F:Fly P w outer H H' g B x C d h):g.get? x=none:=by
 obtain ⟨vs,⟨bx,sl,ex⟩,_⟩:=F.exc
 cases q:g.get? x with
 | none=>rfl
 | some o =>
  obtain ⟨o',z⟩:=F.cov x o q (gF F.funs ex rfl)
  rw [z] at bx
  cases bx
theorem Fly.track (F:Fly P w outer H H' g B x C d h):Un (frs outer) [] H (upd H' x (ExO x C d)) g h∧HOk P w (upd H' x (ExO x C d)) h:=by
 have nx:=F.noX
 have gx:=F.fresh
 obtain ⟨vs,⟨_,sl,ex⟩,_⟩:=F.exc
 have ne:∀ b o,H' b=some o→b≠x:=fun b o e=>aG e nx
 refine ⟨⟨F.un.keep,F.un.slot,fun b o e n hx=>?_,F.un.there,fun b xs e=>?_,fun b o u e=>?_,fun b ps e=>?_⟩,fun b o e=>?_⟩
 ·have hb:b≠x:=fun z=>by rw [z,gx] at e; cases e
  rw [au hb]
  exact F.un.free b o e n hx
 ·have q:=F.un.tups b xs e
  rw [au (ne b _ q)]
  exact q
 ·have q:=F.un.frzs b o u e
  rw [au (ne b _ q)]
  exact q
 ·obtain ⟨m,q⟩:=F.un.tbls b ps e
  exact ⟨m,by rw [au (ne b _ q)]; exact q⟩
 ·by_cases hb:b=x
  ·subst hb
   rw [ah] at e
   cases e
   exact A5 ex
  ·rw [au hb] at e
   exact (F.hok b o e).stay (fun _ _ _ q=>q) (fun c q=>by rw [au (ne c _ q)]; exact q) fun c xs q=>by rw [au (ne c _ q)]; exact q
end
abbrev Cx.held (X:Cx) (x:Addr):Cx:={ X with A:=X.A.mark (some (.ref x)),calm:=false,xe:=fun _ _=>False }
section
variable {X:Cx} {pins:List (Addr×Obj)} {σ:St} {H:Hp} {s:Shared} {x:Addr}
theorem Inv.held (I:Inv X pins σ H s) (x:Addr):Inv (X.held x) pins σ H s :=
 ⟨⟨I.ok.mod,I.ok.kind,I.ok.glob,I.ok.blt,I.ok.above,I.ok.inj,I.ok.has,I.ok.cab,(fun z=>nomatch z),I.ok.frames,I.ok.stk,I.ok.exf,I.ok.bs,I.ok.bsz,I.ok.noex,I.ok.exfs,I.ok.funs,I.ok.frf⟩,
  I.os,I.bare,I.base,I.loc,I.cell,I.free,I.freeC,I.pin,I.hok,I.len⟩
theorem Inv.unheld (ok:X.Ok) (I:Inv (X.held x) pins σ H s):Inv X pins σ H s:=⟨ok,I.os,I.bare,I.base,I.loc,I.cell,I.free,I.freeC,I.pin,I.hok,I.len⟩
theorem SP.unheld (ok:X.Ok) {D:Ends} {f:Flow} {s':Shared} (h:SP (X.held x) pins D f s'):SP X pins D f s':=by
 cases f with
 | next=>obtain ⟨σ',H',I,q⟩:=h; exact ⟨σ',H',I.unheld ok,q⟩
 | brk=>obtain ⟨σ',H',I,q⟩:=h; exact ⟨σ',H',I.unheld ok,q⟩
 | cont=>obtain ⟨σ',H',I,q⟩:=h; exact ⟨σ',H',I.unheld ok,q⟩
 | ret u=>obtain ⟨v,σ',H',I,r,q⟩:=h; exact ⟨v,σ',H',I.unheld ok,r,q⟩
theorem wz {E:XK} {e:Value} {s':Shared} {R:Value→Shared→Prop} {Ee:Value→Shared→Prop} (hst:X.stack=X.env::X.outer) (hf:X.env.frame=some X.env.locals) (h:FX X pins σ E e s')
  (k:∀ (x C:Addr) (d:Option Addr) (H1 H':Hp) (s1 s'':Shared) (B:Heap),e=.ref x→Inv X pins σ H1 s1→s''.os=s1.os→AllBare s''.gens→Fly X.prog X.w X.stack H1 H' s1.heap B x C d s''.heap→E (.ref C) d H'→R e s'') :
  wpAny (model X.prog X.w) X.A (noteFrame e X.env) (fun _ s2=>wpAny (model X.prog X.w) X.A (setFlight e none) (fun _ s3=>R e s3) Ee s2) Ee s':=by
 obtain ⟨H1,s1,I1,x,C,d,H',B,rfl,os,bare,F,q⟩:=h
 have hfr:X.A.frames=some (X.env::X.outer):=by rw [I1.ok.frames,hst]
 obtain ⟨vs,xa,ta⟩:=F.exc
 have fu:=F.funs
 rw [hst] at fu
 refine lB hfr hf F.stay fu xa (.inr ta) fun g1 ws _ xa1 ta1 m1=>?_
 refine gN (s:={ s' with heap:=g1 }) m1.stay m1.funs xa1 ta1 fun g2 xa2 ta2 m2=>?_
 have m:=m1.trans m2
 rw [← hst] at m
 exact k x C d H1 H' s1 _ B rfl I1 os bare (F.moved m xa2 ta2) q
theorem u0 {C:Addr} {d:Option Addr} {H1 H':Hp} {s1 s':Shared} {B:Heap} {R:Shared→Prop} {A:Around} {Ee:Value→Shared→Prop} (F:Fly X.prog X.w X.stack H1 H' s1.heap B x C d s'.heap)
  (k:∀ h',Fly X.prog X.w X.stack H1 H' s1.heap B x C d h'→R { s' with heap:=h' }):wpAny (model X.prog X.w) A (setFlight (.ref x) none) (fun _ s3=>R s3) Ee s':=by
 obtain ⟨vs,xa,ta⟩:=F.exc
 exact gN F.stay F.funs xa ta fun h' xa' ta' m=>k h' (F.moved m xa' ta')
end
theorem A7 {M:Model} {P:Program} {w:World} {outer:List Env} {H H':Hp} {g B h:Heap} {x C:Addr} {d:Option Addr} (F:Fly P w outer H H' g B x C d h):PySem.W.Looks M h (typeOf (.ref x)) (.ref C):=by
 obtain ⟨vs,⟨_,sl,ex⟩,_⟩:=F.exc
 exact (PySem.W.Looks.ld ex).andThen .now
section
variable {X:Cx} {st b0:Stmt} {suite:List Stmt} {c n:Str} {C0:Addr} {np hpos pos:Pos} {tb:TSX} {ts:TS}
def D6 (K:PySem.W.Frag) (C0:Addr) (tb:TSX) (ts:TS):TS:=fun D σ H=>tb D (fun c d H'=>PySem.W.exmOne K c (.ref C0)=some true∧∀ a C,c=.ref C→H' a=none→ts D σ (upd H' a (ExO a C d))) σ H
theorem BJ (hst:X.stack=X.env::X.outer) (hf:X.env.frame=some X.env.locals) (hg:Gl X c) (hm:X.mg c=some (.ref C0)) (hb:PSX X st tb) (hs:∀ x,PSs (X.held x) (b0::suite) ts) (hd:(c == ("__debug__":Str))=false:=by decide) :
  PS X (.Try [st] [.ExceptHandler (some (.Name c np)) none (b0::suite) hpos] [] [] pos) (D6 X.K C0 tb ts):=by
 intro pins s σ H D I h
 refine wpAny_Try_except (wpAny_execs_cons (wpAny_mono (hb pins s σ H D _ I h) (fun fl s1 q=>?_) fun e s1 q=>?_))
 ·cases fl with
  | next=>exact wpAny_execs_nil (wpAny_execs_nil q)
  | ret v=>exact q
  | brk=>exact q
  | cont=>exact q
 refine wz (R:=fun e s3=>wpAny (model X.prog X.w) X.A (handleBy e X.env [.ExceptHandler (some (.Name c np)) none (b0::suite) hpos]) (SP X pins D) X.xe s3) hst hf q fun x C d H1 H' s1 s'' B ee I1 os bare F ⟨hx,q2⟩=>?_
 subst ee
 obtain ⟨un,hok⟩:=F.track
 have I2:Inv X pins σ (upd H' x (ExO x C d)) s'':=I1.call' os un hok bare (fun b hb=>nomatch hb)
 refine wpAny_handleBy_cons (codeAny_handlers_test (eR (X:=X.held x) (I2.held x) hg hm ?_ hd)) (by intro q; cases q)
 refine PySem.W.Looks.here (PySem.W.exm_one I2.kIn (A7 F) hx) ?_
 refine codeAny_handlers_suite (u0 (X:=X) F fun h' F'=>?_)
 obtain ⟨un',hok'⟩:=F'.track
 have I3:Inv X pins σ (upd H' x (ExO x C d)) { s'' with heap:=h' }:=I1.call' os un' hok' bare (fun b hb=>nomatch hb)
 refine wpAny_mono (hs x pins _ σ _ D (I3.held x) (q2 x C rfl F.noX)) (fun fl s3 q3=>?_) fun _ _ z=>z.elim
 exact q3.unheld I.ok
end
end L2
namespace L2
open PySem PySem.Spec PyProof.Rows
section
variable {X:Cx} {pins:List (Addr×Obj)} {σ:St} {H:Hp} {s:Shared}
end
section
variable {X:Cx} {st b0:Stmt} {suite:List Stmt} {c n:Str} {C0:Addr} {np hpos pos:Pos} {tb:TSX} {ts:TS} {i:Nat}
def Ends.forget (D:Ends) (i:Nat):Ends:={ nx:=fun σ H=>D.nx (σ.set i none) H,rt:=D.rt,bk:=fun σ H=>D.bk (σ.set i none) H,ct:=fun σ H=>D.ct (σ.set i none) H }
def DO (K:PySem.W.Frag) (C0:Addr) (i:Nat) (tb:TSX) (ts:TS):TS:=fun D σ H=>tb D (fun c d H'=>PySem.W.exmOne K c (.ref C0)=some true∧∀ a C,c=.ref C→H' a=none→ts (D.forget i) (σ.set i (some (.ref a))) (upd H' a (ExO a C d))) σ H
end
end L2
namespace L2
open PySem PySem.Spec PyProof.Rows PySem.W
structure XCls (K:PySem.W.Frag) (C:Addr):Prop where
 ga:findIn K (.ref C) "__getattribute__"=some (some (.builtin "BaseException.__getattribute__"))
 gh:findIn K (.ref C) "__getattr__"=some none
 bx:subIn K (.ref C) (.type "BaseException")=some true
 hd:hasDictIn K C=true
 ca:findIn K (.ref C) "__class__"=some (some (.builtin "object.__class__"))
 cg:specialIn K (.builtin "object.__class__") "__get__"=some (some (.builtin "getset_descriptor.__get__"))
 ct:takesIn K (.builtin "object.__class__")=some true
 ob:mroIn K C (.type "object")=some true
section
variable {prog:Program} {w:World} {A:Around} {E:Value→Shared→Prop} {s:Shared} {K:PySem.W.Frag} {x C:Addr} {ox:Obj} {od:Option Obj} {name:Str} {tk:Tok}
end
end L2
namespace L2
open PySem PySem.Spec PyProof.Rows
def Dc (H:Hp) (d:Option Addr):Prop:=d=none∨∃ dx fs,d=some dx∧H dx=some (.xd fs)
section
variable {X:Cx} {pins:List (Addr×Obj)} {σ:St} {H:Hp} {s:Shared}
def E3 (K:PySem.W.Frag):List V→Hp→VK→Prop:=fun xs H Q=>∃ (a C:Addr) (d:Option Addr) (c:V) (u:Value) (b:Bool),xs=[.ref a,c]∧H a=some (ExO a C d)∧Dc H d∧XCls K C∧(∀ u',RelV c u'→u'=u)∧PySem.W.kitOne K (.ref C) u=some b∧Q (.bl b) H
end
theorem bo {σ:St} {H:Hp} {A B:Hp→Prop} (h:A H):Ax σ H (fun b H4=>if b=true then A H4 else B H4):=bf (A:=A H) (B:=B H) h
theorem mw {X:Cx} {K:PySem.W.Frag} (hK:X.K=K):cW X (.builtin "len") (fun xs H Q=>∃ p ys,xs=[.ref p]∧(SqL K H p ys∨SqT K H p ys)∧Q (.int (ys.length:Nat)) H):=hK▸aM
theorem wj {X:Cx} {K:PySem.W.Frag} (hK:X.K=K):IxR X (A6 K):=hK▸ax
theorem dF {X:Cx} {K:PySem.W.Frag} (hK:X.K=K):IxR X (AJ K):=hK▸aP
end L2
namespace L2
open PySem PySem.Spec PyProof.Rows
def notStar:Expr→Bool
 | .Starred ..=>false
 | _=>true
section
variable {X:Cx} {e:Expr} {es:List Expr} {te:TE} {t:TA} {x:Str} {p pos:Pos} {id T:String} {r:List V→Hp→VK→Prop} {k j:Nat} {ps:List Str} {sp:Sp}
end
end L2
namespace L2
open PySem PySem.Spec PyProof.Rows
theorem FunAt.calX {P:Program} {w:World} {K:PySem.W.Frag} {h base:Heap} {mg:Str→Option Value} {x:Str} {st:Stmt} {ps:List Str} {k:Nat} {sp:Sp} (F:FunAt K x st) (X:K.In h) (G:h.Ns mainGlobals mg)
  (hb:∀ (kV doc pm:Value) (an:Option Addr) (cdv ct:Value) (us:List Value),us.length=ps.length→bindArgs (PySem.W.fnOf x x (dH st) (cP st) (aq st) .none kV doc pm an cdv ct) ⟨us,[]⟩=pure (ps.zip us))
  (ok:∀ (f:Addr) (fd:FuncData),Fun K x x st f fd→FnOk P w K mg base (CXE P w) k f fd ps sp):CalX P w K mg base k x ps sp:=by
 obtain ⟨f,fd,F1,a⟩:=F.ex
 exact ⟨f,fd,ok f fd F1,F1.binds hb,F1.kp,PySem.W.mg_of X G a⟩
end L2
namespace L2
open PySem PySem.Spec PyProof.Rows
inductive EqH (K:PySem.W.Frag) (H:Hp):Nat→V→V→Bool→Prop
 | flat {n:Nat} {x y:V} (fx:fe x=true) (fy:fe y=true):EqH K H n x y (eqV x y)
 | same {n:Nat} {a:Addr}:EqH K H n (.ref a) (.ref a) true
 | lst {n:Nat} {a b:Addr} {xs ys:List V} (e:Nat→Bool) (hne:a≠b) (ha:SqL K H a xs) (hb:SqL K H b ys) (hl:xs.length=ys.length) (he:∀ (i:Nat) x y,xs[i]?=some x→ys[i]?=some y→EqH K H n x y (e i)):EqH K H (n+1) (.ref a) (.ref b) ((List.range xs.length).all e)
 | len {n:Nat} {a b:Addr} {xs ys:List V} (hne:a≠b) (ha:SqL K H a xs) (hb:SqL K H b ys) (hl:¬ xs.length=ys.length):EqH K H (n+1) (.ref a) (.ref b) false
 | tup {n:Nat} {a b:Addr} {xs ys:List V} (e:Nat→Bool) (hne:a≠b) (ha:SqT K H a xs) (hb:SqT K H b ys) (he:∀ (i:Nat) x y,xs[i]?=some x→ys[i]?=some y→EqH K H n x y (e i)):EqH K H (n+1) (.ref a) (.ref b) ((List.range (min xs.length ys.length)).all e && xs.length == ys.length)
theorem IsTup.tup {h:Heap} {a:Addr} {its:Array Value} (t:IsTup h a its):h.IsTuple a its:=by
 obtain ⟨o,h1,h2,h3⟩:=t
 exact ⟨o,h1,h2,h3⟩
section
variable {X:Cx} {pins:List (Addr×Obj)} {σ:St} {H:Hp} {s:Shared}
theorem ib {A:Around} {xs ys:List V} {us ws:List Value} {e:Nat→Bool} (r:Vals xs us) (r':Vals ys ws) (he:∀ (i:Nat) x y u v,xs[i]?=some x→ys[i]?=some y→RelV x u→RelV y v→SeqAt.EqAt A s u v (e i)) :
  ∀ j (h1:j<us.toArray.size) (h2:j<ws.toArray.size),SeqAt.EqAt A s us.toArray[j] ws.toArray[j] (e j):=fun j h1 h2=>by
 have l1:=r.length
 have l2:=r'.length
 simp only [List.size_toArray] at h1 h2
 have e1:xs[j]?=some xs[j]:=List.getElem?_eq_getElem (by omega)
 have e2:ys[j]?=some ys[j]:=List.getElem?_eq_getElem (by omega)
 obtain ⟨u,hu,ru⟩:=r.get e1
 obtain ⟨v,hv,rv⟩:=r'.get e2
 have eu:us.toArray[j]=u:=by
  have:us[j]?=some us[j]:=List.getElem?_eq_getElem h1
  rw [this] at hu
  exact Option.some.inj hu
 have ev:ws.toArray[j]=v:=by
  have:ws[j]?=some ws[j]:=List.getElem?_eq_getElem h2
  rw [this] at hv
  exact Option.some.inj hv
 rw [eu,ev]
 exact he j _ _ _ _ e1 e2 ru rv
theorem EqH.at (I:Inv X pins σ H s) {n:Nat} {x y:V} {b:Bool} (h:EqH X.K H n x y b):∀ {A:Around} {u v:Value},A.units+n<cLine→RelV x u→RelV y v→SeqAt.EqAt A s u v b:=by
 induction h with
 | flat fx fy=>intro A u v hu rx ry; exact xA rx ry fx fy
 | same=>intro A u v hu rx ry; cases rx; cases ry; exact SeqAt.EqAt.same _
 | @lst n a b xs ys e hne ha hb hl he ih =>
  intro A u v hu rx ry
  cases rx
  cases ry
  obtain ⟨us,r1,p1,_⟩:=I.list ha
  obtain ⟨ws,r2,p2,_⟩:=I.list hb
  have l1:=r1.length
  have l2:=r2.length
  have:=SeqAt.EqAt.of_refs hne (SeqAt.RcAt.lists p1.isList p2.isList (by simp only [List.size_toArray]; omega) (by omega) (ib (A:=A.in1) r1 r2 fun i x y u v e1 e2 ru rv=>ih i x y e1 e2 (by show A.units+1+n<cLine; omega) ru rv))
  rw [List.size_toArray,← l1] at this
  exact this
 | @len n a b xs ys hne ha hb hl =>
  intro A u v hu rx ry
  cases rx
  cases ry
  obtain ⟨us,r1,p1,_⟩:=I.list ha
  obtain ⟨ws,r2,p2,_⟩:=I.list hb
  have l1:=r1.length
  have l2:=r2.length
  exact SeqAt.EqAt.of_refs hne (SeqAt.RcAt.lists_lengths p1.isList p2.isList (by simp only [List.size_toArray,bne_iff_ne]; omega) (by omega))
 | @tup n a b xs ys e hne ha hb he ih =>
  intro A u v hu rx ry
  cases rx
  cases ry
  obtain ⟨us,r1,p1,_⟩:=I.tuple ha
  obtain ⟨ws,r2,p2,_⟩:=I.tuple hb
  have l1:=r1.length
  have l2:=r2.length
  have:=SeqAt.EqAt.of_refs hne (SeqAt.RcAt.tuples (e:=e) (IsTup.tup p1) (IsTup.tup p2) (by omega) (ib (A:=A.in1) r1 r2 fun i x y u v e1 e2 ru rv=>ih i x y e1 e2 (by show A.units+1+n<cLine; omega) ru rv))
  rw [List.size_toArray,List.size_toArray,← l1,← l2] at this
  exact this
def CM (K:PySem.W.Frag) (neg:Bool):R2:=fun x y H Q=>∃ (n:Nat) (b:Bool) (p q:Addr),x=.ref p∧y=.ref q∧p≠q∧n≤32∧EqH K H n x y b∧Q (.bl (if neg then !b else b)) H
theorem vP (hu:X.A.units+64<cLine):OpR X (compareOp .Eq) (CM X.K false):=by
 intro pins s σ H x y v u Q I rx ry h
 obtain ⟨n,b,p,q,rfl,rfl,hpq,hn,he,hq⟩:=h
 cases rx
 cases ry
 cases he with
 | flat fx fy=>cases fx
 | same=>exact absurd rfl hpq
 | lst e hne ha hb hl he =>
  obtain ⟨us,r1,p1,_⟩:=I.list ha
  obtain ⟨ws,r2,p2,_⟩:=I.list hb
  have l1:=r1.length
  have l2:=r2.length
  refine SeqAt.eq_listAt p1.isList p2.isList (by simp only [List.size_toArray]; omega) (by omega) (ib r1 r2 fun i x y u v e1 e2 ru rv=>(he i x y e1 e2).at I (by show X.A.units+1+_<cLine; omega) ru rv) ⟨.bl _,H,I,?_,hq⟩
  show Value.bool _=Value.bool _
  rw [List.size_toArray,← l1]
  rfl
 | len hne ha hb hl =>
  obtain ⟨us,r1,p1,_⟩:=I.list ha
  obtain ⟨ws,r2,p2,_⟩:=I.list hb
  have l1:=r1.length
  have l2:=r2.length
  exact SeqAt.eq_list_lengthsAt p1.isList p2.isList (by simp only [List.size_toArray,bne_iff_ne]; omega) (by omega) ⟨.bl _,H,I,rfl,hq⟩
 | tup e hne ha hb he =>
  obtain ⟨us,r1,p1,_⟩:=I.tuple ha
  obtain ⟨ws,r2,p2,_⟩:=I.tuple hb
  have l1:=r1.length
  have l2:=r2.length
  refine SeqAt.eq_tupleAt (e:=e) (IsTup.tup p1) (IsTup.tup p2) (by omega) (ib r1 r2 fun i x y u v e1 e2 ru rv=>(he i x y e1 e2).at I (by show X.A.units+1+_<cLine; omega) ru rv) ⟨.bl _,H,I,?_,hq⟩
  show Value.bool _=Value.bool _
  rw [List.size_toArray,List.size_toArray,← l1,← l2]
  rfl
theorem iu (hu:X.A.units+64<cLine):OpR X (compareOp .NotEq) (CM X.K true):=by
 intro pins s σ H x y v u Q I rx ry h
 obtain ⟨n,b,p,q,rfl,rfl,hpq,hn,he,hq⟩:=h
 cases rx
 cases ry
 cases he with
 | flat fx fy=>cases fx
 | same=>exact absurd rfl hpq
 | lst e hne ha hb hl he =>
  obtain ⟨us,r1,p1,_⟩:=I.list ha
  obtain ⟨ws,r2,p2,_⟩:=I.list hb
  have l1:=r1.length
  have l2:=r2.length
  refine SeqAt.RcNeAt.lists p1.isList p2.isList (by simp only [List.size_toArray]; omega) (by omega) (ib r1 r2 fun i x y u v e1 e2 ru rv=>(he i x y e1 e2).at I (by show X.A.units+1+_<cLine; omega) ru rv) _ _ _ _ ⟨.bl _,H,I,?_,hq⟩
  show Value.bool _=Value.bool _
  rw [List.size_toArray,← l1]
  rfl
 | len hne ha hb hl =>
  obtain ⟨us,r1,p1,_⟩:=I.list ha
  obtain ⟨ws,r2,p2,_⟩:=I.list hb
  have l1:=r1.length
  have l2:=r2.length
  exact SeqAt.RcNeAt.lists_lengths p1.isList p2.isList (by simp only [List.size_toArray,bne_iff_ne]; omega) (by omega) _ _ _ _ ⟨.bl _,H,I,rfl,hq⟩
 | tup e hne ha hb he =>
  obtain ⟨us,r1,p1,_⟩:=I.tuple ha
  obtain ⟨ws,r2,p2,_⟩:=I.tuple hb
  have l1:=r1.length
  have l2:=r2.length
  refine SeqAt.RcNeAt.tuples (e:=e) (IsTup.tup p1) (IsTup.tup p2) (by omega) (ib r1 r2 fun i x y u v e1 e2 ru rv=>(he i x y e1 e2).at I (by show X.A.units+1+_<cLine; omega) ru rv) _ _ _ _ ⟨.bl _,H,I,?_,hq⟩
  show Value.bool _=Value.bool _
  rw [List.size_toArray,List.size_toArray,← l1,← l2]
  rfl
end
end L2
namespace L2
open PySem PySem.Spec PyProof.Rows
def yM {α:Type} (l:List α) (lo hi:Option Int):List α:=(l.drop (HT.sIx l.length 0 lo)).take (HT.sIx l.length l.length hi - HT.sIx l.length 0 lo)
theorem pj (v:Option Int) (n d:Nat):(match v with | none=>((d:Nat):Int) | some i=>max 0 (min (if i<0 then i+(n:Int) else i) (n:Int)))=((HT.sIx n d v:Nat):Int):=by
 cases v with
 | none=>rfl
 | some i =>
  show max 0 (min (if i<0 then i+(n:Int) else i) (n:Int))=(((if i<0 then (i+(n:Int)).toNat else min i.toNat n):Nat):Int)
  by_cases h:i<0
  ·simp only [if_pos h]; omega
  ·simp only [if_neg h]; omega
theorem AU (lo hi:Option Int) (n:Nat):Builtin.Str.strSliceIndices lo hi 1 n=sliceRange ((HT.sIx n 0 lo:Nat):Int) ((HT.sIx n n hi:Nat):Int) 1:=by
 unfold Builtin.Str.strSliceIndices
 simp only [show (1:Int) > 0 by decide,if_true]
 rw [← pj lo n 0,← pj hi n n]
 rfl
theorem nq (x:Str) (lo hi:Option Int):(Txt.slice x lo hi).cps.toList=yM x.cps.toList lo hi:=by
 have hn:x.cps.toList.length=x.length:=by simp [Str.length]
 unfold Txt.slice yM
 rw [AU,sliceRange_one,hn]
 generalize ha:HT.sIx x.length 0 lo=a
 generalize hb:HT.sIx x.length x.length hi=b
 have hb':b≤x.length:=by rw [← hb]; exact HT.xG _ _ (Nat.le_refl _) _
 split
 ·rename_i h
  simp only [List.length_map,List.length_range,Bool.and_eq_true,beq_iff_eq] at h
  by_cases hz:x.length=0
  ·have e:x.cps.toList=[]:=List.length_eq_zero_iff.mp (by omega)
   rw [e]
   simp
  ·have e1:a=0:=by omega
   have e2:b=x.length:=by omega
   subst e1 e2
   rw [List.drop_zero,Nat.sub_zero,List.take_of_length_le (by omega)]
 ·rw [pick_run]
theorem bq (x:Str):x.cps.toList.length=x.length:=by simp [Str.length]
section
variable {X:Cx}
def Dn:V→Option Int→Option Int→Hp→VK→Prop:=fun x lo hi H Q=>∃ z,x=.str z∧z.length≤sizeLine∧Q (.str (Txt.slice z lo hi)) H
theorem part_of {v:Value} {o:Option Int} (p:IsPart v o):∃ l:Option (Int×Tok),v=partValue l∧l.map (·.1)=o:=by
 cases p with
 | none=>exact ⟨none,rfl,rfl⟩
 | int i t=>exact ⟨some (i,t),rfl,rfl⟩
theorem Bg:SlR X Dn:=by
 intro pins s σ H x v vl vu lo hi sl Q I rx hs pl pu h
 obtain ⟨z,rfl,hz,q⟩:=h
 obtain ⟨t,rfl⟩:=rx
 obtain ⟨l,e1,e2⟩:=part_of pl
 obtain ⟨u,e3,e4⟩:=part_of pu
 refine ⟨"str",_,PySem.F.slot_str_getitem.lookup,typeIs_str _ _ _,?_⟩
 obtain ⟨o,h1,h2,h3⟩:=hs
 subst e1 e3 e2 e4
 refine wpAny_getItem_str_slice (l:=l) (u:=u) (st:=none) ⟨o,h1,h2,h3⟩ rfl ?_
 refine post_val_or_str ⟨Nat.le_trans (Txt.slice_le z _ _) hz,fun t' k=>?_⟩
 exact ⟨.str _,H,I.tok _,⟨_,rfl⟩,q⟩
end
end L2
namespace L2
open PySem PySem.Spec PyProof.Rows
section
variable {prog:Program} {w:World} {A:Around} {E:Value→Shared→Prop} {s:Shared}
theorem pb {it t:Addr} {i:Nat} {its:Array Value} {x:Value} {Q:Value→Shared→Prop} (a:s.heap.IsTupleIter it t i) (b:s.heap.IsTuple t its) (c:its[i]?=some x) (d:∀ h',h'.IsTupleIter it t (i+1)→Heap.SameBut it s.heap h'→Q x { s with heap:=h' }):wpAny (model prog w) A (Builtin.SmallTypes.nextOf (.ref it)) Q E s:=by
 obtain ⟨u,e1,e2,e3⟩:=id a
 obtain ⟨v,f1,_,m,f3⟩:=b
 unfold Builtin.SmallTypes.nextOf
 refine wpAny_bind (wpAny_callSpecial?_slot (name:=Str.ofString "__next__") a.typeIs F.slot_tuple_iterator_next (wpAny_call_entry F.slot_tuple_iterator_next a.typeIs F.entry_tuple_iterator_next ?_ (F.args_tuple_iterator_next_1 _)))
 show wpAny _ _ (field (.ref it) 0 >>= _) _ _ s; refine wpAny_bind (wpAny_field e1 e3 (x:=.ref t) rfl ?_)
 show wpAny _ _ (if (Value.ref t == Value.none)=true then _ else _) _ _ s; rw [if_neg (show ¬ ((Value.ref t == Value.none)=true) from Bool.false_ne_true)]
 show wpAny _ _ (field (.ref it) 1 >>= _) _ _ s; refine wpAny_bind (wpAny_field e1 e3 (x:=.int i 0) rfl ?_)
 show wpAny _ _ (seqItems? (.ref t) >>= _) _ _ s; refine wpAny_bind (wpAny_seqItems f1 f3 ?_)
 simp only [Int.toNat_natCast,c]
 refine wpAny_bind (wpAny_setField e1 e3 (by simp) (wpAny_pure ⟨x,rfl,wpAny_pure (d _ ⟨_,Heap.get?_update_self _ e1 (Obj.isFreed_of_fields (Obj.data_mapFields e3 _)),(Obj.cls_mapFields ..).trans e2,?_⟩ (Heap.SameBut.update ..))⟩))
 rw [Obj.data_mapFields e3]; simp [rawInt]
theorem sP {it t:Addr} {i:Nat} {its:Array Value} {Q:Value→Shared→Prop} (hh:A.handled=none) (a:s.heap.IsTupleIter it t i) (b:s.heap.IsTuple t its) (c:its[i]?=none)
  (d:∀ h' e,Heap.ExtBut it s.heap h'→(∃ o,h'.get? e=some o∧o.cls=.type "StopIteration")→E (.ref e) { s with heap:=h' }):wpAny (model prog w) A (Builtin.SmallTypes.nextOf (.ref it)) Q E s:=by
 obtain ⟨u,e1,e2,e3⟩:=id a
 obtain ⟨v,f1,_,m,f3⟩:=b
 unfold Builtin.SmallTypes.nextOf
 refine wpAny_bind (wpAny_callSpecial?_slot (name:=Str.ofString "__next__") a.typeIs F.slot_tuple_iterator_next (wpAny_call_entry F.slot_tuple_iterator_next a.typeIs F.entry_tuple_iterator_next ?_ (F.args_tuple_iterator_next_1 _)))
 show wpAny _ _ (field (.ref it) 0 >>= _) _ _ s; refine wpAny_bind (wpAny_field e1 e3 (x:=.ref t) rfl ?_)
 show wpAny _ _ (if (Value.ref t == Value.none)=true then _ else _) _ _ s; rw [if_neg (show ¬ ((Value.ref t == Value.none)=true) from Bool.false_ne_true)]
 show wpAny _ _ (field (.ref it) 1 >>= _) _ _ s; refine wpAny_bind (wpAny_field e1 e3 (x:=.int i 0) rfl ?_)
 show wpAny _ _ (seqItems? (.ref t) >>= _) _ _ s; refine wpAny_bind (wpAny_seqItems f1 f3 ?_)
 simp only [Int.toNat_natCast,c]
 refine wpAny_bind (wpAny_rule (wpAny_bind (wpAny_setField e1 e3 (by simp) ?_)))
 show wpAny _ _ (newExc (.type "StopIteration") [] >>= _) _ _ _; refine wpAny_bind ?_
 simp only [newExc,newTuple]; refine wpAny_bind (wpAny_newObj_type ?_ (by size_fits))
 refine wpAny_bind (m:=firstArgMember _ _) (wpAny_of_eq (a:=Value.none) (by first | rfl | (simp only [firstArgMember]; rfl)) (wpAny_newObj_type ?_ (by size_fits)))
 simp only [raiseNew]; refine wpAny_bind (wpAny_handled ?_)
 rw [show A.in1.handled=none from hh]
 exact wpAny_bind (wpAny_pure (wpAny_throw (d _ _ (((Heap.SameBut.update ..).extBut.push _).push _) ⟨_,Heap.get?_push_size _ rfl,rfl⟩)))
theorem xn (hh:A.handled=none) (it t:Addr) (hne:t≠it) (its:Array Value):Draws prog w A it [it,t] its.size (fun i v=>its[i]?=some v) (fun i h=>h.IsTupleIter it t i∧h.IsTuple t its) where
 live:=fun _ _ st=>by
  obtain ⟨⟨o,e,_⟩,_⟩:=st
  exact ⟨o,e⟩
 frame:=fun _ _ _ st k=>by
  obtain ⟨⟨o,e,r⟩,⟨o2,e2,r2⟩⟩:=st
  exact ⟨⟨o,k it (by simp) o e,r⟩,⟨o2,k t (by simp) o2 e2,r2⟩⟩
 item:=fun i s Q E hi st d=>pb st.1 st.2 (x:=its[i]) (by simp [hi]) fun h' a b=>d _ h' s.toks (by simp [hi]) ⟨a,st.2.extBut b.extBut hne⟩ b
 done:=fun s Q E st d=>sP hh st.1 st.2 (by simp) d
theorem oW (l:Addr) (its:Array Value) (n:Nat) (dc:Option Addr) (sl:Array (Option Value)) :
  Meets (Builtin.«enumerate.__new__» ⟨[.type "enumerate",.ref l],[]⟩) (fun _ R s=>s.heap.get? l=some { cls:=.type "tuple",dict:=dc,data:=.seq its n,slots:=sl }∧
   R (.ok (.ret (.ref (s.heap.push { cls:=.type "tuple_iterator",data:=.fields #[.ref l,.int 0 0] }).objs.size)))
    { s with heap:=(s.heap.push { cls:=.type "tuple_iterator",data:=.fields #[.ref l,.int 0 0] }).push { cls:=.type "enumerate",data:=.fields #[.none,.bool false,.ref s.heap.objs.size,rawInt 0,.none,.none] } }) :=
 .of_wp fun prog w A R s h=>by
  obtain ⟨hp,g,d,tk,os⟩:=s; obtain ⟨a1,h⟩:=h
  have sb:=sub_enumerate
  have a2:Heap.IsTuple (Shared.heap ⟨hp,g,d,tk,os⟩) l its:=⟨_,a1,rfl,n,rfl⟩
  wp_walk using AutoSeq1.wpAny_loadPart' a1
  refine wpAny_stack_any fun st=>wpAny_pure ?_
  split
  ·rename_i c _ _ _ _ _
   cases (c == Value.type "enumerate") <;> (wp_walk using AutoSeq1.wpAny_loadPart' a1,wpAny_pyIter_tuple a2; exact ⟨_,rfl,h⟩)
  ·wp_walk using AutoSeq1.wpAny_loadPart' a1,wpAny_pyIter_tuple a2; exact ⟨_,rfl,h⟩
theorem rb {l:Addr} {its:Array Value} {Q:Value→Shared→Prop} (a:s.heap.IsTuple l its)
  (k:∀ h',IsEnum h' (s.heap.objs.size+1) s.heap.objs.size 0 .none→h'.IsTupleIter s.heap.objs.size l 0→h'.objs.size=s.heap.objs.size+2→(∀ b o,s.heap.get? b=some o→h'.get? b=some o)→Q (.ref (s.heap.objs.size+1)) { s with heap:=h' }) :
  wpAny (model prog w) A (call (.type "enumerate") [.ref l]) Q E s:=by
 obtain ⟨⟨c,dc,dt,sl⟩,a1,a2,n,a3⟩:=a
 replace a2:c=.type "tuple":=a2; replace a3:dt=.seq its n:=a3
 subst a2 a3
 refine callType_new F.called_enumerate (by decide) (F.typeCall_enumerate_1 _) (F.newCall_enumerate_1 _) (fun obj=>F.args_object_init_2 obj _) F.entry_enumerate_new (oW l its n dc sl) ⟨a1,?_⟩
 have z:(s.heap.push { cls:=.type "tuple_iterator",data:=.fields #[.ref l,.int 0 0] }).objs.size=s.heap.objs.size+1:=Heap.size_push ..
 show _∧_; rw [z]
 have e:=Heap.get?_push_size (s.heap.push { cls:=.type "tuple_iterator",data:=.fields #[.ref l,.int 0 0] }) (o:={ cls:=.type "enumerate",data:=.fields #[.none,.bool false,.ref s.heap.objs.size,rawInt 0,.none,.none] }) rfl
 rw [z] at e
 exact ⟨⟨_,e,rfl⟩,k _ e ⟨_,Heap.get?_push_of_some _ (Heap.get?_push_size _ rfl),rfl,rfl⟩ (by rw [Heap.size_push,z]) fun b o x=>Heap.get?_push_of_some _ (Heap.get?_push_of_some _ x)⟩
end
def yh (K:PySem.W.Frag) (a:Addr):It :=
 ⟨fun i H=>∃ xs x,SqT K H a xs∧xs[i]?=some x,fun i H v H'=>∃ T x,H T=none∧H'=upd H T (.tup [.int (i:Int),x])∧v=.ref T∧∀ xs,SqT K H a xs→xs[i]?=some x,fun i H=>∃ xs,SqT K H a xs∧xs.length=i⟩
theorem rX {P:Program} {w:World} {K:PySem.W.Frag} {elts:List Expr} {x1:Nat} {tp:Pos} (a e it:Addr) (hei:e≠it) (hea:e≠a) (hai:a≠it) :
  Turn P w K (.Tuple elts x1 tp) (yh K a) [e,it] e (fun i h=>(∃ old,IsEnum h e it i old)∧h.IsTupleIter it a i) where
 mem:=by simp
 obj:=fun i h st b hb=>by
  obtain ⟨⟨old,he⟩,⟨o,e1,c,d⟩⟩:=st
  rcases List.mem_cons.mp hb with z | z
  ·subst z
   exact ⟨_,he,fun v q=>nomatch q⟩
  ·have z':b=it:=by simpa using z
   subst z'
   exact ⟨o,e1,fun v q=>by rw [d] at q; cases q⟩
 keep:=fun i h h' st k=>⟨st.1.elim fun old he=>⟨old,k e (by simp) _ he⟩,st.2.elim fun o r=>⟨o,k it (by simp) o r.1,r.2⟩⟩
 item:=by
  intro X hP hw hK hc i pins s σ H E I hf st hg
  subst hP hw hK
  obtain ⟨xs,x,hq,hx⟩:=hg
  obtain ⟨its,rv,p,hz⟩:=I.tuple hq
  obtain ⟨u,hu,ru⟩:=rv.get hx
  obtain ⟨⟨old,he⟩,hit⟩:=st
  have hlen:=rv.length
  have hlt:i<its.toArray.size:=by rw [List.size_toArray,← hlen]; exact (List.getElem?_eq_some_iff.mp hx).1
  refine wpAny_pyNext_enum_itemD (xn (A:=X.A.in1) (show X.A.in1.handled=none from I.ok.hd hc) it a hai its.toArray) he ⟨hit,IsTup.tup p⟩ hlt hei (by simp [hei,hea]) fun v h' tk hv ho hst hT hsz hk=>?_
  obtain rfl:v=u:=by
   have:its[i]?=some v:=by simpa using hv
   rw [hu] at this
   exact (Option.some.inj this).symm
  have helt:e<s.heap.objs.size:=Heap.lt_size he
  have hilt:it<s.heap.objs.size:=by obtain ⟨_,q,_⟩:=hit; exact Heap.lt_size q
  refine ⟨_,rfl,?_⟩
  refine wpAny_letOwnedTupleGo_enum ho fun h2 he2 hs2=>?_
  have k2:∀ b o,b∉[e,it]→s.heap.get? b=some o→h2.get? b=some o:=fun b o hb q=>by
   have n1:b≠e:=fun z=>hb (by simp [z])
   have n2:b≠it:=fun z=>hb (by simp [z])
   exact (hs2.2 b n1).trans (hk b o n1 n2 q)
  have t2:h2.get? s.heap.objs.size=some { cls:=.type "tuple",data:=.seq #[.int i tk,v] }:=(hs2.2 _ (Nat.ne_of_gt helt)).trans hT
  have hn:H s.heap.objs.size=none:=I.hok.fresh (Nat.le_refl _)
  have new:ObjOk X.prog X.w (upd H s.heap.objs.size (.tup [.int (i:Int),x])) h2 s.heap.objs.size (.tup [.int (i:Int),x]) :=
   ⟨by simp only [List.length_cons,List.length_nil]; rw [sizeLine_eq]; decide,[.int i tk,v],.cons ⟨_,rfl⟩ (.cons ru .nil),⟨_,t2,rfl,_,rfl⟩⟩
  have I2:Inv X pins σ (upd H s.heap.objs.size (.tup [.int (i:Int),x])) { s with heap:=h2,toks:=tk+1 }:=I.turnedNew k2 hf (Nat.le_refl _) new
  refine ⟨.ref s.heap.objs.size,_,I2,rfl,⟨s.heap.objs.size,x,hn,rfl,rfl,fun ys hy=>by rw [I.tuple_inj hy hq]; exact hx⟩,⟨⟨v,?_⟩,hst.1.elim fun o r=>⟨o,(hs2.2 it hei.symm).trans r.1,r.2⟩⟩,fun b hb=>?_⟩
  ·simpa using he2
  ·have hb1:b≠s.heap.objs.size:=by
    rcases List.mem_cons.mp hb with z | z
    ·rw [z]; exact Nat.ne_of_lt helt
    ·have z':b=it:=by simpa using z
     rw [z']; exact Nat.ne_of_lt hilt
   rw [au hb1]
   exact (hf b hb).1
 done:=by
  intro X hP hw hK hc i pins s σ H E I hf st hg
  subst hP hw hK
  obtain ⟨xs,hq,hx⟩:=hg
  obtain ⟨its,rv,p,hz⟩:=I.tuple hq
  obtain ⟨⟨old,he⟩,hit⟩:=st
  have e:i=its.toArray.size:=by rw [List.size_toArray,← rv.length]; exact hx.symm
  subst e
  refine wpAny_pyNext_enum_endD (xn (A:=X.A.in1) (show X.A.in1.handled=none from I.ok.hd hc) it a hai its.toArray) he ⟨hit,IsTup.tup p⟩ fun h' eb=>⟨rfl,?_⟩
  exact I.turnedL (t':=s.toks) (fun b o hb q=>eb b o (fun z=>hb (by simp [z])) q) hf
 self:=fun _ _ _ _ _ st h=>by
  obtain ⟨⟨old,he⟩,_⟩:=st
  exact wpAny_pyIter_enum he h
section
variable {X:Cx}
def BD (K:PySem.W.Frag) (ta:TA):TI:=fun σ H R=>ta σ H fun vs H1=>∃ a,vs=[.ref a]∧(∃ xs,SqT K H1 a xs)∧R (yh K a) H1
theorem kT {a:Expr} {ta:TA} {p pos tp:Pos} {elts:List Expr} {x1:Nat} (hg:Gl X "enumerate") (hm:X.mg "enumerate"=none) (ha:PA X [a] ta) (hs:starEach [a] X.env=[(false,eval a X.env)]:=by rfl) :
  PI X (.Tuple elts x1 tp) (.Call (.Name "enumerate" p) [a] [] pos) (BD X.K ta):=by
 intro pins s σ H R I h
 refine Call_ (fL I hg hm boot_enumerate (PyProof.Rows.callWith_type1 (thn (ha pos pins s σ H _ I h) fun us s1 ⟨vs,H1,I1,r1,q1⟩=>?_) hs rfl))
 obtain ⟨l,e,⟨xs,hx⟩,q⟩:=q1
 subst e
 obtain ⟨u,rfl,ru⟩:=vals1 r1
 cases ru
 obtain ⟨its,rv,pl,hz⟩:=I1.tuple hx
 have hl:l<s1.heap.objs.size:=by obtain ⟨o,z,_⟩:=IsTup.tup pl; exact Heap.lt_size z
 refine rb (IsTup.tup pl) fun h' he hit hsz hk=>?_
 refine wpAny_pyIter_enum he ?_
 have hfp:∀ b∈[s1.heap.objs.size+1,s1.heap.objs.size],ij X pins H1 b:=fun b hb=>by
  have hge:s1.heap.objs.size≤b:=by
   rcases List.mem_cons.mp hb with z | z
   ·omega
   ·have z':b=s1.heap.objs.size:=by simpa using z
    omega
  exact I1.fpOk hge (I1.hok.fresh hge)
 exact ⟨s1.heap.objs.size+1,[s1.heap.objs.size+1,s1.heap.objs.size],_,_,H1,rfl,I1.kept (t':=s1.toks) hk,rX l _ _ (Nat.succ_ne_self _) (Nat.ne_of_gt (Nat.lt_succ_of_lt hl)) (Nat.ne_of_lt hl),⟨⟨_,he⟩,hit⟩,hfp,q⟩
end
theorem js {K:PySem.W.Frag} {a:Addr} {xs:List V} {g:TG} {tb:TS} {D:Ends} {σ:St} {H:Hp} (Pv:Nat→St→Hp→Prop) (h0:Pv 0 σ H) (hl:∀ i σ H,i≤xs.length→Pv i σ H→SqT K H a xs)
  (hs:∀ i x σ H T,xs[i]?=some x→Pv i σ H→H T=none→g (.ref T) σ (upd H T (.tup [.int (i:Int),x])) fun σ2 H2=>tb { D with nx:=Pv (i+1),ct:=Pv (i+1),bk:=D.nx } σ2 H2) (hd:∀ σ H,Pv xs.length σ H→D.nx σ H) :
  ∃ W:Nat→Nat→St→Hp→Prop,(∃ m,W 0 m σ H)∧∀ i m σ H,W i m σ H→
   ((yh K a).stop i H∧D.nx σ H)∨((yh K a).go i H∧∃ N:St→Hp→Prop,(∀ σ' H',N σ' H'→∃ m',m'<m∧W (i+1) m' σ' H')∧∀ x H',(yh K a).yld i H x H'→g x σ H' fun σ2 H2=>tb { D with nx:=N,ct:=N,bk:=D.nx } σ2 H2):=by
 refine ⟨fun i m σ H=>m=xs.length - i∧i≤xs.length∧Pv i σ H,⟨xs.length,by simp,Nat.zero_le _,h0⟩,?_⟩
 rintro i m σ H ⟨rfl,hi,p⟩
 have q:=hl i σ H hi p
 by_cases hlt:i<xs.length
 ·refine .inr ⟨⟨xs,xs[i],q,by simp [hlt]⟩,Pv (i+1),fun σ' H' p'=>⟨xs.length - (i+1),by omega,rfl,hlt,p'⟩,fun v H' y=>?_⟩
  obtain ⟨T,x,hT,e1,e2,y⟩:=y
  subst e1 e2
  exact hs i x σ H T (y xs q) p hT
 ·have e:i=xs.length:=by omega
  subst e
  exact .inl ⟨⟨xs,q,rfl⟩,hd σ H p⟩
end L2
namespace L2
open PySem PySem.Spec PyProof.Rows
def sgn (c:Nat):V:=.str ⟨#[c]⟩
def ItS (z:Str):It:=⟨fun i _=>i<z.cps.size,fun i H x H'=>H'=H∧∃ c,z.cps[i]?=some c∧x=sgn c,fun i _=>i=z.cps.size⟩
theorem yd {prog:Program} {w:World} {A:Around} {E:Value→Shared→Prop} {s:Shared} {it:Addr} {z:Str} {t:Tok} {i c:Nat} {Q:Option Value→Shared→Prop} (a:s.heap.IsStrIter it (strIterType z) z t i) (b:z.cps[i]?=some c)
  (k:∀ h',h'.IsStrIter it (strIterType z) z t (i+1)→Heap.SameBut it s.heap h'→Q (some (.str ⟨#[c]⟩ s.toks)) { s with heap:=h',toks:=s.toks+1 }):wpAny (model prog w) A (pyNext (.ref it)) Q E s:=by
 unfold strIterType at a k
 split at a
 ·rename_i e
  rw [if_pos e] at k
  exact wpAny_pyNext_ascii_item a b k
 ·rename_i e
  rw [if_neg e] at k
  exact wpAny_pyNext_wide_item a b k
theorem zZ {prog:Program} {w:World} {A:Around} {E:Value→Shared→Prop} {s:Shared} {it:Addr} {z:Str} {t:Tok} {i:Nat} {Q:Option Value→Shared→Prop} (hh:A.handled=none) (a:s.heap.IsStrIter it (strIterType z) z t i) (b:z.cps[i]?=none)
  (k:∀ h',Heap.ExtBut it s.heap h'→Q none { s with heap:=h' }):wpAny (model prog w) A (pyNext (.ref it)) Q E s:=by
 unfold strIterType at a
 split at a
 ·exact wpAny_pyNext_ascii_end hh a b k
 ·exact wpAny_pyNext_wide_end hh a b k
theorem CW (z:Str):["enumerate","zip","dict_itemiterator","dict_reverseitemiterator","odict_iterator","itertools.zip_longest","itertools.pairwise"].contains (strIterType z)=false:=by
 unfold strIterType
 split <;> decide
theorem vI {P:Program} {w:World} {K:PySem.W.Frag} {tg:Expr} (z:Str) (t:Tok) (it:Addr):Turn P w K tg (ItS z) [it] it (fun i h=>h.IsStrIter it (strIterType z) z t i) where
 mem:=by simp
 obj:=fun i h st b hb=>by
  have e:b=it:=by simpa using hb
  subst e
  obtain ⟨o,e,c,d⟩:=st
  exact ⟨o,e,fun v q=>by rw [d] at q; cases q⟩
 keep:=fun i h h' st k=>st.elim fun o r=>⟨o,k it (by simp) o r.1,r.2⟩
 item:=by
  intro X hP hw hK hc i pins s σ H E I hf st hg
  subst hP hw hK
  have hg':i<z.cps.size:=hg
  have hx:z.cps[i]?=some z.cps[i]:=Array.getElem?_eq_getElem hg'
  obtain ⟨f0,f1,f2,f3,f4,f5⟩:=hf it (by simp)
  refine yd st hx fun h' st' sb=>?_
  have I1:Inv X pins σ H { s with heap:=h',toks:=s.toks+1 }:=I.turned (t':=s.toks+1) (fun b o hb e=>(sb.2 b hb).trans e) f0 f1 f3 f4 f5
  obtain ⟨o,e,c,d⟩:=id st'
  exact ⟨_,rfl,pP (s:={ s with heap:=h',toks:=s.toks+1 }) e c d (CW z) ⟨sgn z.cps[i],H,I1,⟨_,rfl⟩,⟨rfl,_,hx,rfl⟩,st',fun b hb=>(hf b hb).1⟩⟩
 done:=by
  intro X hP hw hK hc i pins s σ H E I hf st hg
  subst hP hw hK
  obtain ⟨f0,f1,f2,f3,f4,f5⟩:=hf it (by simp)
  have hx:z.cps[i]?=none:=by simp [show i=z.cps.size from hg]
  exact zZ (I.ok.hd hc) st hx fun h' eb=>⟨rfl,I.turned (t':=s.toks) (fun b o hb e=>eb b o hb e) f0 f1 f3 f4 f5⟩
 self:=fun _ _ _ _ _ st h=>by
  unfold strIterType at st
  split at st
  ·exact wpAny_pyIter_striter_ascii st h
  ·exact wpAny_pyIter_striter_wide st h
section
variable {X:Cx} {tg:Expr}
def Dt (tl:TE):TI:=fun σ H R=>tl σ H fun x H1=>∃ z,x=.str z∧R (ItS z) H1
theorem xg {l:Expr} {tl:TE} (hl:PE X l tl):PI X tg l (Dt tl):=by
 intro pins s σ H R I h
 refine thn (hl pins s σ H _ I h) fun v s1 ⟨x,H1,I1,r1,q1⟩=>?_
 obtain ⟨z,rfl,q⟩:=q1
 obtain ⟨t,rfl⟩:=r1
 refine wpAny_pyIter_strU ?_
 refine ⟨s1.heap.objs.size,[s1.heap.objs.size],_,_,H1,rfl,I1.kept (t':=s1.toks) fun b o e=>Heap.get?_push_of_some _ e,vI z t _,⟨_,Heap.get?_push_size _ rfl,rfl,rfl⟩,fun b hb=>?_,q⟩
 have e:b=s1.heap.objs.size:=by simpa using hb
 subst e
 exact I1.fpOk (Nat.le_refl _) (I1.hok.fresh (Nat.le_refl _))
end
theorem pC {z:Str} {g:TG} {tt:TT} {te:TE} {nv:Nat} {ix:List Nat} {σ:St} {D:Addr} {H:Hp} {Q:VK} (Pv:Nat→List V→Hp→Prop) (h0:Pv 0 [] (upd H D (.lst [])))
  (hs:∀ i c ys H,z.cps[i]?=some c→Pv i ys H→H D=some (.lst ys)→g (sgn c) (capσ nv ix σ) H fun σ2 H3=>σ2.drop nv=(capσ nv ix σ).drop nv∧tt σ2 H3 fun b H4 =>
   if b=true then te σ2 H4 fun v H5=>∃ zs,H5 D=some (.lst zs)∧zs.length<sizeLine∧(∃ ys',Pv (i+1) ys' (upd H5 D (.lst (zs++[v])))∧(upd H5 D (.lst (zs++[v]))) D=some (.lst ys')) else ∃ ys',Pv (i+1) ys' H4∧H4 D=some (.lst ys'))
  (hd:∀ ys H,Pv z.cps.size ys H→H D=some (.lst ys)→Q (.ref D) H) :
  jL (ItS z) g tt te nv ix σ Q H D:=by
 refine ⟨fun i m H2=>m=z.cps.size - i∧i≤z.cps.size∧∃ ys,Pv i ys H2∧H2 D=some (.lst ys),⟨z.cps.size,by simp,Nat.zero_le _,[],h0,ah⟩,?_⟩
 rintro i m H2 ⟨rfl,hi,ys,p,hD⟩
 by_cases hlt:i<z.cps.size
 ·refine .inr ⟨hlt,fun H'=>∃ ys,Pv (i+1) ys H'∧H' D=some (.lst ys),fun H' p'=>⟨z.cps.size - (i+1),by omega,rfl,hlt,p'⟩,fun x H' y=>?_⟩
  obtain ⟨e,c,hc,e2⟩:=y
  subst e e2
  exact hs i c ys _ hc p hD
 ·have e:i=z.cps.size:=by omega
  subst e
  exact .inl ⟨rfl,hd ys H2 p hD⟩
theorem dX {K:PySem.W.Frag} {a:Addr} {xs:List V} {g:TG} {tt:TT} {te:TE} {nv:Nat} {ix:List Nat} {σ:St} {D:Addr} {H:Hp} {Q:VK} (Pv:Nat→List V→Hp→Prop) (h0:Pv 0 [] (upd H D (.lst []))) (hl:∀ i ys H,i≤xs.length→Pv i ys H→SqT K H a xs)
  (hs:∀ i x ys H,xs[i]?=some x→Pv i ys H→H D=some (.lst ys)→g x (capσ nv ix σ) H fun σ2 H3=>σ2.drop nv=(capσ nv ix σ).drop nv∧tt σ2 H3 fun b H4 =>
   if b=true then te σ2 H4 fun v H5=>∃ zs,H5 D=some (.lst zs)∧zs.length<sizeLine∧(∃ ys',Pv (i+1) ys' (upd H5 D (.lst (zs++[v])))∧(upd H5 D (.lst (zs++[v]))) D=some (.lst ys')) else ∃ ys',Pv (i+1) ys' H4∧H4 D=some (.lst ys'))
  (hd:∀ ys H,Pv xs.length ys H→H D=some (.lst ys)→Q (.ref D) H) :
  jL (Itt K a) g tt te nv ix σ Q H D:=by
 refine ⟨fun i m H2=>m=xs.length - i∧i≤xs.length∧∃ ys,Pv i ys H2∧H2 D=some (.lst ys),⟨xs.length,by simp,Nat.zero_le _,[],h0,ah⟩,?_⟩
 rintro i m H2 ⟨rfl,hi,ys,p,hD⟩
 have q:=hl i ys H2 hi p
 by_cases hlt:i<xs.length
 ·refine .inr ⟨⟨xs,xs[i],q,by simp [hlt]⟩,fun H'=>∃ ys,Pv (i+1) ys H'∧H' D=some (.lst ys),fun H' p'=>⟨xs.length - (i+1),by omega,rfl,hlt,p'⟩,fun x H' y=>?_⟩
  obtain ⟨e,y⟩:=y
  subst e
  exact hs i x ys _ (y xs q) p hD
 ·have e:i=xs.length:=by omega
  subst e
  exact .inl ⟨⟨xs,q,Nat.le_refl _⟩,hd ys H2 p hD⟩
theorem aT (a b:Str):(a++b).length=a.length+b.length:=by
 show (a.cps++b.cps).size=a.cps.size+b.cps.size
 simp
theorem jh (z:Str) (l:List Str):inV (.str z) (l.map V.str)=decide (z∈l):=by
 unfold inV
 induction l with
 | nil=>rfl
 | cons x r ih =>
  rw [List.map_cons,List.any_cons,ih]
  show ((x == z) || _)=_
  by_cases h:x=z
  ·subst h
   simp
  ·have h':¬ z=x:=fun e=>h e.symm
   simp [h,h']
theorem fG (l:List Str):(l.map V.str).all fe=true:=by
 rw [List.all_eq_true]
 intro x hx
 obtain ⟨o,_,rfl⟩:=List.mem_map.mp hx
 rfl
end L2
namespace L2
open PySem PySem.Spec PyProof.Rows
section
variable {X:Cx} {CX:CXT} {k:Nat} {f:Addr} {fd:FuncData} {ps:List Str} {sp:Sp} {dvs:List V} {ds:List Value} {E:XK} {m:Str} {pos apos:Pos} {e o:Expr} {es:List Expr} {ta:TE} {t:TA}
def xt (K:PySem.W.Frag) (f:Addr) (m:Str) (sp:Sp) (dvs:List V) (E:XK) (ta:TE) (t:TA):TE:=fun σ H Q=>ta σ H fun x H1=>∃ C a dx fs,x=.ref a∧H1 a=some (.ins C dx fs)∧Cls K C∧Meth K C m f∧fs.lookup m=none∧t σ H1 fun vs H2=>sp (x::(vs++dvs)) H2 Q E
theorem bM {pl:Sem Bool} (he:PE X o ta) (F:FnOk X.prog X.w X.K X.mg X.base CX k f fd ps sp) (hr:Room k X.A) (hb:Binds X.K fd ps ds) (hd:Vals dvs ds) (hx:Passes CX X E) (ha:PA X (e::es) t)
  (hst:starEach (e::es) X.env=(false,eval e X.env)::starEach es X.env:=by rfl) (hpl:(backTo pos (starEach es X.env)).any (·.1)=false:=by rfl)
  (ht:eval (.Call (.Attribute o m apos) (e::es) [] pos) X.env=(do let ov ← eval o X.env; standAt apos.atName; let (f,first) ← holding [ov] (getMethod ov m pl); callWith pos f first (backTo pos (starEach (e::es) X.env)) (backToKw pos (keywordEach [] X.env))):=by rfl) :
  PE X (.Call (.Attribute o m apos) (e::es) [] pos) (xt X.K f m sp dvs E ta t):=by
 intro pins s σ H Q I h
 refine PySem.W.methodCall_KW (pl:=pl) (thn (he pins s σ H _ I h) fun u s1 ⟨x,H1,I1,rx,C,a,dx,fs,ex,ea,c,hm,l,q⟩=>?_) ht
 subst ex; obtain rfl:u=Value.ref a:=rx
 refine qI I1 ea c hm l ?_
 refine PySem.W.callWith_K (first:=[.ref a]) (h₀:=X.base) I.ok.mod.kin hm.kp (thn (ha pos pins s1 σ H1 _ I1 q) fun us s2 ⟨vs,H2,I2,r,q2⟩=>⟨I2.kIn,?_⟩) hst hpl
 exact qJ (us:=.ref a::us) (vs:=.ref a::vs) F hr hb hd hx I2 (.cons rfl r) q2
end
end L2
namespace L2
open PySem PySem.Spec PyProof.Rows
def ItAt (tp:Bool) (h:Heap) (i l:Addr) (k:Nat) (xs:Array Value):Prop:=match tp with
 | false=>h.IsListIter i l k∧h.IsList l xs
 | true=>h.IsTupleIter i l k∧h.IsTuple l xs
theorem ItAt.at {tp:Bool} {h h':Heap} {i l:Addr} {k:Nat} {xs:Array Value} (a:ItAt tp h i l k xs) (k1:∀ o,h.get? i=some o→h'.get? i=some o) (k2:∀ o,h.get? l=some o→h'.get? l=some o):ItAt tp h' i l k xs:=by
 cases tp with
 | false=>exact ⟨a.1.at k1,a.2.at k2⟩
 | true=>obtain ⟨⟨o,e,r⟩,⟨o2,e2,r2⟩⟩:=a; exact ⟨⟨o,k1 o e,r⟩,⟨o2,k2 o2 e2,r2⟩⟩
theorem ItAt.ext {tp:Bool} {h h':Heap} {i l b:Addr} {k:Nat} {xs:Array Value} (a:ItAt tp h i l k xs) (x:Heap.ExtBut b h h') (n1:i≠b) (n2:l≠b):ItAt tp h' i l k xs:=a.at (fun o e=>x i o n1 e) (fun o e=>x l o n2 e)
section
variable {prog:Program} {w:World} {A:Around} {E:Value→Shared→Prop} {s:Shared}
theorem ItAt.nx {tp:Bool} {i l:Addr} {k:Nat} {xs:Array Value} {x:Value} {Q:Value→Shared→Prop} (a:ItAt tp s.heap i l k xs) (hne:l≠i) (c:xs[k]?=some x) (d:∀ h',ItAt tp h' i l (k+1) xs→Heap.SameBut i s.heap h'→Q x { s with heap:=h' }):wpAny (model prog w) A (Builtin.SmallTypes.nextOf (.ref i)) Q E s:=by
 cases tp with
 | false=>exact wpAny_nextOf_list_item a.1 a.2 c fun h' b sb=>d h' ⟨b,a.2.extBut sb.extBut hne⟩ sb
 | true=>exact pb a.1 a.2 c fun h' b sb=>d h' ⟨b,a.2.extBut sb.extBut hne⟩ sb
theorem ItAt.nxE {tp:Bool} {i l:Addr} {k:Nat} {xs:Array Value} {Q:Value→Shared→Prop} (hh:A.handled=none) (a:ItAt tp s.heap i l k xs) (c:xs[k]?=none) (d:∀ h' e,Heap.ExtBut i s.heap h'→(∃ o,h'.get? e=some o∧o.cls=.type "StopIteration")→E (.ref e) { s with heap:=h' }):wpAny (model prog w) A (Builtin.SmallTypes.nextOf (.ref i)) Q E s:=by
 cases tp with
 | false=>exact wpAny_nextOf_list_end hh a.1 a.2 c d
 | true=>exact sP hh a.1 a.2 c d
theorem uO {t1 t2:Bool} {z TI TO i1 i2 l1 l2:Addr} {k1 k2:Nat} {xs ys:Array Value} {x y a b:Value} {Q:Value→Shared→Prop} (D:ZipApart z TI TO i1 i2 l1 l2) (gz:IsZip s.heap z TI TO .none) (gI:IsPair s.heap TI (.ref i1) (.ref i2)) (gO:IsPair s.heap TO a b)
  (g1:ItAt t1 s.heap i1 l1 k1 xs) (g2:ItAt t2 s.heap i2 l2 k2 ys) (hx:xs[k1]?=some x) (hy:ys[k2]?=some y) (d:∀ h',IsZip h' z TI TO (rawInt s.heap.objs.size)→IsPair h' TO x y→ItAt t1 h' i1 l1 (k1+1) xs→ItAt t2 h' i2 l2 (k2+1) ys→IsPair h' s.heap.objs.size x y→h'.objs.size=s.heap.objs.size+1→
   (∀ c o,c≠z→c≠TO→c≠i1→c≠i2→s.heap.get? c=some o→h'.get? c=some o)→Q (.ref s.heap.objs.size) { s with heap:=h' }):wpAny (model prog w) A (Builtin.«zip.__next__» ⟨[.ref z],[]⟩) (fun fin s'=>∃ v,fin=.done (.ret v)∧Q v s') E s:=by
 show wpAny _ _ (field (.ref z) 2 >>= _) _ _ _; refine wpAny_bind (wpAny_field gz rfl (x:=.bool false) rfl ?_)
 show wpAny _ _ (field (.ref z) 3 >>= _) _ _ _; refine wpAny_bind (wpAny_field gz rfl (x:=.ref TI) rfl ?_)
 refine wpAny_bind (wpAny_seqItems gI rfl ?_)
 show wpAny _ _ (Builtin.SmallTypes.ownedTupleIsFree (.ref z) >>= _) _ _ _; refine wpAny_bind ?_; unfold Builtin.SmallTypes.ownedTupleIsFree
 refine wpAny_bind (wpAny_field gz rfl (x:=.none) rfl (wpAny_pure ?_)); simp only [if_true]
 refine wpAny_bind (wpAny_rule ?_); refine wpAny_bind (wpAny_field gz rfl (x:=.ref TO) rfl ?_)
 refine wpAny_bind (wpAny_setField_rec gz (by simp) fun u1 gz1 s1=>?_); replace gz1:IsZip u1 z TI TO .ellipsis:=gz1
 refine wpAny_bind ?_; simp only [List.zipIdx_cons,List.zipIdx_nil,List.forIn_cons,List.forIn_nil]
 refine wpAny_bind (wpAny_bind (wpAny_onRaise ?_)); show wpAny _ _ (Builtin.SmallTypes.nextOf (.ref i1) >>= _) _ _ _
 refine wpAny_bind ((g1.ext s1.extBut D.i1z D.l1z).nx D.l1i1 hx fun u2 g12 s2=>wpAny_pure ?_)
 have gO2:IsPair u2 TO a b:=s2.extBut _ _ D.TOi1 (s1.extBut _ _ D.TOz gO)
 refine wpAny_bind (wpAny_seqItems gO2 rfl ?_); refine wpAny_bind (wpAny_updateSeq_pair gO2 fun u3 gO3 s3=>?_); replace gO3:IsPair u3 TO x b:=gO3
 refine wpAny_bind (wpAny_letGo (wpAny_pure ?_))
 refine wpAny_bind (wpAny_bind (wpAny_onRaise ?_)); show wpAny _ _ (Builtin.SmallTypes.nextOf (.ref i2) >>= _) _ _ _
 refine wpAny_bind ((((g2.ext s1.extBut D.i2z D.l2z).ext s2.extBut D.i12.symm D.l2i1).ext s3.extBut D.TOi2.symm D.l2TO).nx D.l2i2 hy fun u4 g24 s4=>wpAny_pure ?_)
 have gO4:IsPair u4 TO x b:=s4.extBut _ _ D.TOi2 gO3
 refine wpAny_bind (wpAny_seqItems gO4 rfl ?_); refine wpAny_bind (wpAny_updateSeq_pair gO4 fun u5 gO5 s5=>?_); replace gO5:IsPair u5 TO x y:=gO5
 refine wpAny_bind (wpAny_letGo (wpAny_pure (wpAny_pure ?_))); refine wpAny_bind (wpAny_seqItems gO5 rfl ?_); refine wpAny_bind (wpAny_newTuple ?_)
 have hsz:u5.objs.size=s.heap.objs.size:=by rw [s5.1,s4.1,s3.1,s2.1,s1.1]
 have gz5:IsZip u5 z TI TO .ellipsis:=s5.extBut _ _ D.TOz.symm (s4.extBut _ _ D.i2z.symm (s3.extBut _ _ D.TOz.symm (s2.extBut _ _ D.i1z.symm gz1)))
 have k5:∀ c o,c≠z→c≠TO→c≠i1→c≠i2→s.heap.get? c=some o→u5.get? c=some o:=fun c o c1 c2 c3 c4 e=>s5.extBut _ _ c2 (s4.extBut _ _ c4 (s3.extBut _ _ c2 (s2.extBut _ _ c3 (s1.extBut _ _ c1 e))))
 have g15:ItAt t1 u5 i1 l1 (k1+1) xs:=((g12.ext s3.extBut D.TOi1.symm D.l1TO).ext s4.extBut D.i12 D.l1i2).ext s5.extBut D.TOi1.symm D.l1TO
 have g25:ItAt t2 u5 i2 l2 (k2+1) ys:=g24.ext s5.extBut D.TOi2.symm D.l2TO
 have zlt:z<u5.objs.size:=Heap.lt_size gz5
 show wpAny _ _ (Builtin.SmallTypes.ownedTupleHandOut (.ref z) (.ref u5.objs.size) >>= _) _ _ _; refine wpAny_bind ?_; unfold Builtin.SmallTypes.ownedTupleHandOut
 have gz6:IsZip (u5.push { cls:=.type "tuple",data:=.seq #[x,y] }) z TI TO .ellipsis:=Heap.get?_push_of_some _ gz5
 refine wpAny_bind (wpAny_setField_rec gz6 (by simp) fun u7 gz7 s7=>?_); replace gz7:IsZip u7 z TI TO (rawInt u5.objs.size):=gz7
 refine wpAny_setField_rec gz7 (by simp) fun u8 gz8 s8=>?_; replace gz8:IsZip u8 z TI TO (rawInt u5.objs.size):=gz8
 have up:∀ c o,c≠z→u5.get? c=some o→u8.get? c=some o:=fun c o c1 e=>s8.extBut _ _ c1 (s7.extBut _ _ c1 (Heap.get?_push_of_some _ e))
 have gT:IsPair u8 u5.objs.size x y:=s8.extBut _ _ (Nat.ne_of_gt zlt) (s7.extBut _ _ (Nat.ne_of_gt zlt) (Heap.get?_push_size _ rfl))
 have z8:u8.objs.size=u5.objs.size+1:=by rw [s8.1,s7.1,Heap.size_push]
 rw [hsz] at gz8 gT z8
 refine wpAny_pure ⟨_,rfl,?_⟩; show Q (.ref u5.objs.size) _; rw [hsz]
 exact d u8 gz8 (up _ _ D.TOz gO5) (g15.at (fun o e=>up _ o D.i1z e) fun o e=>up _ o D.l1z e) (g25.at (fun o e=>up _ o D.i2z e) fun o e=>up _ o D.l2z e) gT z8 fun c o c1 c2 c3 c4 e=>up c o c1 (k5 c o c1 c2 c3 c4 e)
theorem wF {t1 t2:Bool} {z TI TO i1 i2 l1 l2:Addr} {k1 k2:Nat} {xs ys:Array Value} {a b:Value} {Q:Fin→Shared→Prop} (hh:A.handled=none) (D:ZipApart z TI TO i1 i2 l1 l2) (gz:IsZip s.heap z TI TO .none) (gI:IsPair s.heap TI (.ref i1) (.ref i2)) (gO:IsPair s.heap TO a b)
  (g1:ItAt t1 s.heap i1 l1 k1 xs) (g2:ItAt t2 s.heap i2 l2 k2 ys) (hend:xs[k1]?=none∨ys[k2]?=none)
  (d:∀ h' e,(∀ c o,c≠z→c≠TO→c≠i1→c≠i2→s.heap.get? c=some o→h'.get? c=some o)→(∃ o,h'.get? e=some o∧o.cls=.type "StopIteration")→E (.ref e) { s with heap:=h' }):wpAny (model prog w) A (Builtin.«zip.__next__» ⟨[.ref z],[]⟩) Q E s:=by
 show wpAny _ _ (field (.ref z) 2 >>= _) _ _ _; refine wpAny_bind (wpAny_field gz rfl (x:=.bool false) rfl ?_)
 show wpAny _ _ (field (.ref z) 3 >>= _) _ _ _; refine wpAny_bind (wpAny_field gz rfl (x:=.ref TI) rfl ?_)
 refine wpAny_bind (wpAny_seqItems gI rfl ?_)
 show wpAny _ _ (Builtin.SmallTypes.ownedTupleIsFree (.ref z) >>= _) _ _ _; refine wpAny_bind ?_; unfold Builtin.SmallTypes.ownedTupleIsFree
 refine wpAny_bind (wpAny_field gz rfl (x:=.none) rfl (wpAny_pure ?_)); simp only [if_true]
 refine wpAny_bind (wpAny_rule ?_); refine wpAny_bind (wpAny_field gz rfl (x:=.ref TO) rfl ?_)
 refine wpAny_bind (wpAny_setField_rec gz (by simp) fun u1 gz1 s1=>?_); replace gz1:IsZip u1 z TI TO .ellipsis:=gz1
 refine wpAny_bind ?_; simp only [List.zipIdx_cons,List.zipIdx_nil,List.forIn_cons,List.forIn_nil]
 refine wpAny_bind (wpAny_bind (wpAny_onRaise ?_)); show wpAny _ _ (Builtin.SmallTypes.nextOf (.ref i1) >>= _) _ _ _
 cases hx:xs[k1]? with
 | none =>
  refine wpAny_bind ((g1.ext s1.extBut D.i1z D.l1z).nxE hh hx fun u2 e s2 he=>?_)
  obtain ⟨oe,hoe,hce⟩:=he
  have gz2:IsZip u2 z TI TO .ellipsis:=s2 _ _ D.i1z.symm gz1
  have hez:e≠z:=fun x=>by subst x; rw [gz2] at hoe; cases hoe; simp at hce
  refine wpAny_setField_rec gz2 (by simp) fun u3 _ s3=>d u3 e (fun c o c1 _ c3 _ x=>s3.extBut _ _ c1 (s2 _ _ c3 (s1.extBut _ _ c1 x))) ⟨oe,s3.extBut _ _ hez hoe,hce⟩
 | some x =>
  have hy:ys[k2]?=none:=by rcases hend with h | h; rw [hx] at h; cases h; exact h
  refine wpAny_bind ((g1.ext s1.extBut D.i1z D.l1z).nx D.l1i1 hx fun u2 g12 s2=>wpAny_pure ?_)
  have gO2:IsPair u2 TO a b:=s2.extBut _ _ D.TOi1 (s1.extBut _ _ D.TOz gO)
  refine wpAny_bind (wpAny_seqItems gO2 rfl ?_); refine wpAny_bind (wpAny_updateSeq_pair gO2 fun u3 gO3 s3=>?_)
  refine wpAny_bind (wpAny_letGo (wpAny_pure ?_)); refine wpAny_bind (wpAny_bind (wpAny_onRaise ?_)); show wpAny _ _ (Builtin.SmallTypes.nextOf (.ref i2) >>= _) _ _ _
  refine wpAny_bind ((((g2.ext s1.extBut D.i2z D.l2z).ext s2.extBut D.i12.symm D.l2i1).ext s3.extBut D.TOi2.symm D.l2TO).nxE hh hy fun u4 e s4 he=>?_)
  obtain ⟨oe,hoe,hce⟩:=he
  have gz4:IsZip u4 z TI TO .ellipsis:=s4 _ _ D.i2z.symm (s3.extBut _ _ D.TOz.symm (s2.extBut _ _ D.i1z.symm gz1))
  have hez:e≠z:=fun x=>by subst x; rw [gz4] at hoe; cases hoe; simp at hce
  refine wpAny_setField_rec gz4 (by simp) fun u5 _ s5=>d u5 e (fun c o c1 c2 c3 c4 x=>s5.extBut _ _ c1 (s4 _ _ c4 (s3.extBut _ _ c2 (s2.extBut _ _ c3 (s1.extBut _ _ c1 x))))) ⟨oe,s5.extBut _ _ hez hoe,hce⟩
theorem qx {t1 t2:Bool} {z TI TO i1 i2 l1 l2:Addr} {k1 k2:Nat} {xs ys:Array Value} {x y a b:Value} {Q:Option Value→Shared→Prop} (D:ZipApart z TI TO i1 i2 l1 l2) (gz:IsZip s.heap z TI TO .none) (gI:IsPair s.heap TI (.ref i1) (.ref i2)) (gO:IsPair s.heap TO a b)
  (g1:ItAt t1 s.heap i1 l1 k1 xs) (g2:ItAt t2 s.heap i2 l2 k2 ys) (hx:xs[k1]?=some x) (hy:ys[k2]?=some y) (d:∀ h',IsZip h' z TI TO (rawInt s.heap.objs.size)→IsPair h' TO x y→ItAt t1 h' i1 l1 (k1+1) xs→ItAt t2 h' i2 l2 (k2+1) ys→IsPair h' s.heap.objs.size x y→h'.objs.size=s.heap.objs.size+1→
   (∀ c o,c≠z→c≠TO→c≠i1→c≠i2→s.heap.get? c=some o→h'.get? c=some o)→Q (some (.ref s.heap.objs.size)) { s with heap:=h' }):wpAny (model prog w) A (pyNext (.ref z)) Q E s:=by
 have hT:s.TypeIs (.ref z) "zip":=⟨_,gz,rfl⟩; unfold pyNext
 exact wpAny_bind (wpAny_attempt (wpAny_callSpecial?_slot (name:=Str.ofString "__next__") hT F.slot_zip_next (wpAny_call_entry F.slot_zip_next hT F.entry_zip_next (uO D gz gI gO g1 g2 hx hy fun h' a1 a2 a3 a4 a5 a6 a7=>wpAny_pure (d h' a1 a2 a3 a4 a5 a6 a7)) (F.args_zip_next_1 _))))
theorem uA {t1 t2:Bool} {z TI TO i1 i2 l1 l2:Addr} {k1 k2:Nat} {xs ys:Array Value} {a b:Value} {Q:Option Value→Shared→Prop} (hh:A.handled=none) (D:ZipApart z TI TO i1 i2 l1 l2) (gz:IsZip s.heap z TI TO .none) (gI:IsPair s.heap TI (.ref i1) (.ref i2)) (gO:IsPair s.heap TO a b)
  (g1:ItAt t1 s.heap i1 l1 k1 xs) (g2:ItAt t2 s.heap i2 l2 k2 ys) (hend:xs[k1]?=none∨ys[k2]?=none) (d:∀ h',(∀ c o,c≠z→c≠TO→c≠i1→c≠i2→s.heap.get? c=some o→h'.get? c=some o)→Q none { s with heap:=h' }):wpAny (model prog w) A (pyNext (.ref z)) Q E s:=by
 have hT:s.TypeIs (.ref z) "zip":=⟨_,gz,rfl⟩; unfold pyNext
 refine wpAny_bind (wpAny_attempt (wpAny_callSpecial?_slot (name:=Str.ofString "__next__") hT F.slot_zip_next (wpAny_call_entry F.slot_zip_next hT F.entry_zip_next (wF hh D gz gI gO g1 g2 hend fun h' e hk he=>?_) (F.args_zip_next_1 _))))
 obtain ⟨o,ho,hc⟩:=he; refine wpAny_bind (wpAny_isInstance (T:="StopIteration") (b:=true) ⟨o,ho,hc⟩ isSubtype_stop ?_); exact wpAny_pure (d _ hk)
abbrev Al (tp:Bool):String:=if tp then "tuple_iterator" else "list_iterator"
def j0 (tp:Bool) (h:Heap) (l:Addr) (xs:Array Value):Prop:=match tp with
 | false=>h.IsList l xs
 | true=>h.IsTuple l xs
abbrev zP (h:Heap) (tp:Bool) (l:Addr):Heap:=h.push { cls:=.type (Al tp),data:=.fields #[.ref l,.int 0 0] }
abbrev zQ (h:Heap) (t1 t2:Bool) (l1 l2:Addr):Heap:=(zP (zP h t1 l1) t2 l2).push { cls:=.type "tuple",data:=.seq #[.ref h.objs.size,.ref (zP h t1 l1).objs.size] }
abbrev zR (h:Heap) (t1 t2:Bool) (l1 l2:Addr):Heap:=(zQ h t1 t2 l1 l2).push { cls:=.type "tuple",data:=.seq #[.none,.none] }
abbrev zS (h:Heap) (t1 t2:Bool) (l1 l2:Addr):Heap:=(zR h t1 t2 l1 l2).push { cls:=.type "zip",data:=.fields #[.none,.bool false,.bool false,.ref (zP (zP h t1 l1) t2 l2).objs.size,.ref (zQ h t1 t2 l1 l2).objs.size] }
theorem rg (t1 t2:Bool) (l1 l2:Addr) (xs ys:Array Value):Meets (Builtin.«zip.__new__» ⟨[.type "zip",.ref l1,.ref l2],[]⟩) (fun _ R s=>j0 t1 s.heap l1 xs∧j0 t2 s.heap l2 ys∧R (.ok (.ret (.ref (zR s.heap t1 t2 l1 l2).objs.size))) { s with heap:=zS s.heap t1 t2 l1 l2 }) :=
 .of_wp fun prog w A R s h=>by
  obtain ⟨hp,g,d,tk,os⟩:=s; obtain ⟨g1,g2,h⟩:=h
  have sb:=sub_zip
  cases t1 <;> cases t2
  ·have a1:Heap.IsList (Shared.heap ⟨hp,g,d,tk,os⟩) l1 xs:=g1
   have a2:Heap.IsList (Shared.heap ⟨hp.push { cls:=.type "list_iterator",data:=.fields #[.ref l1,.int 0 0] },g,d,tk,os⟩) l2 ys:=Heap.IsList.push g2 _
   wp_walk using wpAny_pyIter_list a1,wpAny_pyIter_list a2; exact ⟨_,rfl,h⟩
  ·have a1:Heap.IsList (Shared.heap ⟨hp,g,d,tk,os⟩) l1 xs:=g1
   have a2:Heap.IsTuple (Shared.heap ⟨hp.push { cls:=.type "list_iterator",data:=.fields #[.ref l1,.int 0 0] },g,d,tk,os⟩) l2 ys:=by obtain ⟨o,e,r⟩:=g2; exact ⟨o,Heap.get?_push_of_some _ e,r⟩
   wp_walk using wpAny_pyIter_list a1,wpAny_pyIter_tuple a2; exact ⟨_,rfl,h⟩
  ·have a1:Heap.IsTuple (Shared.heap ⟨hp,g,d,tk,os⟩) l1 xs:=g1
   have a2:Heap.IsList (Shared.heap ⟨hp.push { cls:=.type "tuple_iterator",data:=.fields #[.ref l1,.int 0 0] },g,d,tk,os⟩) l2 ys:=Heap.IsList.push g2 _
   wp_walk using wpAny_pyIter_tuple a1,wpAny_pyIter_list a2; exact ⟨_,rfl,h⟩
  ·have a1:Heap.IsTuple (Shared.heap ⟨hp,g,d,tk,os⟩) l1 xs:=g1
   have a2:Heap.IsTuple (Shared.heap ⟨hp.push { cls:=.type "tuple_iterator",data:=.fields #[.ref l1,.int 0 0] },g,d,tk,os⟩) l2 ys:=by obtain ⟨o,e,r⟩:=g2; exact ⟨o,Heap.get?_push_of_some _ e,r⟩
   wp_walk using wpAny_pyIter_tuple a1,wpAny_pyIter_tuple a2; exact ⟨_,rfl,h⟩
theorem kP {tp:Bool} {h h':Heap} {i l:Addr} {xs:Array Value} (g:j0 tp h l xs) (e:h'.get? i=some { cls:=.type (Al tp),data:=.fields #[.ref l,.int 0 0] }) (k:∀ c o,h.get? c=some o→h'.get? c=some o):ItAt tp h' i l 0 xs:=by
 cases tp with
 | false=>exact ⟨⟨_,e,rfl,rfl⟩,g.at fun o x=>k _ o x⟩
 | true=>obtain ⟨o,x,r⟩:=g; exact ⟨⟨_,e,rfl,rfl⟩,⟨o,k _ o x,r⟩⟩
theorem uH {t1 t2:Bool} {l1 l2:Addr} {xs ys:Array Value} {Q:Value→Shared→Prop} (g1:j0 t1 s.heap l1 xs) (g2:j0 t2 s.heap l2 ys)
  (k:∀ h',IsZip h' (s.heap.objs.size+4) (s.heap.objs.size+2) (s.heap.objs.size+3) .none→IsPair h' (s.heap.objs.size+2) (.ref s.heap.objs.size) (.ref (s.heap.objs.size+1))→IsPair h' (s.heap.objs.size+3) .none .none→ItAt t1 h' s.heap.objs.size l1 0 xs→ItAt t2 h' (s.heap.objs.size+1) l2 0 ys→
   (∀ c o,s.heap.get? c=some o→h'.get? c=some o)→Q (.ref (s.heap.objs.size+4)) { s with heap:=h' }):wpAny (model prog w) A (call (.type "zip") [.ref l1,.ref l2]) Q E s:=by
 refine callType_new F.called_zip (by decide) (F.typeCall_zip_2 _ _) (F.newCall_zip_2 _ _) (fun obj=>F.args_object_init_3 obj _ _) F.entry_zip_new (rg t1 t2 l1 l2 xs ys) ⟨g1,g2,?_⟩
 have z1:(zP s.heap t1 l1).objs.size=s.heap.objs.size+1:=Heap.size_push ..
 have z2:(zP (zP s.heap t1 l1) t2 l2).objs.size=s.heap.objs.size+2:=by rw [Heap.size_push,z1]
 have z3:(zQ s.heap t1 t2 l1 l2).objs.size=s.heap.objs.size+3:=by rw [Heap.size_push,z2]
 have z4:(zR s.heap t1 t2 l1 l2).objs.size=s.heap.objs.size+4:=by rw [Heap.size_push,z3]
 have e5:(zS s.heap t1 t2 l1 l2).get? (zR s.heap t1 t2 l1 l2).objs.size=some _:=Heap.get?_push_size _ rfl
 have e4:(zS s.heap t1 t2 l1 l2).get? (zQ s.heap t1 t2 l1 l2).objs.size=some _:=Heap.get?_push_of_some _ (Heap.get?_push_size _ rfl)
 have e3:(zS s.heap t1 t2 l1 l2).get? (zP (zP s.heap t1 l1) t2 l2).objs.size=some _:=Heap.get?_push_of_some _ (Heap.get?_push_of_some _ (Heap.get?_push_size _ rfl))
 have e2:(zS s.heap t1 t2 l1 l2).get? (zP s.heap t1 l1).objs.size=some _:=Heap.get?_push_of_some _ (Heap.get?_push_of_some _ (Heap.get?_push_of_some _ (Heap.get?_push_size _ rfl)))
 have e1:(zS s.heap t1 t2 l1 l2).get? s.heap.objs.size=some _:=Heap.get?_push_of_some _ (Heap.get?_push_of_some _ (Heap.get?_push_of_some _ (Heap.get?_push_of_some _ (Heap.get?_push_size _ rfl))))
 show _∧_
 rw [z2,z3,z4] at e5; rw [z1,z2] at e3; rw [z3] at e4; rw [z1] at e2; rw [z4]
 have up:∀ c o,s.heap.get? c=some o→(zS s.heap t1 t2 l1 l2).get? c=some o:=fun c o x=>Heap.get?_push_of_some _ (Heap.get?_push_of_some _ (Heap.get?_push_of_some _ (Heap.get?_push_of_some _ (Heap.get?_push_of_some _ x))))
 exact ⟨⟨_,e5,rfl⟩,k _ e5 e3 e4 (kP g1 e1 up) (kP g2 e2 up) up⟩
end
end L2
namespace L2
open PySem PySem.Spec PyProof.Rows
def SqX (tp:Bool) (K:PySem.W.Frag) (H:Hp) (a:Addr) (xs:List V):Prop:=match tp with
 | false=>SqL K H a xs
 | true=>SqT K H a xs
theorem Inv.seqX {X:Cx} {pins:List (Addr×Obj)} {σ:St} {H:Hp} {s:Shared} {tp:Bool} {a:Addr} {xs:List V} (I:Inv X pins σ H s) (h:SqX tp X.K H a xs):∃ its:List Value,Vals xs its∧j0 tp s.heap a its.toArray:=by
 cases tp with
 | false=>obtain ⟨its,r,p,_⟩:=I.list h; exact ⟨its,r,p.isList⟩
 | true=>obtain ⟨its,r,p,_⟩:=I.tuple h; exact ⟨its,r,IsTup.tup p⟩
def x6 (K:PySem.W.Frag) (t1 t2:Bool) (a b:Addr):It :=
  ⟨fun i H=>∃ xs ys x y,SqX t1 K H a xs∧SqX t2 K H b ys∧xs[i]?=some x∧ys[i]?=some y,
   fun i H v H'=>∃ T x y,H T=none∧H'=upd H T (.tup [x,y])∧v=.ref T∧∀ xs ys,SqX t1 K H a xs→SqX t2 K H b ys→xs[i]?=some x∧ys[i]?=some y,
   fun i H=>∃ xs ys,SqX t1 K H a xs∧SqX t2 K H b ys∧(xs[i]?=none∨ys[i]?=none)⟩
def IterAt (tp:Bool) (h:Heap) (i l:Addr) (k:Nat):Prop:=match tp with
 | false=>h.IsListIter i l k
 | true=>h.IsTupleIter i l k
theorem IterAt.it {tp:Bool} {h:Heap} {i l:Addr} {k:Nat} {xs:Array Value} (a:IterAt tp h i l k) (b:j0 tp h l xs):ItAt tp h i l k xs:=by
 cases tp with
 | false=>exact ⟨a,b⟩
 | true=>exact ⟨a,b⟩
theorem ItAt.iter {tp:Bool} {h:Heap} {i l:Addr} {k:Nat} {xs:Array Value} (a:ItAt tp h i l k xs):IterAt tp h i l k:=by
 cases tp with
 | false=>exact a.1
 | true=>exact a.1
theorem IterAt.at {tp:Bool} {h h':Heap} {i l:Addr} {k:Nat} (a:IterAt tp h i l k) (k1:∀ o,h.get? i=some o→h'.get? i=some o):IterAt tp h' i l k:=by
 cases tp with
 | false=>obtain ⟨o,e,r⟩:=a; exact ⟨o,k1 o e,r⟩
 | true=>obtain ⟨o,e,r⟩:=a; exact ⟨o,k1 o e,r⟩
theorem IterAt.obj {tp:Bool} {h:Heap} {i l:Addr} {k:Nat} (a:IterAt tp h i l k):∃ o,h.get? i=some o∧∀ v,o.data≠.cell v:=by
 cases tp with
 | false=>obtain ⟨o,e,_,d⟩:=a; exact ⟨o,e,fun v q=>by rw [d] at q; cases q⟩
 | true=>obtain ⟨o,e,_,d⟩:=a; exact ⟨o,e,fun v q=>by rw [d] at q; cases q⟩
theorem oH {X:Cx} {pins:List (Addr×Obj)} {σ:St} {H:Hp} {s:Shared} {tp:Bool} {a:Addr} {xs ys:List V} (I:Inv X pins σ H s) (h1:SqX tp X.K H a xs) (h2:SqX tp X.K H a ys):xs=ys:=by
 cases tp with
 | false=>exact I.list_inj h1 h2
 | true=>exact I.tuple_inj h1 h2
theorem vY {P:Program} {w:World} {K:PySem.W.Frag} {elts:List Expr} {x1:Nat} {tp:Pos} {t1 t2:Bool} {a b z TI TO i1 i2:Addr} (D:ZipApart z TI TO i1 i2 a b) :
  Turn P w K (.Tuple elts x1 tp) (x6 K t1 t2 a b) [z,TI,TO,i1,i2] z (fun i h=>IsZip h z TI TO .none∧IsPair h TI (.ref i1) (.ref i2)∧(∃ u v,IsPair h TO u v)∧IterAt t1 h i1 a i∧IterAt t2 h i2 b i) where
 mem:=by simp
 obj:=fun i h st c hc=>by
  obtain ⟨h1,h2,⟨u,v,h3⟩,h4,h5⟩:=st
  simp only [List.mem_cons,List.not_mem_nil,or_false] at hc
  rcases hc with rfl | rfl | rfl | rfl | rfl
  ·exact ⟨_,h1,fun v q=>nomatch q⟩
  ·exact ⟨_,h2,fun v q=>nomatch q⟩
  ·exact ⟨_,h3,fun v q=>nomatch q⟩
  ·exact h4.obj
  ·exact h5.obj
 keep:=fun i h h' st k=>by
  obtain ⟨h1,h2,⟨u,v,h3⟩,h4,h5⟩:=st
  exact ⟨k z (by simp) _ h1,k TI (by simp) _ h2,⟨u,v,k TO (by simp) _ h3⟩,h4.at fun o e=>k i1 (by simp) o e,h5.at fun o e=>k i2 (by simp) o e⟩
 item:=by
  intro X hP hw hK hc i pins s σ H E I hf st hg
  subst hP hw hK
  obtain ⟨xs,ys,x,y,hxs,hys,hx,hy⟩:=hg
  obtain ⟨us,r1,q1⟩:=I.seqX hxs
  obtain ⟨ws,r2,q2⟩:=I.seqX hys
  obtain ⟨u,hu,ru⟩:=r1.get hx
  obtain ⟨v,hv,rv⟩:=r2.get hy
  obtain ⟨h1,h2,⟨o1,o2,h3⟩,h4,h5⟩:=st
  refine qx D h1 h2 h3 (h4.it q1) (h5.it q2) (x:=u) (y:=v) (by simpa using hu) (by simpa using hv) fun h' b1 b2 b3 b4 b5 b6 b7=>?_
  refine ⟨_,rfl,?_⟩
  refine wpAny_letOwnedTupleGo_zip b1 fun h6 c1 c2=>?_
  have lt:∀ {c o},s.heap.get? c=some o→c≠s.heap.objs.size:=fun e=>Nat.ne_of_lt (Heap.lt_size e)
  have zlt:s.heap.objs.size≠z:=Ne.symm (lt h1)
  have k2:∀ c o,c∉[z,TI,TO,i1,i2]→s.heap.get? c=some o→h6.get? c=some o:=fun c o hc' q=>by
   have n1:c≠z:=fun e=>hc' (by simp [e])
   exact (c2.2 c n1).trans (b7 c o n1 (fun e=>hc' (by simp [e])) (fun e=>hc' (by simp [e])) (fun e=>hc' (by simp [e])) q)
  have t2:h6.get? s.heap.objs.size=some { cls:=.type "tuple",data:=.seq #[u,v] }:=(c2.2 _ zlt).trans b5
  have hn:H s.heap.objs.size=none:=I.hok.fresh (Nat.le_refl _)
  have new:ObjOk X.prog X.w (upd H s.heap.objs.size (.tup [x,y])) h6 s.heap.objs.size (.tup [x,y]):=⟨by simp only [List.length_cons,List.length_nil]; rw [sizeLine_eq]; decide,[u,v],.cons ru (.cons rv .nil),⟨_,t2,rfl,_,rfl⟩⟩
  have I2:Inv X pins σ (upd H s.heap.objs.size (.tup [x,y])) { s with heap:=h6,toks:=s.toks }:=I.turnedNew k2 hf (Nat.le_refl _) new
  refine ⟨.ref s.heap.objs.size,_,I2,rfl,⟨s.heap.objs.size,x,y,hn,rfl,rfl,fun xs' ys' hx' hy'=>⟨by rw [oH I hx' hxs]; exact hx,by rw [oH I hy' hys]; exact hy⟩⟩,⟨c1,(c2.2 _ D.TIz).trans (b7 _ _ D.TIz D.TITO D.TIi1 D.TIi2 h2),⟨_,_,(c2.2 _ D.TOz).trans b2⟩,b3.iter.at fun o e=>(c2.2 _ D.i1z).trans e,b4.iter.at fun o e=>(c2.2 _ D.i2z).trans e⟩,fun c hc'=>?_⟩
  have hne:c≠s.heap.objs.size:=by
   simp only [List.mem_cons,List.not_mem_nil,or_false] at hc'
   rcases hc' with rfl | rfl | rfl | rfl | rfl
   ·exact lt h1
   ·exact lt h2
   ·exact lt h3
   ·obtain ⟨o,e,_⟩:=h4.obj; exact lt e
   ·obtain ⟨o,e,_⟩:=h5.obj; exact lt e
  rw [au hne]
  exact (hf c hc').1
 done:=by
  intro X hP hw hK hc i pins s σ H E I hf st hg
  subst hP hw hK
  obtain ⟨xs,ys,hxs,hys,hend⟩:=hg
  obtain ⟨us,r1,q1⟩:=I.seqX hxs
  obtain ⟨ws,r2,q2⟩:=I.seqX hys
  obtain ⟨h1,h2,⟨o1,o2,h3⟩,h4,h5⟩:=st
  have e1:=r1.length
  have e2:=r2.length
  refine uA (show X.A.handled=none from I.ok.hd hc) D h1 h2 h3 (h4.it q1) (h5.it q2) ?_ fun h' k=>⟨rfl,?_⟩
  ·rcases hend with h | h
   ·refine .inl ?_
    have:=List.getElem?_eq_none_iff.mp h
    simp
    omega
   ·refine .inr ?_
    have:=List.getElem?_eq_none_iff.mp h
    simp
    omega
  ·exact I.turnedL (t':=s.toks) (fun c o hc' q=>k c o (fun e=>hc' (by simp [e])) (fun e=>hc' (by simp [e])) (fun e=>hc' (by simp [e])) (fun e=>hc' (by simp [e])) q) hf
 self:=fun _ _ _ _ _ st h=>wpAny_pyIter_zip st.1 h
section
variable {X:Cx}
def D1 (K:PySem.W.Frag) (t1 t2:Bool) (ta:TA):TI:=fun σ H R=>ta σ H fun vs H1=>∃ a b,vs=[.ref a,.ref b]∧(∃ xs,SqX t1 K H1 a xs)∧(∃ ys,SqX t2 K H1 b ys)∧R (x6 K t1 t2 a b) H1
theorem BP (t1 t2:Bool) {a b:Expr} {ta:TA} {p pos tp:Pos} {elts:List Expr} {x1:Nat} (hg:Gl X "zip") (hm:X.mg "zip"=none) (ha:PA X [a,b] ta) (hs:starEach [a,b] X.env=(false,eval a X.env)::starEach [b] X.env:=by rfl) (hpl:(backTo pos (starEach [b] X.env)).any (·.1)=false:=by rfl) :
  PI X (.Tuple elts x1 tp) (.Call (.Name "zip" p) [a,b] [] pos) (D1 X.K t1 t2 ta):=by
 intro pins s σ H R I h
 refine Call_ (fL I hg hm PyProof.Rows.boot_zip (PyProof.Rows.callWith_type1 (thn (ha pos pins s σ H _ I h) fun us s1 ⟨vs,H1,I1,r1,q1⟩=>?_) hs hpl))
 obtain ⟨l1,l2,e,⟨xs,hx⟩,⟨ys,hy⟩,q⟩:=q1
 subst e
 obtain ⟨u,v,rfl,ru,rv⟩:=vals2 r1
 cases ru
 cases rv
 obtain ⟨us,_,g1⟩:=I1.seqX hx
 obtain ⟨ws,_,g2⟩:=I1.seqX hy
 have lt:∀ {tp:Bool} {l:Addr} {zs:Array Value},j0 tp s1.heap l zs→l<s1.heap.objs.size:=fun {tp} {l} {zs} g=>by
  cases tp with
  | false=>obtain ⟨o,z,_⟩:=g; exact Heap.lt_size z
  | true=>obtain ⟨o,z,_⟩:=g; exact Heap.lt_size z
 refine uH g1 g2 fun h' b1 b2 b3 b4 b5 hk=>?_
 refine wpAny_pyIter_zip b1 ?_
 have hfp:∀ c∈[s1.heap.objs.size+4,s1.heap.objs.size+2,s1.heap.objs.size+3,s1.heap.objs.size,s1.heap.objs.size+1],ij X pins H1 c:=fun c hc=>by
  have hge:s1.heap.objs.size≤c:=by
   simp only [List.mem_cons,List.not_mem_nil,or_false] at hc
   omega
  exact I1.fpOk hge (I1.hok.fresh hge)
 exact ⟨s1.heap.objs.size+4,_,_,_,H1,rfl,I1.kept (t':=s1.toks) hk,vY (zipApart_new (lt g1) (lt g2)),⟨b1,b2,⟨_,_,b3⟩,b4.iter,b5.iter⟩,hfp,q⟩
end
theorem Ac {K:PySem.W.Frag} {t1 t2:Bool} {a b:Addr} {xs ys:List V} {g:TG} {tb:TS} {D:Ends} {σ:St} {H:Hp} (Pv:Nat→St→Hp→Prop) (h0:Pv 0 σ H) (hl:∀ i σ H,i≤min xs.length ys.length→Pv i σ H→SqX t1 K H a xs∧SqX t2 K H b ys)
  (hs:∀ i x y σ H T,xs[i]?=some x→ys[i]?=some y→Pv i σ H→H T=none→g (.ref T) σ (upd H T (.tup [x,y])) fun σ2 H2=>tb { D with nx:=Pv (i+1),ct:=Pv (i+1),bk:=D.nx } σ2 H2) (hd:∀ σ H,Pv (min xs.length ys.length) σ H→D.nx σ H) :
  ∃ W:Nat→Nat→St→Hp→Prop,(∃ m,W 0 m σ H)∧∀ i m σ H,W i m σ H→((x6 K t1 t2 a b).stop i H∧D.nx σ H)∨((x6 K t1 t2 a b).go i H∧∃ N:St→Hp→Prop,(∀ σ' H',N σ' H'→∃ m',m'<m∧W (i+1) m' σ' H')∧∀ x H',(x6 K t1 t2 a b).yld i H x H'→g x σ H' fun σ2 H2=>tb { D with nx:=N,ct:=N,bk:=D.nx } σ2 H2):=by
 refine ⟨fun i m σ H=>m=min xs.length ys.length - i∧i≤min xs.length ys.length∧Pv i σ H,⟨min xs.length ys.length,by simp,Nat.zero_le _,h0⟩,?_⟩
 rintro i m σ H ⟨rfl,hi,p⟩
 obtain ⟨q1,q2⟩:=hl i σ H hi p
 by_cases hlt:i<min xs.length ys.length
 ·have e1:=List.getElem?_eq_getElem (show i<xs.length by omega)
  have e2:=List.getElem?_eq_getElem (show i<ys.length by omega)
  refine .inr ⟨⟨xs,ys,_,_,q1,q2,e1,e2⟩,Pv (i+1),fun σ' H' p'=>⟨min xs.length ys.length - (i+1),by omega,rfl,hlt,p'⟩,fun v H' y=>?_⟩
  obtain ⟨T,x,y,hT,z1,z2,z3⟩:=y
  subst z1 z2
  obtain ⟨z4,z5⟩:=z3 xs ys q1 q2
  exact hs i x y σ H T z4 z5 p hT
 ·have e:i=min xs.length ys.length:=by omega
  refine .inl ⟨⟨xs,ys,q1,q2,?_⟩,hd σ H (by rw [← e]; exact p)⟩
  by_cases hx:i<xs.length
  ·exact .inr (List.getElem?_eq_none (by omega))
  ·exact .inl (List.getElem?_eq_none (by omega))
end L2
namespace L2
open PySem PySem.Spec PyProof.Rows
def Co (t u:TS):TS:=fun D σ H=>∃ Pv:St→Hp→Prop,t { D with nx:=Pv } σ H∧∀ σ' H',Pv σ' H'→u D σ' H'
theorem vZ {X:Cx} {st:Stmt} {rest:List Stmt} {t u:TS} (h1:PS X st t) (h2:PSs X rest u):PSs X (st::rest) (Co t u):=by
 intro pins s σ H D I ⟨Pv,h,k⟩
 refine wpAny_execs_cons (thn (h1 pins s σ H { D with nx:=Pv } I h) fun f s1 q=>?_)
 cases f with
 | next=>obtain ⟨σ',H',I',q⟩:=q; exact h2 pins s1 σ' H' D I' (k σ' H' q)
 | ret v=>exact q
 | brk=>exact q
 | cont=>exact q
section
variable {X:Cx}
end
end L2
namespace HT
open PySem PySem.Spec PyProof PyProof.Rows
section
variable {prog:Program} {w:World} {A:Around} {E:Value→Shared→Prop} {s:Shared}
theorem ig {t sl:Addr} {items:Array Value} {vl vu:Value} {lo hi:Option Int} {Q:Value→Shared→Prop} (ht:IsTup s.heap t items) (hs:s.heap.IsSliceOf sl vl vu .none) (pl:IsPart vl lo) (pu:IsPart vu hi)
  (hw:sIx items.size 0 lo=0∧sIx items.size items.size hi=items.size) (h:Q (.ref t) s):wpAny (model prog w) A (getItem (.ref t) (.ref sl)) Q E s:=by
 obtain ⟨os,hos,hcs,hds⟩:=id hs
 have hTs:s.TypeIs (.ref sl) "slice":=⟨os,hos,hcs⟩
 unfold getItem
 try with_reducible refine wpAny_holding ?_
 first | refine wpAny_bind (wpAny_pure ?_) | skip
 refine wpAny_bind (wpAny_sequenceKey ht.typeIs (by decide) ?_)
 refine wpAny_bind (wpAny_callSpecial?_slot (name:=Str.ofString "__getitem__") ht.typeIs PyProof.Rows.slot_tuple_getitem
  (wpAny_call_entry PyProof.Rows.slot_tuple_getitem ht.typeIs entry_tuple_getitem ?_ (args_tuple_getitem _ _)))
 show wpAny _ _ (Builtin.Tuple.tupleItemsOf (.ref t) >>= _) _ _ s
 refine wpAny_bind (tupleItemsOf_ ht ?_)
 refine wpAny_bind (wpAny_typeOf hTs ?_)
 rw [if_pos (by decide)]
 refine wpAny_bind (fq hs pl pu ?_)
 have hyes:(((sIx items.size 0 lo:Nat):Int) == 0 && (1:Int) == 1 && (sIx items.size items.size hi - sIx items.size 0 lo) == items.size)=true:=by
  rw [hw.1,hw.2]
  simp
 show wpAny _ _ (if (((sIx items.size 0 lo:Nat):Int) == 0 && (1:Int) == 1 && (sIx items.size items.size hi - sIx items.size 0 lo) == items.size)=true then _ else _) _ _ s
 rw [if_pos hyes]
 unfold Builtin.Tuple.tupleIsExact
 refine wpAny_bind (wpAny_bind (wpAny_typeOf ht.typeIs (wpAny_pure ?_)))
 rw [if_pos (by decide)]
 exact wpAny_bind (wpAny_rule (wpAny_pure ⟨_,rfl,wpAny_pure h⟩))
end
end HT
namespace L2
open PySem PySem.Spec PyProof.Rows
section
variable {X:Cx}
def CL:V→Option Int→Option Int→Hp→VK→Prop:=fun x lo hi H Q=>∃ a xs,x=.ref a∧H a=some (.tup xs)∧∀ p H',Same H H'→H' p=some (.tup (eM xs lo hi))→Q (.ref p) H'
theorem rR {xs:List V} {lo hi:Option Int} (h:HT.sIx xs.length 0 lo=0∧HT.sIx xs.length xs.length hi=xs.length):eM xs lo hi=xs:=by
 unfold eM
 rw [h.1,h.2,List.drop_zero,Nat.sub_zero,List.take_length]
theorem sI:SlR X CL:=by
 intro pins s σ H x v vl vu lo hi sl Q I rx hs pl pu h
 obtain ⟨a,xs,rfl,ha,q⟩:=h
 by_cases hw:HT.sIx xs.length 0 lo=0∧HT.sIx xs.length xs.length hi=xs.length
 ·cases rx
  obtain ⟨its,r,ht,hz⟩:=I.tuple (SqT.of (K:=X.K) ha)
  have hlen:its.toArray.size=xs.length:=by rw [List.size_toArray]; exact r.length.symm
  refine ⟨"tuple",_,PyProof.Rows.slot_tuple_getitem.lookup,ht.typeIs,?_⟩
  exact HT.ig ht hs pl pu (by rw [hlen]; exact hw) ⟨.ref a,H,I,rfl,q a H (Same.refl H) (by rw [rR hw]; exact ha)⟩
 ·exact BF pins s σ H _ v vl vu lo hi sl Q I rx hs pl pu ⟨a,xs,rfl,SqT.of ha,hw,fun p hp=>q p _ (ao hp _) ah⟩
def B9:R2:=fun x y H Q=>∃ a b xs ys,x=.ref a∧y=.ref b∧H a=some (.tup xs)∧H b=some (.tup ys)∧xs≠[]∧xs.length+ys.length≤sizeLine∧∀ p H',Same H H'→H' p=some (.tup (xs++ys))→Q (.ref p) H'
theorem zf:OpR X (binaryOp .Add) B9:=by
 intro pins s σ H x y v u Q I rx ry h
 obtain ⟨a,b,xs,ys,rfl,rfl,ha,hb,hx,hz,q⟩:=h
 exact zr pins s σ H _ _ v u Q I rx ry ⟨a,b,xs,ys,rfl,rfl,SqT.of ha,SqT.of hb,hx,hz,fun e=>q a H (Same.refl H) (by rw [e,List.append_nil]; exact ha),fun _ p hp=>q p _ (ao hp _) ah⟩
def Ec (t:TT):TT:=fun σ H Q=>∃ R:Bool→Hp→Prop,t σ H R∧∀ b H',R b H'→Q b H'
theorem gq {α:Type} {l:List α} (h:l.length=1):∃ a,l=[a]:=by
 match l,h with
 | [a],_=>exact ⟨a,rfl⟩
theorem dm {α:Type} {l:List α} (h:l.length=2):∃ a b,l=[a,b]:=by
 match l,h with
 | [a,b],_=>exact ⟨a,b,rfl⟩
theorem iY {α:Type} {l:List α} (h:l.length=3):∃ a b c,l=[a,b,c]:=by
 match l,h with
 | [a,b,c],_=>exact ⟨a,b,c,rfl⟩
theorem Cz {α:Type} {l:List α} (h:l.length=4):∃ a b c d,l=[a,b,c,d]:=by
 match l,h with
 | [a,b,c,d],_=>exact ⟨a,b,c,d,rfl⟩
end
end L2
namespace L2
open PySem PySem.Spec PyProof.Rows PySem.W Builtin Builtin.ObjectAttr
def sE:List Value→Bool
 | .ref _::r=>sE r
 | l=>l == [.type "ValueError",.type "Exception",.type "BaseException",.type "object"]
def Cn (K:Frag) (C:Addr):Bool:=(clsIn K C).any fun cd=>sE cd.mro
section
variable {prog:Program} {w:World} {A:Around} {s:Shared} {K:Frag} {x C:Addr} {R:Result→Shared→Prop}
end
end L2
namespace L2
open PySem PySem.Spec PyProof.Rows
section
variable {prog:Program} {w:World} {A:Around} {E:Value→Shared→Prop} {s:Shared} {K:PySem.W.Frag} {x C:Addr} {name:Str} {v:Value}
end
end L2
namespace L2
open PySem PySem.Spec PyProof.Rows
def AY (K:PySem.W.Frag) (C f:Addr):Bool :=
 match K.lookup C with
 | some ⟨.type "type",_,.cls cd,sl⟩ =>
  match cd.mro,sl.toList with
  | .ref C'::bm,[_,_,_,_,some (.builtin n),_]=>((C' == C && n == "ValueError.__new__") && (!cd.hasDel && PySem.W.tailIn K VE bm)) && (PySem.W.nsOkIn K cd.ns && PySem.W.nsIn K cd.ns "__init__" == some (some (.ref f)))
  | _,_=>false
 | _=>false
section
variable {prog:Program} {w:World} {A:Around} {h:Heap} {g:Array GenState} {d:Drawn} {t:Nat} {os:OsState} {R:Result→Shared→Prop}
variable {nm q:Str} {C N:Addr} {bs bm:List Value} {hdct:Bool} {sn:List Str} {sub:List Value} {ab:Bool} {col:Option Bool} {dd:Option Addr} {k0 k1 k2 k3 k5:Option Value}
end
end L2
namespace L2
open PySem PySem.Spec PyProof.Rows
def ExN (a C:Addr) (d:Option Addr):HO:=.ext fun h=>∃ vs sl,h.get? a=some ⟨.ref C,d,.fields vs,sl⟩∧vs[1]?=some .none
structure XSet (K:PySem.W.Frag) (C:Addr) (f:Str):Prop where
 sa:PySem.W.findIn K (.ref C) "__setattr__"=some (some (.builtin "object.__setattr__"))
 po:Cn K C=true
 tk:PySem.W.takerIn K C f=some none
 hd:PySem.W.hasDictIn K C=true
structure MkX (K:PySem.W.Frag) (C f:Addr):Prop where
 ex:AY K C f=true
 fn:PySem.W.isFn K (.ref f)=true
 kp:PySem.W.keepIn K (.ref C)=true
section
variable {X:Cx} {pins:List (Addr×Obj)} {σ:St} {H:Hp} {s:Shared} {A:Around} {E:Value→Shared→Prop}
def Ez (K:PySem.W.Frag) (ta tv:TE) (f:Str):TS:=fun D σ H=>tv σ H fun y H1=>ta σ H1 fun x H2=>∃ a C,x=.ref a∧H2 a=some (ExN a C none)∧XSet K C f∧∀ dx,H2 dx=none→dx≠a→D.nx σ (upd (upd H2 dx (.xd [(f,y)])) a (ExN a C (some dx)))
def DS (C:Addr) (sp:Sp) (E:XK) (t:TA):TE:=fun σ H Q=>t σ H fun vs H1=>vs.length≤sizeLine∧∀ x,H1 x=none→sp (.ref x::vs) (upd H1 x (ExN x C none)) (fun v H2=>v=.non∧Q (.ref x) H2) E
section
variable {CX:CXT} {k:Nat} {f C:Addr} {fd:FuncData} {ps:List Str} {sp:Sp} {E:XK} {x:Str} {p pos:Pos} {e:Expr} {es:List Expr} {t:TA}
end
end
end L2
namespace L2
open PySem PySem.Spec PyProof.Rows
def drop (H:Hp) (x:Addr):Hp:=fun b=>if b=x then none else H b
section
variable {M:Model} {A:Around} {E:Value→Shared→Prop} {env:Env} {nm q:Str} {C N:Addr} {bs bm:List Value} {hdct:Bool} {sn:List Str} {sub:List Value} {ab:Bool} {col:Option Bool} {dd:Option Addr} {k0 k1 k2 k3 k5:Option Value} {newId:String}
end
def De (X:Cx) (E:XK):Prop:=∀ (pins:List (Addr×Obj)) (σ:St) (H:Hp) (s:Shared) (x C:Addr) (d:Option Addr),Inv X pins σ H s→H x=some (ExN x C d)→X.H₀ x=none→E (.ref C) d (drop H x)→X.xe (.ref x) s
def Df (X:Cx) (E:XK) (C:Addr) (te:TE):TS:=fun _ σ H=>te σ H fun v H1=>∃ a d,v=.ref a∧H1 a=some (ExN a C d)∧X.H₀ a=none∧E (.ref C) d (drop H1 a)
section
variable {P:Program} {w:World} {K:PySem.W.Frag} {mg:Str→Option Value} {base:Heap} {N:List Str} {qual:Str} {scope:Scope} {f:Addr} {cd:Value} {A:Around} {outer:List Env} {s₀:Shared} {H₀:Hp} {E:XK}
end
end L2
namespace L2
open PySem PySem.Spec PyProof.Rows
def Es (K:PySem.W.Frag) (ta:TE) (f:Str):TE:=fun σ H Q=>ta σ H fun x H1=>∃ a C dx fs l,x=.ref a∧H1 a=some (ExO a C (some dx))∧H1 dx=some (.xd fs)∧XCls K C∧PySem.W.findIn K (.ref C) f=some none∧fs.lookup f=some (.ref l)∧Q (.ref l) H1
end L2
namespace L2
open PySem PySem.Spec PyProof.Rows
theorem mK:∀ {ss:List Str} {us:List Value},Vals (ss.map V.str) us→∃ l:List (Str×Tok),us=strValues l∧l.map (·.1)=ss
 | [],_,.nil=>⟨[],rfl,rfl⟩
 | x::ss,_,.cons r q=>by
  obtain ⟨l,rfl,e⟩:=mK q
  obtain ⟨t,rfl⟩:=r
  exact ⟨(x,t)::l,rfl,by rw [List.map_cons,e]⟩
def rJoin:V→List V→Hp→VK→Prop:=fun x vs H Q=>∃ sep l ss,x=.str sep∧vs=[.ref l]∧H l=some (.lst (ss.map V.str))∧JoinOk sep ss=true∧Q (.str (Txt.join sep ss)) H
section
variable {X:Cx}
theorem tq:MtM X "str.join" rJoin:=by
 intro pins s σ H x vs v us Q I rx rv h
 obtain ⟨sep,l,ss,rfl,rfl,hH,hok,q⟩:=h
 obtain ⟨t,rfl⟩:=rx
 obtain ⟨u,rfl,ru⟩:=rv.one
 cases ru
 obtain ⟨z,its,n,r,hl,e⟩:=I.lstM hH
 obtain ⟨L,rfl,hL⟩:=mK r
 refine SC.join (l:=L) ⟨_,e,rfl,n,rfl⟩ hL hok fun t' k=>?_
 exact ⟨.str _,_,I.tok k,⟨t',rfl⟩,q⟩
end
def DR (K:PySem.W.Frag) (ta:TE) (f:Str):TE:=fun σ H Q=>ta σ H fun x H1=>∃ a C dx fs v,x=.ref a∧H1 a=some (ExO a C (some dx))∧H1 dx=some (.xd fs)∧XCls K C∧PySem.W.findIn K (.ref C) f=some none∧fs.lookup f=some v∧Q v H1
end L2
namespace L2
open PySem PySem.Spec PyProof.Rows
section
variable {X:Cx}
def CC:R2:=fun x y H Q=>∃ a b xs ys,x=.ref a∧y=.ref b∧H a=some (.tup xs)∧H b=some (.tup ys)∧xs.length+ys.length≤sizeLine∧∀ p H',Same H H'→H' p=some (.tup (xs++ys))→Q (.ref p) H'
theorem nH:OpR X (binaryOp .Add) CC:=by
 intro pins s σ H x y v u Q I rx ry h
 obtain ⟨a,b,xs,ys,rfl,rfl,ha,hb,hz,q⟩:=h
 by_cases hx:xs=[]
 ·subst hx
  cases rx
  cases ry
  obtain ⟨its,r1,p1,_⟩:=I.tuple (SqT.of (K:=X.K) ha)
  obtain ⟨its2,r2,p2,_⟩:=I.tuple (SqT.of (K:=X.K) hb)
  cases r1
  obtain ⟨⟨cls,dd,data,sl⟩,ho,hc,n,hd⟩:=id p1
  obtain ⟨⟨cls2,dd2,data2,sl2⟩,ho2,hc2,n2,hd2⟩:=id p2
  simp only at hc hd hc2 hd2
  subst hc hd hc2 hd2
  exact concat_meets ⟨_,ho,rfl⟩ ⟨_,ho2,rfl⟩ noFill_tuple_add seq_tuple_add PySem.F.slot_tuple_add PySem.F.entry_tuple_add (PySem.F.args_tuple_add_2 _ _)
   (tuple_addW0 a b _ _ n n2 dd dd2 sl sl2 rfl) ⟨ho,ho2,⟨.ref b,H,I,rfl,q b H (Same.refl H) hb⟩⟩
 ·exact zf pins s σ H _ _ v u Q I rx ry ⟨a,b,xs,ys,rfl,rfl,ha,hb,hx,hz,q⟩
end
end L2
namespace L2
open PySem PySem.Spec PyProof.Rows
section
variable {X:Cx}
def Ew:R2:=fun x y H Q=>∃ (a:Addr) (xs:List V) (k:Nat),x=.ref a∧y=.int k∧H a=some (.tup xs)∧xs≠[]∧2≤k∧xs.length * k≤1000∧∀ p,H p=none→Q (.ref p) (upd H p (.tup (List.replicate k xs).flatten))
end
end L2
namespace L2
open PySem PySem.Spec PyProof.Rows
def zO:V→List V→Hp→VK→Prop:=fun x vs H Q=>∃ (l:Addr) (z:Str) (zs:List Str) (j:Nat),x=.ref l∧vs=[.str z]∧H l=some (.lst (zs.map V.str))∧zs.length≤1000∧zs[j]?=some z∧(∀ i,i<j→zs[i]?≠some z)∧Q (.int j) H
def qC (z:Str):Value→Bool
 | .str x _=>x.cps.toList == z.cps.toList
 | _=>false
theorem Bs {x z:Str} (h:(x.cps.toList == z.cps.toList)=true):x=z:=by
 have e:=eq_of_beq h
 cases x
 cases z
 simp only [Str.mk.injEq]
 exact Array.toList_inj.mp e
theorem fO:∀ {zs:List Str} {us:List Value},Vals (zs.map V.str) us→∀ (i:Nat) v,us[i]?=some v→∃ x t,zs[i]?=some x∧v=.str x t
 | [],_,r,i,v,e=>by cases r; simp at e
 | b::bs,_,.cons r t,0,v,e=>by
  simp at e
  subst e
  obtain ⟨t',rfl⟩:=r
  exact ⟨b,t',rfl,rfl⟩
 | b::bs,_,.cons r t,i+1,v,e=>by
  obtain ⟨c,t',h1,h2⟩:=fO t i v (by simpa using e)
  exact ⟨c,t',by simpa using h1,h2⟩
section
variable {X:Cx}
theorem pN:MtM X "list.index" zO:=by
 intro pins s σ H x vs v us Q I rx rv h
 obtain ⟨l,z,zs,j,rfl,rfl,hH,hz,hj,hno,q⟩:=h
 cases rx
 obtain ⟨u,rfl,ru⟩:=rv.one
 obtain ⟨t,rfl⟩:=ru
 obtain ⟨z',its,n,r,hl,e⟩:=I.lstM hH
 have hlen:zs.length=its.length:=by rw [← hl,List.length_map]
 have hjl:j<its.length:=by
  have:=(List.getElem?_eq_some_iff.mp hj).1
  omega
 refine call_meets F.slot_list_index ⟨_,e,rfl⟩ F.entry_list_index (F.args_list_index_2 _ _) (PySem.MeetsSeq.list_index l its.toArray n (.str z t) (qC z) (fun y hy=>?_) j (by rw [List.size_toArray]; exact hjl) (by omega) ?_ ?_) ⟨e,?_⟩
 ·obtain ⟨i,hi⟩:=List.getElem?_of_mem (show y∈its by simpa using hy)
  obtain ⟨x,t',_,rfl⟩:=fO r i y hi
  exact PySem.SeqRoads2.EqGives.str x z t' t
 ·obtain ⟨x,t',hx,ev⟩:=fO r j its[j] (List.getElem?_eq_getElem hjl)
  show qC z its[j]=true
  rw [ev]
  rw [hj] at hx
  cases hx
  exact beq_self_eq_true _
 ·intro m hm hmj
  have hml:m<its.length:=by simpa using hm
  obtain ⟨x,t',hx,ev⟩:=fO r m its[m] (List.getElem?_eq_getElem hml)
  show qC z its[m]=false
  rw [ev,Bool.eq_false_iff]
  intro h
  have ex:=Bs h
  subst ex
  exact hno m hmj hx
 exact ⟨.int j,H,I.tok _,⟨_,rfl⟩,q⟩
end
end L2
namespace L2
open PySem PySem.Spec PyProof.Rows
section
variable {X:Cx} {K:PySem.W.Frag} {o e:Expr} {es:List Expr} {to:TE} {t:TA} {name:Str} {apos cpos:Pos} {T id:String} {r:V→List V→Hp→VK→Prop}
theorem vQ (hK:X.K=K) (pa:PlainAttrs T) (slot:Slot T name id) (hty:typeOf (.builtin id)=pure (.type "method_descriptor")) (hm:MtR X id r) (ho:PE X o to) (ha:PA X (e::es) t)
  (hbase:attributeBase o name X.env (eval o X.env)=eval o X.env:=by rfl)
  (hfew:((backTo cpos (starEach (e::es) X.env)).all (fun x=>!x.1) && (backToKw cpos (keywordEach [] X.env)).all (fun x=>x.1.isSome)
   && decide ((e::es).length+([]:List Keyword).length+(if ([]:List Keyword).isEmpty then 0 else 1)<30))=true:=by rfl)
  (hline:(apos.endLine == cpos.line)=true:=by rfl) (hs:starEach (e::es) X.env=(false,eval e X.env)::starEach es X.env:=by rfl) (hplain:(backTo cpos (starEach es X.env)).any (·.1)=false:=by rfl) :
  PE X (.Call (.Attribute o name apos) (e::es) [] cpos) (tBM K T r to t):=hK▸dh pa slot hty hm ho ha hbase hfew hline hs hplain
end
end L2
namespace L2
open PySem PySem.Spec PyProof.Rows
@[reducible] def IsZipG (h:Heap) (z TI TO:Addr) (m:Value) (f:Bool):Prop:=h.get? z=some { cls:=.type "zip",data:=.fields #[m,.bool f,.bool false,.ref TI,.ref TO] }
inductive Mark:Value→Prop where
 | none:Mark .none
 | at (a:Int):Mark (rawInt a)
section
variable {prog:Program} {w:World} {A:Around} {E:Value→Shared→Prop} {s:Shared}
end
end L2
namespace L2
open PySem PySem.Spec PyProof.Rows
section
variable {prog:Program} {w:World} {A:Around} {E:Value→Shared→Prop} {s:Shared}
end
def CQ (K:PySem.W.Frag) (t1 t2:Bool) (a b:Addr):It :=
  ⟨fun i H=>∃ xs ys x y,SqX t1 K H a xs∧SqX t2 K H b ys∧xs[i]?=some x∧ys[i]?=some y,
   fun i H v H'=>∃ T2 T x y,H T2=none∧(upd H T2 (.tup [x,y])) T=none∧H'=upd (upd H T2 (.tup [x,y])) T (.tup [.int (i:Int),.ref T2])∧v=.ref T∧∀ xs ys,SqX t1 K H a xs→SqX t2 K H b ys→xs[i]?=some x∧ys[i]?=some y,
   fun i H=>∃ xs ys,SqX t1 K H a xs∧SqX t2 K H b ys∧(xs[i]?=none∨ys[i]?=none)⟩
section
variable {X:Cx}
def Ed (K:PySem.W.Frag) (t1 t2:Bool) (ta:TA):TI:=fun σ H R=>ta σ H fun vs H1=>∃ a b,vs=[.ref a,.ref b]∧(∃ xs,SqX t1 K H1 a xs)∧(∃ ys,SqX t2 K H1 b ys)∧R (CQ K t1 t2 a b) H1
end
end L2
namespace L2
open PySem PySem.Spec PyProof.Rows
def rE {α:Type} (c:Nat→Nat→Bool):W.KasT α→α
 | .ret a=>a
 | .ask i j k=>rE c (k (c i j))
def Cg {α:Type} (n:Nat) (R:α→Prop):W.KasT α→Prop
 | .ret a=>R a
 | .ask i j k=>i<n∧j<n∧∀ b,Cg n R (k b)
def Low (n:Nat) (p:Array Nat):Prop:=p.size=n∧∀ i,p.getD i 0<n
section
variable {prog:Program} {w:World} {A:Around} {E:Value→Shared→Prop} {s:Shared}
structure SortTo (prog:Program) (w:World) (A:Around) (a:Addr) (vs out:List Value) (h:Heap):Prop where
 few:vs.length<2→out=vs
 many:2≤vs.length→∀ s1:Shared,(∀ b o,b≠a→h.get? b=some o→s1.heap.get? b=some o)→∃ (κ:SortKind) (c:Nat→Nat→Bool),(∀ (Q:SortKind→Shared→Prop) (E:Value→Shared→Prop),Q κ s1→wpAny (model prog w) A (keyKind' vs.toArray) Q E s1)∧
  (∀ i j (C:Bool→Shared→Prop),i<vs.length→j<vs.length→C (c i j) s1→W.kas_ask prog w A κ vs i j C s1)∧out=(rE c (W.kas_sort vs.length)).toList.map fun i=>vs.getD i .none
end
end L2
namespace L2
open PySem PySem.Spec PyProof.Rows
abbrev D3:=Int×Str×Int
def d3V (d:D3):List V:=[.int d.1,.str d.2.1,.int d.2.2]
def E7 (H:Hp) (v:V) (d:D3):Prop:=∃ a,v=.ref a∧H a=some (.tup (d3V d))
def Dx (d e:D3):Bool:=if eqV (.int d.1) (.int e.1)=true then (if eqV (.str d.2.1) (.str e.2.1)=true then (if eqV (.int d.2.2) (.int e.2.2)=true then false else decide (d.2.2<e.2.2)) else decide (d.2.1.cps.toList<e.2.1.cps.toList)) else decide (d.1<e.1)
def d0:D3:=(0,Str.empty,0)
def C5 (ds:List D3):List Nat:=(rE (fun i j=>Dx (ds.getD i d0) (ds.getD j d0)) (W.kas_sort ds.length)).toList
def Ek (ds:List D3):List D3:=if ds.length<2 then ds else (C5 ds).map fun i=>ds.getD i d0
def Fc (h:Heap) (v:Value) (d:D3):Prop:=∃ a o n i t x u j r,v=.ref a∧h.get? a=some o∧o.cls=.type "tuple"∧o.data=.seq #[.int i t,.str x u,.int j r] n∧d=(i,x,j)
section
variable {prog:Program} {w:World} {A:Around} {s:Shared}
end
section
variable {X:Cx}
theorem xV (hc:X.calm=true):cW X (.builtin "sum") (fun xs H Q=>∃ (p:Addr) (ns:List Int),xs=[.ref p]∧SqL X.K H p (ns.map V.int)∧∀ S:Int,Q (.int S) H):=by
 intro pins s σ H xs us Q I r h
 obtain ⟨p,ns,rfl,hp,q⟩:=h
 obtain ⟨u,rfl,ru⟩:=vals1 r
 cases ru
 obtain ⟨its,rv,pl,hz⟩:=I.list hp
 have hl:=pl.isList
 have hlt:p<s.heap.objs.size:=by obtain ⟨_,e,_⟩:=hl; exact Heap.lt_size e
 have hlen:=rv.length
 rw [List.length_map] at hlen
 refine call_sum_walkG (wpAny_pyIter_list hl ?_)
 refine ⟨s.heap.objs.size,[s.heap.objs.size,p],[s.heap.objs.size],its.toArray.size,_,_,fun i=>(ns[i]?).getD 0,rfl,Walks.list (A:=X.A.in1) (I.ok.hd hc) _ p (Nat.ne_of_lt hlt) its.toArray,
  ⟨⟨_,Heap.get?_push_size _ rfl,rfl,rfl⟩,hl.push _⟩,fun b hb=>?_,fun i v hP=>?_,fun h' tk t' hk=>?_⟩
 ·rw [Heap.size_push]
  rcases List.mem_cons.mp hb with rfl | h
  ·exact Nat.lt_succ_self _
  ·rw [List.mem_singleton.mp h]
   exact Nat.lt_succ_of_lt hlt
 ·have hv:its[i]?=some v:=by simpa using hP
  have hi:i<ns.length:=by rw [hlen]; exact (List.getElem?_eq_some_iff.mp hv).1
  obtain ⟨u,hu,ru⟩:=rv.get (i:=i) (x:=.int ns[i]) (by rw [List.getElem?_map,List.getElem?_eq_getElem hi]; rfl)
  rw [hv] at hu
  cases hu
  obtain ⟨t,rfl⟩:=ru
  exact ⟨t,by show Value.int ns[i] t=Value.int ((ns[i]?).getD 0) t; rw [List.getElem?_eq_getElem hi]; rfl⟩
 ·refine ⟨.int _,H,I.kept (t':=tk) fun b o x=>hk b o (fun hm=>?_) (Heap.get?_push_of_some _ x),⟨t',rfl⟩,q _⟩
  rw [List.mem_singleton.mp hm] at x
  exact Nat.lt_irrefl _ (Heap.lt_size x)
end
end L2
namespace L2
open PySem PySem.Spec PyProof.Rows
def uk (lo c:Int) (n:Nat):It:=⟨fun i _=>i<n,fun i H x H'=>H'=H∧x=.int (lo+i * c),fun i _=>n≤i⟩
theorem pZ {P:Program} {w:World} {K:PySem.W.Frag} {tg:Expr} (it:Addr) (lo c:Int) (n:Nat):Turn P w K tg (uk lo c n) [it] it (fun i h=>IsRangeIter h it (lo+(i:Nat) * c) ((n:Int) - (i:Nat)) c) where
 mem:=by simp
 obj:=fun i h st b hb=>by
  have e:b=it:=by simpa using hb
  subst e
  exact ⟨_,st,fun v z=>by
   have z':Data.fields _=Data.cell v:=z
   cases z'⟩
 keep:=fun i h h' st k=>k it (by simp) _ st
 item:=by
  intro X hP hw hK hc i pins s σ H E I hf st hg
  subst hP hw hK
  obtain ⟨f0,f1,f2,f3,f4,f5⟩:=hf it (by simp)
  have W:=Walks.range (prog:=X.prog) (w:=X.w) (I.ok.hd hc) it lo c n
  refine W.item i s _ _ hg st fun v h' tk hv st' kk=>?_
  obtain ⟨t,rfl⟩:=hv
  have I1:Inv X pins σ H { s with heap:=h',toks:=tk }:=I.turned (fun b o hb e=>kk b o (by simpa using hb) e) f0 f1 f3 f4 f5
  exact ⟨_,rfl,pP (s:={ s with heap:=h',toks:=tk }) (n:="range_iterator") st' rfl rfl (by decide) ⟨.int (lo+i * c),H,I1,⟨t,rfl⟩,⟨rfl,rfl⟩,st',fun b hb=>(hf b hb).1⟩⟩
 done:=by
  intro X hP hw hK hc i pins s σ H E I hf st hg
  subst hP hw hK
  obtain ⟨f0,f1,f2,f3,f4,f5⟩:=hf it (by simp)
  exact wpAny_pyNext_range_end (I.ok.hd hc) st (by have:n≤i:=hg; omega) fun h' eb=>⟨rfl,I.turned (t':=s.toks) (fun b o hb e=>eb b o hb e) f0 f1 f3 f4 f5⟩
 self:=fun _ _ _ _ _ st h=>wpAny_pyIter_rangeiter st h
section
variable {X:Cx} {tg:Expr}
theorem uz {pins:List (Addr×Obj)} {σ:St} {H:Hp} {s:Shared} {R:It→Hp→Prop} {E:Value→Shared→Prop} {lo hi c:Int} {n:Nat} {t u v:Tok} {tk:Nat} (I:Inv X pins σ H s) (hs:Builtin.Range.small lo hi c=true) (hn:Builtin.Range.rangeSize lo hi c=(n:Int))
  (q:R (uk lo c n) H):wpAny (model X.prog X.w) X.A (pyIter (.ref s.heap.objs.size)) (PIE X pins σ tg R) E { s with heap:=s.heap.push { cls:=.type "range",data:=.fields #[.int lo t,.int hi u,.int c v] },toks:=tk }:=by
 refine wpAny_pyIter_range (IsRange.new ..) hs ?_
 have I1:Inv X pins σ H { s with heap:=s.heap.push { cls:=.type "range",data:=.fields #[.int lo t,.int hi u,.int c v] },toks:=tk }:=I.kept fun b o e=>Heap.get?_push_of_some _ e
 refine ⟨(s.heap.push { cls:=.type "range",data:=.fields #[.int lo t,.int hi u,.int c v] }).objs.size,[(s.heap.push { cls:=.type "range",data:=.fields #[.int lo t,.int hi u,.int c v] }).objs.size],_,_,H,rfl,
  I1.kept (t':=tk) fun b o e=>Heap.get?_push_of_some _ e,pZ _ lo c n,?_,fun b hb=>?_,q⟩
 ·have e1:lo+((0:Nat):Int) * c=lo:=by simp
  have e2:((n:Nat):Int) - ((0:Nat):Int)=Builtin.Range.rangeSize lo hi c:=by rw [hn]; omega
  show IsRangeIter _ _ (lo+((0:Nat):Int) * c) (((n:Nat):Int) - ((0:Nat):Int)) c
  rw [e1,e2]
  exact Heap.get?_push_size _ rfl
 ·have e:b=(s.heap.push { cls:=.type "range",data:=.fields #[.int lo t,.int hi u,.int c v] }).objs.size:=by simpa using hb
  subst e
  exact I1.fpOk (Nat.le_refl _) (I1.hok.fresh (Nat.le_refl _))
def Cp (ta:TA):TI:=fun σ H R=>ta σ H fun vs H1=>∃ (i j c:Int) (n:Nat),vs=[.int i,.int j,.int c]∧c≠0∧c.natAbs<1073741824∧Builtin.Range.small i j c=true∧Builtin.Range.rangeSize i j c=(n:Int)∧R (uk i c n) H1
theorem uN {a b c:Expr} {ta:TA} {p pos:Pos} (hg:Gl X "range") (hm:X.mg "range"=none) (ha:PA X [a,b,c] ta) (hs:starEach [a,b,c] X.env=[(false,eval a X.env),(false,eval b X.env),(false,eval c X.env)]:=by rfl) (hs2:starEach [b,c] X.env=[(false,eval b X.env),(false,eval c X.env)]:=by rfl) :
  PI X tg (.Call (.Name "range" p) [a,b,c] [] pos) (Cp ta):=by
 intro pins s σ H R I h
 refine Call_ (fL I hg hm boot_range (PyProof.Rows.callWith_type1 (thn (ha pos pins s σ H _ I h) fun us s1 ⟨vs,H1,I1,r1,q1⟩=>?_) (by rw [hs,hs2]) (by rw [hs2]; rfl)))
 obtain ⟨i,j,c,n,e,h0,hb,q1,q2,q⟩:=q1
 subst e
 cases r1 with
 | cons r rr =>
  cases rr with
  | cons r' rr =>
   cases rr with
   | cons r'' rr =>
    cases rr
    obtain ⟨t,rfl⟩:=r
    obtain ⟨t',rfl⟩:=r'
    obtain ⟨t'',rfl⟩:=r''
    exact call_range_3 h0 (uz I1 q1 q2 q) (Or.inl (PyProof.noPylong_small hb))
end
theorem qL {lo c:Int} {n:Nat} {g:TG} {tb:TS} {D:Ends} {σ:St} {H:Hp} (Pv:Nat→St→Hp→Prop) (h0:Pv 0 σ H)
  (hs:∀ i σ H,i<n→Pv i σ H→g (.int (lo+i * c)) σ H fun σ2 H2=>tb { D with nx:=Pv (i+1),ct:=Pv (i+1),bk:=D.nx } σ2 H2) (hd:∀ σ H,Pv n σ H→D.nx σ H) :
  ∃ W:Nat→Nat→St→Hp→Prop,(∃ m,W 0 m σ H)∧∀ i m σ H,W i m σ H→
   ((uk lo c n).stop i H∧D.nx σ H)∨((uk lo c n).go i H∧∃ N:St→Hp→Prop,(∀ σ' H',N σ' H'→∃ m',m'<m∧W (i+1) m' σ' H')∧∀ x H',(uk lo c n).yld i H x H'→g x σ H' fun σ2 H2=>tb { D with nx:=N,ct:=N,bk:=D.nx } σ2 H2):=by
 refine ⟨fun i m σ H=>m=n - i∧i≤n∧Pv i σ H,⟨n,by simp,Nat.zero_le _,h0⟩,?_⟩
 rintro i m σ H ⟨rfl,hi,p⟩
 by_cases hlt:i<n
 ·refine .inr ⟨hlt,Pv (i+1),fun σ' H' p'=>⟨n - (i+1),by omega,rfl,hlt,p'⟩,fun x H' y=>?_⟩
  obtain ⟨e,y⟩:=y
  subst e y
  exact hs i σ _ hlt p
 ·have e:i=n:=by omega
  subst e
  exact .inl ⟨Nat.le_refl _,hd σ H p⟩
theorem qa (xs:Array Nat):∀ (k:Nat) (acc:Array Nat),((List.replicate k xs).foldl (·++·) acc).size=acc.size+k * xs.size
 | 0,acc=>by simp
 | k+1,acc=>by
  rw [List.replicate_succ,List.foldl_cons,qa xs k,Array.size_append,Nat.succ_mul]
  omega
section
variable {X:Cx}
end
end L2
namespace L2
open PySem PySem.Spec PyProof.Rows
structure RoomH (k:Nat) (A:Around):Prop where
 dp:A.depth+3 * k+5<recursionLimit
 un:A.units+16 * k+200<cLine
structure FnOkH (P:Program) (w:World) (K:PySem.W.Frag) (mg:Str→Option Value) (base:Heap) (k:Nat) (f:Addr) (fd:FuncData) (ps:List Str) (sp:Sp):Prop where
 len:∀ vs H Q E,sp vs H Q E→vs.length=ps.length
 run:∀ (A:Around) (outer:List Env) (s:Shared) (H:Hp) (args:Args) (us:List Value) (vs:List V) (Q:VK) (E:XK),RoomH k A→Env0 P w K mg base A outer s H→BindsTo s fd args (ps.zip us)→Vals vs us→sp vs H Q E→
  codeAny (model P w) A (.call (.ref f) args) (CR CX0 outer P w H s Q E) s
abbrev Eg (P:Program) (w:World) (K:PySem.W.Frag) (mg:Str→Option Value) (base:Heap) (N:List Str) (qual:Str) (scope:Scope) (f:Addr) (cd:Value) (A:Around) (outer:List Env) (s:Shared) (H:Hp) (E:XK):Cx :=
 { fJ CX0 P w K mg base N qual scope f cd A outer s H E with calm:=false,xe:=fun _ _=>False }
section
variable {P:Program} {w:World} {K:PySem.W.Frag} {mg:Str→Option Value} {base:Heap}
end
structure CalH (P:Program) (w:World) (K:PySem.W.Frag) (mg:Str→Option Value) (base:Heap) (k:Nat) (x:Str) (ps:List Str) (sp:Sp):Prop where
 ex:∃ (f:Addr) (fd:FuncData),FnOkH P w K mg base k f fd ps sp∧Binds K fd ps []∧PySem.W.keepIn K (.ref f)=true∧mg x=some (.ref f)
section
variable {X:Cx} {k:Nat} {ps:List Str} {sp:Sp} {x:Str} {p pos:Pos} {e:Expr} {es:List Expr} {t:TA}
end
end L2
namespace L2
open PySem PySem.Spec PyProof.Rows
theorem fZ:∀ (l:List (Str×Tok)),Vals ((l.map (·.1)).map V.str) (strValues l)
 | []=>.nil
 | p::r=>.cons ⟨p.2,rfl⟩ (fZ r)
def Bl:V→List V→Hp→VK→Prop:=fun x vs H Q=>∃ z y,x=.str z∧vs=[.str y]∧(y.length == 0)=false∧z.length≤4000∧∀ p,H p=none→Q (.ref p) (upd H p (.lst ((Txt.split z y).map V.str)))
def B7:V→List V→Hp→VK→Prop:=fun x vs H Q=>∃ z y,x=.str z∧vs=[.str y]∧(y.length == 0)=false∧z.length≤4000∧∀ p,H p=none→Q (.ref p) (upd H p (.tup [.str (Txt.partition z y).1,.str (Txt.partition z y).2.1,.str (Txt.partition z y).2.2]))
def CS:V→List V→Hp→VK→Prop:=fun x vs H Q=>∃ z y,x=.str z∧vs=[.str y]∧Q (.bl (Txt.endswith z y)) H
section
variable {X:Cx}
theorem i9:MtM X "str.split" Bl:=by
 intro pins s σ H x vs v us Q I rx rv h
 obtain ⟨z,y,rfl,rfl,hy,hz,q⟩:=h
 obtain ⟨t,rfl⟩:=rx
 obtain ⟨u',rfl,u,rfl⟩:=rv.one
 have hsz:z.length+2≤sizeLine:=by rw [sizeLine_eq]; omega
 have key:∀ (l:List (Str×Tok)) (k:Nat),l.map (·.1)=Txt.split z y→EP X pins σ Q (.ref s.heap.objs.size) { s with heap:=s.heap.push { cls:=.type "list",data:=.seq (strValues l).toArray },toks:=k }:=fun l k e=>by
  have hv:=fZ l
  rw [e] at hv
  have hle:=split_le z y
  exact ⟨.ref _,_,I.lnew (t':=k) hv (by rw [List.length_map]; omega),rfl,q _ I.fresh⟩
 have hn:(Builtin.Str.partsBetween z (Builtin.Str.occurrences z y 0 z.length (z.length+1)) y.length).length≤sizeLine:=by
  have e1:=StrLaws.occ_length_le z y 0 z.length (z.length+1)
  rw [length_partsBetween]; omega
 cases h1:(decide (z.length<y.length) || decide (Builtin.Str.strKind z<Builtin.Str.strKind y))
 ·cases hf:(Builtin.Str.occurrences z y 0 z.length (z.length+1)).isEmpty
  ·refine call_meets F.slot_str_split (typeIs_str _ _ _) F.entry_str_split (F.args_str_split_2 _ _) (meets_str_split_sep z y t u h1 hy hf (by omega) hn) ?_
   rw [strsFrom_eq]
   exact key (numbered s.toks _) _ ((numbered_texts _ _).trans ((if_neg (ne_true_of_eq_false h1)).trans (if_neg (ne_true_of_eq_false hf))).symm)
  ·exact call_meets F.slot_str_split (typeIs_str _ _ _) F.entry_str_split (F.args_str_split_2 _ _) (meets_str_split_not_found z y t u h1 hy hf) (key [(z,t)] s.toks ((if_neg (ne_true_of_eq_false h1)).trans (if_pos hf)).symm)
 ·exact call_meets F.slot_str_split (typeIs_str _ _ _) F.entry_str_split (F.args_str_split_2 _ _) (meets_str_split_cannot_occur z y t u h1) (key [(z,t)] s.toks (if_pos h1).symm)
theorem nF:MtM X "str.partition" B7:=by
 intro pins s σ H x vs v us Q I rx rv h
 obtain ⟨z,y,rfl,rfl,hy,hz,q⟩:=h
 obtain ⟨t,rfl⟩:=rx
 obtain ⟨u',rfl,u,rfl⟩:=rv.one
 have key:∀ (a b c:Str) (ta tb tc:Tok) (k:Nat),(Txt.partition z y)=(a,b,c)→EP X pins σ Q (.ref s.heap.objs.size) { s with heap:=s.heap.push { cls:=.type "tuple",data:=.seq [Value.str a ta,.str b tb,.str c tc].toArray },toks:=k }:=fun a b c ta tb tc k e=>by
  rw [e] at q
  refine ⟨.ref _,_,I.laid (t':=k) (fun b o e=>Heap.get?_push_of_some _ e) (Nat.le_refl _) (show ObjOk X.prog X.w _ _ _ (.tup [.str a,.str b,.str c]) from ⟨by show 3≤sizeLine; decide,_,.cons ⟨ta,rfl⟩ (.cons ⟨tb,rfl⟩ (.cons ⟨tc,rfl⟩ .nil)),IsTup.new _ _⟩),rfl,q _ I.fresh⟩
 refine call_meets F.slot_str_partition (typeIs_str _ _ _) F.entry_str_partition (F.args_str_partition_2 _ _) (meets_str_partition z y t u hy (by rw [sizeLine_eq]; omega)) ?_
 have e:∀ r,r=Txt.partition z y→Txt.partition z y=r:=fun _ h=>h.symm
 unfold Txt.partition at e
 revert e
 cases eo:Builtin.Str.occurrences z y 0 z.length 1 with
 | nil=>intro e; exact key _ _ _ _ _ _ _ (by unfold Txt.partition; rw [eo])
 | cons i r=>intro e; exact key _ _ _ _ _ _ _ (by unfold Txt.partition; rw [eo])
theorem oP:MtM X "str.endswith" CS:=by
 intro pins s σ H x vs v us Q I rx rv h
 obtain ⟨z,y,rfl,rfl,q⟩:=h
 obtain ⟨t,rfl⟩:=rx
 obtain ⟨u',rfl,u,rfl⟩:=rv.one
 exact SC.endswith ⟨.bl _,H,I,rfl,q⟩
theorem cj:cW X (.type "int") (fun xs H Q=>∃ z n,xs=[.str z]∧z.length≤640∧PySem.intText? z=some n∧Q (.int n) H):=by
 intro pins s σ H xs us Q I r h
 obtain ⟨z,n,rfl,hl,hn,q⟩:=h
 obtain ⟨u,rfl,t,rfl⟩:=vals1 r
 exact W.KIN.call_text hn hl ⟨.int n,H,I.tok _,⟨_,rfl⟩,q⟩
def EF (ta:TE):TE:=fun σ H Q=>ta σ H fun x H1=>(∃ y,x=.str y∧y.length≤1000∧Q (.str y) H1)∨∃ i:Int,x=.int i∧i.natAbs.log2<1920∧Q (.str (toString i)) H1
def PJ (X:Cx) (es:List Expr) (tj:Str→TE):Prop:=∀ (out:Str) (pins:List (Addr×Obj)) (s:Shared) (σ:St) (H:Hp) (Q:VK),Inv X pins σ H s→tj out σ H Q→wpAny (model X.prog X.w) X.A (joinParts out (evalEach es X.env)) (EP X pins σ Q) X.xe s
def Er:Str→TE:=fun out _ H Q=>out.length≤1000∧Q (.str out) H
def Dr (te:TE) (tj:Str→TE):Str→TE:=fun out σ H Q=>te σ H fun x H1=>∃ y,x=.str y∧(out++y).length≤1000∧tj (out++y) σ H1 Q
end
end L2
namespace L2
open PySem PySem.Spec PyProof.Rows
section
variable {X:Cx} {CX:CXT} {k:Nat} {f:Addr} {fd:FuncData} {ps:List Str} {sp:Sp} {dvs:List V} {ds:List Value} {E:XK} {m:Str} {pos apos:Pos} {o:Expr} {ta:TE}
end
end L2
namespace L2
open PySem PySem.Spec PyProof.Rows
def jn (c:Nat):List (List Nat)→List Nat
 | []=>[]
 | [x]=>x
 | x::y::r=>x++c::jn c (y::r)
theorem m4 {c:Nat}:∀ {x y r s:List Nat},c∉x→c∉y→x++c::r=y++c::s→x=y∧r=s
 | [],[],_,_,_,_,h=>⟨rfl,(List.cons.inj h).2⟩
 | [],b::y,_,_,_,hy,h=>absurd ((List.cons.inj h).1▸List.mem_cons_self) hy
 | a::x,[],_,_,hx,_,h=>absurd ((List.cons.inj h).1▸List.mem_cons_self) hx
 | a::x,b::y,r,s,hx,hy,h=>by
  have h':a::(x++c::r)=b::(y++c::s):=h
  obtain ⟨e,h2⟩:=List.cons.inj h'
  obtain ⟨e1,e2⟩:=m4 (fun z=>hx (List.mem_cons_of_mem _ z)) (fun z=>hy (List.mem_cons_of_mem _ z)) h2
  exact ⟨by rw [e,e1],e2⟩
theorem xF {c:Nat}:∀ {xs ys:List (List Nat)},xs≠[]→ys≠[]→(∀ x∈xs,c∉x)→(∀ y∈ys,c∉y)→jn c xs=jn c ys→xs=ys
 | [],_,h,_,_,_,_=>absurd rfl h
 | _,[],_,h,_,_,_=>absurd rfl h
 | [x],[y],_,_,_,_,h=>by
  have h':x=y:=h
  rw [h']
 | [x],y::z::r,_,_,hx,_,h=>by
  have h':x=y++c::jn c (z::r):=h
  exact absurd (by rw [h']; exact List.mem_append_right _ List.mem_cons_self) (hx x List.mem_cons_self)
 | x::z::r,[y],_,_,_,hy,h=>by
  have h':x++c::jn c (z::r)=y:=h
  exact absurd (by rw [← h']; exact List.mem_append_right _ List.mem_cons_self) (hy y List.mem_cons_self)
 | x::z::r,y::w::s,_,_,hx,hy,h=>by
  obtain ⟨e1,e2⟩:=m4 (hx x List.mem_cons_self) (hy y List.mem_cons_self) (show x++c::jn c (z::r)=y++c::jn c (w::s) from h)
  rw [e1,xF (List.cons_ne_nil _ _) (List.cons_ne_nil _ _) (fun a ha=>hx a (List.mem_cons_of_mem _ ha)) (fun a ha=>hy a (List.mem_cons_of_mem _ ha)) e2]
theorem cQ {a b:Str} (h:a.cps.toList=b.cps.toList):a=b:=Str.ext' (Array.toList_inj.mp h)
theorem br (a b:Str):(a++b).cps.toList=a.cps.toList++b.cps.toList:=by
 show (a.cps++b.cps).toList=_
 rw [Array.toList_append]
theorem ie (c:Nat):∀ xs:List Str,(Str.join ⟨#[c]⟩ xs).cps.toList=jn c (xs.map fun x=>x.cps.toList)
 | []=>rfl
 | [x]=>rfl
 | x::y::r=>by
  have ih:=ie c (y::r)
  show (x++(⟨#[c]⟩:Str)++Str.join ⟨#[c]⟩ (y::r)).cps.toList=_
  rw [br,br,ih]
  show x.cps.toList++[c]++_=x.cps.toList++c::_
  rw [List.append_assoc]
  rfl
theorem nB (c:Nat) (xs:List Str):(Txt.join ⟨#[c]⟩ xs).cps.toList=jn c (xs.map fun x=>x.cps.toList):=by
 show (Builtin.Str.glued ⟨#[c]⟩ xs).cps.toList=_
 rw [StrLaws.glued_eq_join,ie]
theorem j9:∀ {xs ys:List Str},(xs.map fun x=>x.cps.toList)=(ys.map fun x=>x.cps.toList)→xs=ys
 | [],[],_=>rfl
 | [],_::_,h=>by cases h
 | _::_,[],h=>by cases h
 | x::xs,y::ys,h=>by
  obtain ⟨e1,e2⟩:=List.cons.inj h
  rw [cQ e1,j9 e2]
theorem dB {c:Nat} {parts:List Str} {z:Str} (hz:z.cps.toList=jn c (parts.map fun x=>x.cps.toList)) (hne:parts≠[]) (hf:∀ p∈parts,c∉p.cps.toList):Txt.split z ⟨#[c]⟩=parts:=by
 have h1:=StrLaws.join_split z ⟨#[c]⟩
 have h2:=StrLaws.split_free z c
 have h3:=split_pos z ⟨#[c]⟩
 have e:=congrArg (fun s:Str=>s.cps.toList) h1
 rw [ie,hz] at e
 refine j9 (xF (c:=c) (fun q=>?_) (fun q=>hne (List.map_eq_nil_iff.mp q)) ?_ ?_ e)
 ·rw [List.map_eq_nil_iff.mp q] at h3
  exact absurd h3 (by decide)
 ·intro x hx
  obtain ⟨p,hp,rfl⟩:=List.mem_map.mp hx
  exact h2 p hp
 ·intro x hx
  obtain ⟨p,hp,rfl⟩:=List.mem_map.mp hx
  exact hf p hp
theorem mr {c:Nat} {a b z:Str} (hz:z.cps.toList=a.cps.toList++c::b.cps.toList) (ha:c∉a.cps.toList):Txt.partition z ⟨#[c]⟩=(a,⟨#[c]⟩,b):=by
 have la:=bq a
 have lb:=bq b
 have lz:=bq z
 rw [hz,List.length_append,List.length_cons] at lz
 have hat:z.cps.toList[a.length]?=some c:=by
  rw [hz,← la,List.getElem?_append_right (Nat.le_refl _),Nat.sub_self]
  rfl
 unfold Txt.partition
 rcases StrLaws.occ_head z ⟨#[c]⟩ 1 (Nat.le_refl _) with ⟨_,h2⟩ | ⟨i,r,h1,h2,h3⟩
 ·exact absurd ((StrLaws.subAt_one z c a.length).mpr hat) (h2 a.length)
 ·have hi:=(StrLaws.subAt_one z c i).mp h2
  have e:i=a.length:=by
   refine Classical.byContradiction fun ne=>?_
   by_cases hl:i<a.length
   ·rw [hz,List.getElem?_append_left (by omega)] at hi
    exact ha (List.mem_of_getElem? hi)
   ·exact h3 a.length (by omega) ((StrLaws.subAt_one z c a.length).mpr hat)
  subst e
  rw [h1]
  show (Builtin.Str.strSub z 0 a.length,(⟨#[c]⟩:Str),Builtin.Str.strSub z (a.length+1) z.length)=_
  have e1:Builtin.Str.strSub z 0 a.length=a:=cQ (by rw [StrLaws.strSub_toList,hz,List.drop_zero,Nat.sub_zero,← la,List.take_left'] ; rfl)
  have e2:Builtin.Str.strSub z (a.length+1) z.length=b:=cQ (by
   rw [StrLaws.strSub_toList,hz]
   have:List.drop (a.length+1) (a.cps.toList++c::b.cps.toList)=b.cps.toList:=by
    rw [← la,List.drop_append]
    simp
   rw [this]
   exact List.take_of_length_le (by omega))
  rw [e1,e2]
theorem ug {c:Nat} {a z:Str} (hz:z.cps.toList=a.cps.toList++[c]):Txt.endswith z ⟨#[c]⟩=true:=by
 have la:=bq a
 have lz:=bq z
 rw [hz,List.length_append] at lz
 have lz':a.cps.toList.length+1=z.length:=lz
 have h:=(StrLaws.subAt_one z c a.length).mpr (by rw [hz,← la,List.getElem?_append_right (Nat.le_refl _),Nat.sub_self]; rfl)
 unfold Txt.endswith
 rw [Bool.and_eq_true]
 refine ⟨decide_eq_true (by show 0+1≤z.length; omega),?_⟩
 have e:z.length - (⟨#[c]⟩:Str).length=a.length:=by show z.length - 1=_; omega
 rw [e]
 exact h.2
theorem xI {c:Nat} {z:Str} (h:c∉z.cps.toList):Txt.endswith z ⟨#[c]⟩=false:=by
 rw [Bool.eq_false_iff]
 intro q
 unfold Txt.endswith at q
 rw [Bool.and_eq_true] at q
 have q1:0+1≤z.length:=of_decide_eq_true q.1
 have:=(StrLaws.subAt_one z c (z.length - 1)).mp ⟨by show z.length - 1+1≤z.length; omega,q.2⟩
 exact h (List.mem_of_getElem? this)
theorem qv {c:Nat} {a z:Str} (hz:z.cps.toList=a.cps.toList++[c]):Txt.slice z none (some (-1))=a:=by
 refine cQ ?_
 rw [nq,hz]
 unfold yM
 rw [HT.fD,List.drop_zero]
 have e:HT.sIx (a.cps.toList++[c]).length (a.cps.toList++[c]).length (some (-1))=a.cps.toList.length:=by
  show ((-1:Int)+(((a.cps.toList++[c]).length:Nat):Int)).toNat=_
  rw [List.length_append]
  show ((-1:Int)+((a.cps.toList.length+1:Nat):Int)).toNat=_
  omega
 rw [e,Nat.sub_zero]
 exact List.take_left'  rfl
def aK (n:Int):Str:=toString n
def dg (n:Nat):List Nat:=(Nat.toDigits 10 n).map Char.toNat
theorem tm:∀ n,n<1001→((dg n).all fun c=>decide (48≤c) && decide (c≤57))=true∧1≤(dg n).length∧(dg n).length≤4∧(dg n=[48]∨(dg n)[0]?≠some 48):=by decide +kernel
theorem jc (n:Nat):(aK (n:Int)).cps.toList=dg n:=W.KIN.signs_num n
theorem iT {n:Nat} (h:n<1001):∀ c∈(aK (n:Int)).cps.toList,48≤c∧c≤57:=fun c hc=>by
 rw [jc] at hc
 have:=List.all_eq_true.mp (tm n h).1 c hc
 rw [Bool.and_eq_true] at this
 exact ⟨of_decide_eq_true this.1,of_decide_eq_true this.2⟩
theorem bZ {n:Nat} (h:n<1001):1≤(aK (n:Int)).length∧(aK (n:Int)).length≤4:=by
 rw [← bq,jc]
 exact ⟨(tm n h).2.1,(tm n h).2.2.1⟩
theorem cV {n:Nat} (h:n<1001):PySem.intText? (aK (n:Int))=some (n:Int):=W.KIN.num_reads (by omega) (by
 have:(n:Int)<1001:=by omega
 exact Int.lt_of_lt_of_le this (by decide))
end L2
namespace L2
open PySem PySem.Spec PyProof.Rows
def Eo (p:Nat→Bool) (i:Nat) (r:Option Nat):Id (ForInStep (Option Nat)):=if p i then pure (ForInStep.yield (some i)) else pure (ForInStep.yield r)
section
variable {X:Cx}
def DE:V→List V→Hp→VK→Prop:=fun x vs H Q=>∃ z y,x=.str z∧vs=[.str y]∧(y.length == 0)=false∧z.length≤4000∧∀ p,H p=none→Q (.ref p) (upd H p (.tup [.str (Txt.rpartition z y).1,.str (Txt.rpartition z y).2.1,.str (Txt.rpartition z y).2.2]))
end
end L2
namespace L2
open PySem PySem.Spec PyProof.Rows
def CH (K:PySem.W.Frag) (H:Hp) (u:V):Prop:=u=.non∨∃ p ys,u=.ref p∧SqT K H p ys
def isN:V→Bool
 | .non=>true
 | _=>false
def EX (K:PySem.W.Frag):R2:=fun x y H Q=>x=.non∧∃ p xs,y=.ref p∧(SqL K H p xs∨SqT K H p xs)∧(∀ u∈xs,CH K H u)∧Q (.bl (xs.any isN)) H
section
variable {X:Cx}
def Dh (K:PySem.W.Frag):V→List V→Hp→VK→Prop:=fun x vs H Q=>∃ (l:Addr) (xs:List V) (j:Nat),x=.ref l∧vs=[.non]∧H l=some (.lst xs)∧xs.length≤1000∧(∀ u∈xs,CH K H u)∧xs[j]?=some .non∧(∀ i,i<j→xs[i]?≠some .non)∧Q (.int j) H
end
end L2
namespace L2
open PySem PySem.Spec PyProof.Rows
section
variable {κ:Type} [DecidableEq κ]
def bQ (kvs:List (κ×V)) (k:κ):Option V:=(kvs.find? fun kv=>decide (kv.1=k)).map (·.2)
def putK (kvs:List (κ×V)) (k:κ) (v:V):List (κ×V) :=
 if (kvs.any fun kv=>decide (kv.1=k))=true then kvs.map (fun kv=>if kv.1=k then (kv.1,v) else kv) else kvs++[(k,v)]
def dU (kvs:List (κ×V)) (k:κ):List (κ×V):=kvs.filter fun kv=>decide (kv.1≠k)
theorem cq {p:κ×V} {r:List (κ×V)} {k:κ} (e:p.1=k):bQ (p::r) k=some p.2:=by simp [bQ,List.find?_cons,e]
theorem cb {p:κ×V} {r:List (κ×V)} {k:κ} (e:¬ p.1=k):bQ (p::r) k=bQ r k:=by simp [bQ,List.find?_cons,e]
theorem jg (k:κ):∀ kvs:List (κ×V),(kvs.any fun kv=>decide (kv.1=k))=(bQ kvs k).isSome
 | []=>rfl
 | p::r=>by
  rw [List.any_cons]
  by_cases e:p.1=k
  ·simp only [cq e,decide_eq_true e,Bool.true_or,Option.isSome_some]
  ·rw [cb e,decide_eq_false e,Bool.false_or]; exact jg k r
theorem pR (k j:κ) (y:V):∀ kvs:List (κ×V),bQ (kvs.map fun kv=>if kv.1=k then (kv.1,y) else kv) j=(bQ kvs j).map fun x=>if j=k then y else x
 | []=>rfl
 | p::r=>by
  have ih:=pR k j y r
  rw [List.map_cons]
  by_cases h:p.1=k
  ·rw [if_pos h]
   by_cases e:p.1=j
   ·rw [cq (p:=(p.1,y)) e,cq e,Option.map_some,if_pos (e.symm.trans h)]
   ·rw [cb (p:=(p.1,y)) e,cb e,ih]
  ·rw [if_neg h]
   by_cases e:p.1=j
   ·rw [cq (p:=p) e,cq e,Option.map_some,if_neg (fun z=>h (e.trans z))]
   ·rw [cb (p:=p) e,cb e,ih]
theorem m9 (k j:κ) (y:V):∀ kvs:List (κ×V),bQ kvs k=none→bQ (kvs++[(k,y)]) j=if j=k then some y else bQ kvs j
 | [],_=>by
  by_cases e:k=j
  ·rw [if_pos e.symm]; exact cq (p:=(k,y)) e
  ·rw [if_neg (fun z=>e z.symm)]; exact cb (p:=(k,y)) e
 | p::r,hn=>by
  rw [List.cons_append]
  have hk:¬ p.1=k:=fun z=>by rw [cq z] at hn; cases hn
  rw [cb hk] at hn
  have ih:=m9 k j y r hn
  by_cases e:p.1=j
  ·rw [cq e,cq e,if_neg (fun z=>hk (e.trans z))]
  ·rw [cb e,cb e,ih]
theorem pK (kvs:List (κ×V)) (k j:κ) (y:V):bQ (putK kvs k y) j=if j=k then some y else bQ kvs j:=by
 unfold putK
 by_cases a:(kvs.any fun kv=>decide (kv.1=k))=true
 ·rw [if_pos a,pR]
  rw [jg] at a
  by_cases e:j=k
  ·obtain ⟨x,hx⟩:=Option.isSome_iff_exists.mp a
   rw [if_pos e,e,hx,Option.map_some,if_pos rfl]
  ·rw [if_neg e]
   cases bQ kvs j with
   | none=>rfl
   | some x=>rw [Option.map_some,if_neg e]
 ·rw [if_neg a]
  refine m9 k j y kvs ?_
  rw [jg] at a
  cases q:bQ kvs k with
  | none=>rfl
  | some x=>rw [q] at a; exact (a rfl).elim
theorem cG (kvs:List (κ×V)) (k:κ) (v:V):(putK kvs k v).length≤kvs.length+1:=by
 unfold putK
 split
 ·rw [List.length_map]; omega
 ·rw [List.length_append,List.length_cons,List.length_nil]; omega
theorem RelO.isSome_eq {o:Option V} {u:Option Value} (r:RelO o u):o.isSome=u.isSome:=by
 cases o with
 | none=>cases u with
  | none=>rfl
  | some _=>exact (show False from r).elim
 | some _=>cases u with
  | none=>exact (show False from r).elim
  | some _=>rfl
theorem KV.val {kvs:List (κ×V)} {vs:List (κ×Value)} (r:KV kvs vs) (k:κ):RelO (bQ kvs k) (valueAt vs k):=by
 unfold KV at r
 induction r with
 | nil=>exact True.intro
 | @cons p q ps qs h t ih =>
  obtain ⟨h1,h2⟩:=h
  by_cases e:p.1=k
  ·have e':q.1=k:=h1.symm.trans e
   have b:valueAt (q::qs) k=some q.2:=by simp [valueAt,List.find?_cons,e']
   rw [cq e,b]; exact h2
  ·have e':¬ q.1=k:=fun z=>e (h1.trans z)
   have b:valueAt (q::qs) k=valueAt qs k:=by simp [valueAt,List.find?_cons,e']
   rw [cb e,b]; exact ih
theorem KV.any {kvs:List (κ×V)} {vs:List (κ×Value)} (r:KV kvs vs) (k:κ):(kvs.any fun kv=>decide (kv.1=k))=vs.any fun kv=>decide (kv.1=k):=by
 unfold KV at r
 induction r with
 | nil=>rfl
 | cons h t ih=>rw [List.any_cons,List.any_cons,ih,h.1]
theorem KV.repl {kvs:List (κ×V)} {vs:List (κ×Value)} (r:KV kvs vs) (k:κ) {y:V} {u:Value} (ry:RelV y u) :
  KV (kvs.map fun kv=>if kv.1=k then (kv.1,y) else kv) (vs.map fun kv=>if kv.1=k then (kv.1,u) else kv):=by
 unfold KV at r ⊢
 induction r with
 | nil=>exact .nil
 | @cons p q ps qs h t ih =>
  rw [List.map_cons,List.map_cons]
  refine .cons ?_ ih
  obtain ⟨h1,h2⟩:=h
  by_cases e:p.1=k
  ·rw [if_pos e,if_pos (h1.symm.trans e)]; exact ⟨h1,ry⟩
  ·rw [if_neg e,if_neg (fun z=>e (h1.trans z))]; exact ⟨h1,h2⟩
theorem KV.put {kvs:List (κ×V)} {vs:List (κ×Value)} (r:KV kvs vs) (k:κ) {y:V} {u:Value} (ry:RelV y u):KV (putK kvs k y) (stored vs k u):=by
 unfold putK stored
 rw [r.any k]
 by_cases e:(vs.any fun kv=>decide (kv.1=k))=true
 ·rw [if_pos e,if_pos e]; exact r.repl k ry
 ·rw [if_neg e,if_neg e]; exact Paired.snoc r ⟨rfl,ry⟩
theorem KV.drop {kvs:List (κ×V)} {vs:List (κ×Value)} (r:KV kvs vs) (k:κ):KV (dU kvs k) (without vs k):=by
 unfold KV at r ⊢
 unfold dU without
 induction r with
 | nil=>exact .nil
 | @cons p q ps qs h t ih =>
  obtain ⟨h1,h2⟩:=h
  rw [List.filter_cons,List.filter_cons]
  by_cases e:p.1=k
  ·have a:¬ decide (p.1≠k)=true:=by simp [e]
   have b:¬ decide (q.1≠k)=true:=by simp [h1.symm.trans e]
   rw [if_neg a,if_neg b]; exact ih
  ·have e':¬ q.1=k:=fun z=>e (h1.trans z)
   have a:decide (p.1≠k)=true:=by simp [e]
   have b:decide (q.1≠k)=true:=by simp [e']
   rw [if_pos a,if_pos b]; exact .cons ⟨h1,h2⟩ ih
theorem KV.length {kvs:List (κ×V)} {vs:List (κ×Value)} (r:KV kvs vs):kvs.length=vs.length:=Paired.length r
theorem pw (kvs:List (κ×V)) (k:κ):(dU kvs k).length≤kvs.length:=List.length_filter_le _ _
end
theorem j3 {P:Program} {w:World} {k:Key} {u:Value} (r:RelV (kV k) u):(bH P w).is k u=true:=by
 cases k with
 | inl i=>obtain ⟨t,e⟩:=(show ∃ t,u=Value.int i t from r); subst e; exact pq P w i t
 | inr x=>obtain ⟨t,e⟩:=(show ∃ t,u=Value.str x t from r); subst e; exact j1 P w x t
theorem mz {P:Program} {w:World}:∀ {ks:List Key} {us:List Value},Vals (ks.map kV) us→ItemsAre (bH P w) ks us
 | [],_,r=>by rw [List.map_nil] at r; cases r; exact .nil
 | k::ks,_,r=>by
  rw [List.map_cons] at r
  cases r with
  | cons h t=>exact .cons (j3 h) (mz t)
abbrev KT (H:Hp):List (List Key×V)→List (List Key×Addr×Value)→Prop:=Paired fun p q=>p.1=q.1∧H q.2.1=some (.tup (p.1.map kV))∧RelV p.2 q.2.2
theorem KT.val {H:Hp} {kvs:List (List Key×V)} {xs:List (List Key×Addr×Value)} (r:KT H kvs xs) (k:List Key):RelO (bQ kvs k) ((atKey xs k).map (·.2)):=by
 induction r with
 | nil=>exact True.intro
 | @cons p q ps qs h t ih =>
  obtain ⟨h1,_,h2⟩:=h
  by_cases e:p.1=k
  ·have e':q.1=k:=h1.symm.trans e
   have b:atKey (q::qs) k=some q.2:=by simp [atKey,List.find?_cons,e']
   rw [cq e,b]; exact h2
  ·have e':¬ q.1=k:=fun z=>e (h1.trans z)
   have b:atKey (q::qs) k=atKey qs k:=by simp [atKey,List.find?_cons,e']
   rw [cb e,b]; exact ih
theorem KT.repl {H:Hp} {kvs:List (List Key×V)} {xs:List (List Key×Addr×Value)} (r:KT H kvs xs) (k:List Key) {y:V} {u:Value} (ry:RelV y u) :
  KT H (kvs.map fun kv=>if kv.1=k then (kv.1,y) else kv) (xs.map (putAt k u)):=by
 induction r with
 | nil=>exact .nil
 | @cons p q ps qs h t ih =>
  rw [List.map_cons,List.map_cons]
  refine .cons ?_ ih
  obtain ⟨h1,h2,h3⟩:=h
  unfold putAt
  by_cases e:p.1=k
  ·rw [if_pos e,if_pos (h1.symm.trans e)]; exact ⟨h1,h2,ry⟩
  ·rw [if_neg e,if_neg (fun z=>e (h1.trans z))]; exact ⟨h1,h2,h3⟩
theorem KT.put {H:Hp} {kvs:List (List Key×V)} {xs:List (List Key×Addr×Value)} (r:KT H kvs xs) (k:List Key) {b:Addr} {y:V} {u:Value} (hb:H b=some (.tup (k.map kV))) (ry:RelV y u) :
  KT H (putK kvs k y) (storedH xs k b u):=by
 have e:(kvs.any fun kv=>decide (kv.1=k))=(atKey xs k).isSome:=by
  rw [jg,(r.val k).isSome_eq,Option.isSome_map]
 unfold putK storedH
 rw [e]
 by_cases q:(atKey xs k).isSome=true
 ·rw [if_pos q,if_pos q]; exact r.repl k ry
 ·rw [if_neg q,if_neg q]; exact Paired.snoc r ⟨rfl,hb,ry⟩
theorem KT.keeps {H H':Hp} {kvs:List (List Key×V)} {xs:List (List Key×Addr×Value)} (r:KT H kvs xs) (ht:∀ b ys,H b=some (.tup ys)→H' b=some (.tup ys)):KT H' kvs xs :=
 Paired.mapP r fun _ _ z=>⟨z.1,ht _ _ z.2.1,z.2.2⟩
section
variable {P:Program} {w:World} {H:Hp} {h:Heap} {a:Addr}
theorem Aq {u:HO} (ok:HOk P w H h) (e:Rd H a u):ObjOk P w H h a u:=e.ok ok
theorem pe {kvs:List (Key×V)} (ok:HOk P w H h) (e:Rd H a (.dK kvs)):kvs.length≤sizeLine∧(a == sysModules)=false∧∃ vs,KV kvs vs∧h.DictOf (bH P w) a vs :=
 show ObjOk P w H h a (.dK kvs) from Aq ok e
theorem xp {kvs:List (Key×V)} (ok:HOk P w H h) (e:H a=some (.dK kvs)):kvs.length≤sizeLine∧(a == sysModules)=false∧∃ vs,KV kvs vs∧h.DictOf (bH P w) a vs:=pe ok (.inl e)
theorem nK {ks:List Key} (ok:HOk P w H h) (e:H a=some (.tup (ks.map kV))):(tupleKind (bH P w)).is h ks a:=by
 obtain ⟨_,its,r,o,h1,h2,n,h3⟩:=(show ObjOk P w H h a (.tup (ks.map kV)) from ok a _ e)
 exact ⟨o,its.toArray,n,h1,h2,h3,by simpa using mz r⟩
theorem qt {kvs:List (List Key×V)} (ok:HOk P w H h) (e:Rd H a (.dT kvs)):kvs.length≤sizeLine∧(a == sysModules)=false∧
  ∃ xs,KT H kvs xs∧h.DictOfH (tupleKind (bH P w)) a xs:=by
 obtain ⟨z,y,xs,r,o,es,ep,h1,h2,h3,h4,h5⟩:=(show ObjOk P w H h a (.dT kvs) from Aq ok e)
 refine ⟨z,y,xs,r,o,es,ep,h1,h2,h3,h4,fun x hx=>?_,h5⟩
 have all:∀ {l:List (List Key×V)} {m:List (List Key×Addr×Value)},KT H l m→∀ x∈m,(tupleKind (bH P w)).is h x.1 x.2.1:=by
  intro l m q
  induction q with
  | nil=>intro x hx; exact nomatch hx
  | @cons p q ps qs hq t ih =>
   intro x hx
   rcases List.mem_cons.mp hx with e | hx
   ·subst e
    exact nK ok (by rw [← hq.1]; exact hq.2.1)
   ·exact ih x hx
 exact all r x hx
theorem CV {kvs:List (List Key×V)} (ok:HOk P w H h) (e:H a=some (.dT kvs)):kvs.length≤sizeLine∧(a == sysModules)=false∧
  ∃ xs,KT H kvs xs∧h.DictOfH (tupleKind (bH P w)) a xs:=qt ok (.inl e)
end
def DGet (H:Hp) (a:Addr) (y:V) (r:Option V):Prop :=
 (∃ kvs k,Rd H a (.dK kvs)∧y=kV k∧r=bQ kvs k)∨∃ kvs k b,Rd H a (.dT kvs)∧y=.ref b∧H b=some (.tup (k.map kV))∧r=bQ kvs k
def DPut (H:Hp) (a:Addr) (y v:V) (H':Hp):Prop :=
 (∃ kvs k,H a=some (.dK kvs)∧y=kV k∧kvs.length<sizeLine∧H'=upd H a (.dK (putK kvs k v)))∨
 ∃ kvs k b,H a=some (.dT kvs)∧y=.ref b∧H b=some (.tup (k.map kV))∧kvs.length<sizeLine∧H'=upd H a (.dT (putK kvs k v))
theorem DGet.k {H:Hp} {a:Addr} {kvs:List (Key×V)} {k:Key} (e:H a=some (.dK kvs)):DGet H a (kV k) (bQ kvs k):=.inl ⟨kvs,k,.inl e,rfl,rfl⟩
theorem DPut.k {H:Hp} {a:Addr} {kvs:List (Key×V)} {k:Key} {v:V} (e:H a=some (.dK kvs)) (hl:kvs.length<sizeLine):DPut H a (kV k) v (upd H a (.dK (putK kvs k v))):=.inl ⟨kvs,k,e,rfl,hl,rfl⟩
section
variable {X:Cx} {pins:List (Addr×Obj)} {σ:St} {H:Hp} {s:Shared} {a:Addr} {y v:V} {u r:Value} {o:Option V} {A:Around} {E:Value→Shared→Prop}
theorem Inv.big (I:Inv X pins σ H s):sysModules<s.heap.objs.size:=by
 have h:mainGlobals<s.heap.objs.size:=(I.mod.glob.keeps I.bk).lt
 exact Nat.lt_trans (by decide) h
theorem vD {Q:Value→Shared→Prop} (hu:A.units+1<cLine) (I:Inv X pins σ H s) (g:DGet H a y (some v)) (ry:RelV y u) (h:∀ w' s',Inv X pins σ H s'→RelV v w'→Q w' s') :
  wpAny (model X.prog X.w) A (getItem (.ref a) u) Q E s:=by
 rcases g with ⟨kvs,k,e,ey,l⟩ | ⟨kvs,k,b,e,ey,eb,l⟩
 ·subst ey
  obtain ⟨z,hd,vs,rel,dd⟩:=pe I.hok e
  obtain ⟨w',hw,rw'⟩:=RelO.some_of (v:=v) (o:=valueAt vs k) (by rw [l]; exact rel.val k)
  exact wpAny_getItem_of (j3 ry) dd.mapOf hw (h w' _ (I.tok _) rw')
 ·subst ey
  cases (show u=Value.ref b from ry)
  obtain ⟨z,hd,xs,rel,dd⟩:=qt I.hok e
  obtain ⟨w',hw,rw'⟩:=RelO.some_of (v:=v) (o:=(atKey xs k).map (·.2)) (by rw [l]; exact rel.val k)
  obtain ⟨p,hp,hp2⟩:=Option.map_eq_some_iff.mp hw
  refine wpAny_getItem_heap (tupleKind_room_in1 hu) (nK I.hok eb) dd hp ?_
  rw [hp2]
  exact h w' _ (I.tok _) rw'
theorem zj {Q:Value→Shared→Prop} (hu:A.units+1<cLine) (I:Inv X pins σ H s) (g:DGet H a y o) (ry:RelV y u) (h:∀ s',Inv X pins σ H s'→Q (.bool (!o.isSome)) s') :
  wpAny (model X.prog X.w) A (compareOp .NotIn u (.ref a)) Q E s:=by
 rcases g with ⟨kvs,k,e,ey,l⟩ | ⟨kvs,k,b,e,ey,eb,l⟩
 ·subst ey
  obtain ⟨z,hd,vs,rel,dd⟩:=pe I.hok e
  refine wpAny_notIn_of (j3 ry) hd dd.mapOf ?_
  rw [← (rel.val k).isSome_eq,← l]
  exact h _ (I.tok _)
 ·subst ey
  cases (show u=Value.ref b from ry)
  obtain ⟨z,hd,xs,rel,dd⟩:=qt I.hok e
  refine wpAny_notIn_heap (tupleKind_room_in1 hu) (nK I.hok eb) hd dd ?_
  have q:=(rel.val k).isSome_eq
  rw [Option.isSome_map] at q
  rw [← q,← l]
  exact h _ (I.tok _)
theorem ky {h':Heap} {t':Nat} {ob:HO} (I:Inv X pins σ H s) (mu:Mut (H a)) (hs:Heap.SameBut a s.heap h') (he:∃ q,h'.get? a=some q) (new:ObjOk X.prog X.w (upd H a ob) h' a ob) :
  Inv X pins σ (upd H a ob) { s with heap:=h',toks:=t' } :=
 I.write (x:=a) (e:=a) mu (.inl rfl) (fun b q hb z=>(hs.2 b hb).trans z) he new
theorem rL {P:Program} {w:World} {H':Hp} {h':Heap} {kvs:List (Key×V)} {vs:List (Key×Value)} (z:kvs.length≤sizeLine) (hd:(a == sysModules)=false) (rel:KV kvs vs) (dd:h'.DictOf (bH P w) a vs) :
  ObjOk P w H' h' a (.dK kvs):=⟨z,hd,vs,rel,dd⟩
theorem uY {H':Hp} {Q:Unit→Shared→Prop} (hu:A.units+1<cLine) (I:Inv X pins σ H s) (g:DPut H a y v H') (ry:RelV y u) (rv:RelV v r) (h:∀ s',Inv X pins σ H' s'→Q () s') :
  wpAny (model X.prog X.w) A (setItem (.ref a) u r) Q E s:=by
 rcases g with ⟨kvs,k,e,ey,l,eH⟩ | ⟨kvs,k,b,e,ey,eb,l,eH⟩
 ·subst ey eH
  obtain ⟨z,hd,vs,rel,dd⟩:=xp I.hok e
  have hz:vs.length≤sizeLine:=by rw [← rel.length]; exact z
  have hl:(putK kvs k v).length≤sizeLine:=by have:=cG kvs k v; omega
  refine wpAny_setItem_pairs (hsz:=hz) (j3 ry) dd fun h' dd' hs=>h _ ?_
  have he:∃ q,h'.get? a=some q:=let ⟨q,_,_,hq,_⟩:=dd'; ⟨q,hq⟩
  exact ky I (by rw [e]; exact True.intro) hs he (rL hl hd (rel.put k rv) dd')
 ·subst ey eH
  cases (show u=Value.ref b from ry)
  obtain ⟨z,hd,xs,rel,dd⟩:=CV I.hok e
  have hz:xs.length≤sizeLine:=by rw [← Paired.length rel]; exact z
  have hl:(putK kvs k v).length≤sizeLine:=by have:=cG kvs k v; omega
  refine wpAny_setItem_heap (hsz:=hz) (tupleKind_room_in1 hu) (nK I.hok eb) dd fun h' dd' hs=>h _ ?_
  obtain ⟨q,es,ep,hq,h2,h3,h4,_,h5⟩:=dd'
  refine ky I (by rw [e]; exact True.intro) hs ⟨q,hq⟩ ⟨hl,hd,_,(rel.put k eb rv).keeps fun c ys ec=>?_,q,es,ep,hq,h2,h3,h4,h5⟩
  rw [au (d6 ec e (fun z=>nomatch z))]
  exact ec
end
section
variable {X:Cx} {pins:List (Addr×Obj)} {σ:St} {H:Hp} {s:Shared} {a:Addr} {kvs:List (Key×V)} {k:Key} {u:Value} {A:Around} {E:Value→Shared→Prop}
theorem B3 {Q:Unit→Shared→Prop} (I:Inv X pins σ H s) (e:H a=some (.dK kvs)) (ry:RelV (kV k) u) (l:(bQ kvs k).isSome=true) (h:∀ s',Inv X pins σ (upd H a (.dK (dU kvs k))) s'→Q () s') :
  wpAny (model X.prog X.w) A (delItem (.ref a) u) Q E s:=by
 obtain ⟨z,hd,vs,rel,dd⟩:=xp I.hok e
 refine wpAny_delItem_slot dd.typeIs (by decide) PySem.F.slot_dict_delitem
  (call_meetsIn PySem.F.slot_dict_delitem dd.typeIs PySem.F.entry_dict_delitem (PySem.F.args_dict_delitem_2 _ _) (meets_dict_delitem_pairs (bH X.prog X.w) a (j3 ry)) ⟨vs,dd,by rw [← rel.length]; exact z,by rw [← (rel.val k).isSome_eq]; exact l,fun h' dd' hs=>h _ ?_⟩)
 have he:∃ q,h'.get? a=some q:=let ⟨q,_,_,hq,_⟩:=dd'; ⟨q,hq⟩
 exact ky I (by rw [e]; exact True.intro) hs he (rL (Nat.le_trans (pw kvs k) z) hd (rel.drop k) dd')
theorem C3 {v:V} {more:List Value} {Q:Value→Shared→Prop} (I:Inv X pins σ H s) (e:H a=some (.dK kvs)) (ry:RelV (kV k) u) (l:bQ kvs k=some v) (hm:more=[]∨∃ x,more=[x])
  (h:∀ w' s',Inv X pins σ (upd H a (.dK (dU kvs k))) s'→RelV v w'→Q w' s'):wpAny (model X.prog X.w) A (call (.builtin "dict.pop") (.ref a::u::more)) Q E s:=by
 obtain ⟨z,hd,vs,rel,dd⟩:=xp I.hok e
 obtain ⟨w',hw,rw'⟩:=RelO.some_of (v:=v) (o:=valueAt vs k) (by rw [← l]; exact rel.val k)
 have hp:(keyPart u).isSome=true:=by
  cases k with
  | inl i=>obtain ⟨t,q⟩:=(show ∃ t,u=Value.int i t from ry); subst q; rfl
  | inr x=>obtain ⟨t,q⟩:=(show ∃ t,u=Value.str x t from ry); subst q; rfl
 have ha:argsOk "dict.pop" ⟨.ref a::u::more,[]⟩:=by
  rcases hm with q | ⟨x,q⟩
  ·subst q; exact PySem.F.args_dict_pop_2 _ _
  ·subst q; exact PySem.F.args_dict_pop_3 _ _ _
 refine call_meetsIn PySem.F.slot_dict_pop dd.typeIs PySem.F.entry_dict_pop ha (meets_dict_pop_there (bH X.prog X.w) a (j3 ry) more hm hp)
  ⟨vs,w',dd,by rw [← rel.length]; exact z,hw,fun h' dd' hs=>h w' _ ?_ rw'⟩
 have he:∃ q,h'.get? a=some q:=let ⟨q,_,_,hq,_⟩:=dd'; ⟨q,hq⟩
 exact ky I (by rw [e]; exact True.intro) hs he (rL (Nat.le_trans (pw kvs k) z) hd (rel.drop k) dd')
end
def Bk (i:Expr):Prop:=∀ ov iv,subscripted i false ov iv=operate [ov,iv] (getItem ov iv)
theorem sZ {prog:Program} {w:World} {A:Around} {E:Value→Shared→Prop} {s:Shared} {env:Env} {value slice:Expr} {pos:Pos} {T id:String} {Q:Value→Shared→Prop}
  (hl:typeLookup (.type T) "__getitem__"=pure (some (.builtin id))) (hs:Bk slice)
  (h:wpAny (model prog w) A (eval value env) (fun o s₁=>wpAny (model prog w) A (eval slice env) (fun i s₂=>s₂.TypeIs o T∧wpAny (model prog w) A (getItem o i) Q E s₂) E s₁) E s) :
  wpAny (model prog w) A (eval (.Subscript value slice pos) env) Q E s:=by
 refine Subscript_ (wpAny_mono h (fun o s₁ h₁=>wpAny_mono h₁ (fun i s₂ h₂=>?_) fun _ _ x=>x) fun _ _ x=>x)
 obtain ⟨hT,h₂⟩:=h₂
 unfold subscriptTail
 refine wpAny_bind ?_
 rw [getitemInPython_of_ne hT.not_modules]
 refine wpAny_bind (wpAny_specialOf hT hl ?_)
 have fin:wpAny (model prog w) A (subscripted slice false o i) (fun r s₃=>wpAny (model prog w) A (letTemporaryGo value o r >>= fun _=>pure r) Q E s₃) E s₂:=by
  rw [hs o i]
  exact wpAny_operating (wpAny_mono h₂ (fun r s₃ h₃=>wpAny_bind (wpAny_letTemporaryGo (wpAny_pure h₃))) fun _ _ x=>x)
 first
  | exact wpAny_pure (wpAny_bind fin)
  | exact wpAny_bind (wpAny_pure (wpAny_bind fin))
  | exact wpAny_bind fin
theorem oR {X:Cx} {pins:List (Addr×Obj)} {σ:St} {H:Hp} {s:Shared} {a:Addr} {y:V} {o:Option V} (I:Inv X pins σ H s) (g:DGet H a y o):s.TypeIs (.ref a) "dict":=by
 rcases g with ⟨kvs,k,e,_,_⟩ | ⟨kvs,k,b,e,_,_,_⟩
 ·obtain ⟨_,_,vs,_,dd⟩:=pe I.hok e
  exact dd.typeIs
 ·obtain ⟨_,_,xs,_,dd⟩:=qt I.hok e
  exact dd.typeIs
def B8 (td ty:TE):TE:=fun σ H Q=>td σ H fun x H1=>ty σ H1 fun y H2=>∃ a v,x=.ref a∧DGet H2 a y (some v)∧Q v H2
def ES (ty td:TE):TE:=fun σ H Q=>ty σ H fun y H1=>td σ H1 fun x H2=>∃ a o,x=.ref a∧DGet H2 a y o∧Q (.bl o.isSome) H2
def zB (ty td:TE):TE:=fun σ H Q=>ty σ H fun y H1=>td σ H1 fun x H2=>∃ a o,x=.ref a∧DGet H2 a y o∧Q (.bl (!o.isSome)) H2
def Ce (td ty tv:TE):TS:=fun D σ H=>tv σ H fun v H1=>td σ H1 fun x H2=>ty σ H2 fun y H3=>∃ a H4,x=.ref a∧DPut H3 a y v H4∧D.nx σ H4
def Ep (td ty tv:TE) (rd:V→V→Hp→VK→Prop):TS:=fun D σ H=>td σ H fun x H1=>ty σ H1 fun y H2=>∃ a v,x=.ref a∧DGet H2 a y (some v)∧
 tv σ H2 fun y2 H3=>rd v y2 H3 fun z H4=>∃ H5,DPut H4 a y z H5∧D.nx σ H5
def ED (td ty:TE):TS:=fun D σ H=>td σ H fun x H1=>ty σ H1 fun y H2=>∃ a kvs k,x=.ref a∧H2 a=some (.dK kvs)∧y=kV k∧(bQ kvs k).isSome=true∧D.nx σ (upd H2 a (.dK (dU kvs k)))
section
variable {X:Cx} {o i e value:Expr} {pos pos' tpos:Pos} {td ty tv:TE}
theorem y7 (hu:X.A.units+1<cLine) (ho:PE X o td) (hi:PE X i ty) (hs:Bk i):PE X (.Subscript o i pos) (B8 td ty):=by
 intro pins s σ H Q I h
 refine sZ PySem.F.slot_dict_getitem.lookup hs (thn (ho pins s σ H _ I h) fun u s1 ⟨x,H1,I1,rx,q1⟩=>thn (hi pins s1 σ H1 _ I1 q1) fun iv s2 ⟨y,H2,I2,ry,a,v,ex,g,q2⟩=>?_)
 subst ex
 obtain rfl:u=Value.ref a:=rx
 exact ⟨oR I2 g,vD hu I2 g ry fun w' s3 I3 rw'=>⟨v,H2,I3,rw',q2⟩⟩
theorem u9 (hu:X.A.units+1<cLine) (hi:PE X i ty) (ho:PE X o td):PC X .NotIn i o (zB ty td):=by
 intro pins s σ H Q I h
 refine thn (hi pins s σ H _ I h) fun iv s1 ⟨y,H1,I1,ry,q1⟩=>thn (ho pins s1 σ H1 _ I1 q1) fun u s2 ⟨x,H2,I2,rx,a,ov,ex,g,q2⟩=>?_
 subst ex
 obtain rfl:u=Value.ref a:=rx
 exact zj hu I2 g ry fun s3 I3=>⟨.bl (!ov.isSome),H2,I3,rfl,q2⟩
theorem Aa (hu:X.A.units+1<cLine) (ho:PE X o td) (hi:PE X i ty) (hv:PE X value tv) (hs:swapsWith value (some (.Subscript o i pos')) pos.line X.env=pure false) :
  PS X (.Assign [.Subscript o i pos'] value pos) (Ce td ty tv):=by
 intro pins s σ H D I h
 refine wpAny_Assign_Subscript (thn (hv pins s σ H _ I h) fun r s1 ⟨v,H1,I1,rv,q1⟩=>thn (ho pins s1 σ H1 _ I1 q1) fun u s2 ⟨x,H2,I2,rx,q2⟩=>thn (hi pins s2 σ H2 _ I2 q2) fun iv s3 ⟨y,H3,I3,ry,a,H4,ex,g,q3⟩=>?_) hs
 subst ex
 obtain rfl:u=Value.ref a:=rx
 exact uY hu I3 g ry rv fun s4 I4=>⟨σ,H4,I4,q3⟩
end
theorem xK {P:Program} {w:World} {H:Hp} (h:Heap) (hb:sysModules<h.objs.size):ObjOk P w H (h.push { cls:=.type "dict",data:=.dict #[] }) h.objs.size (.dK []) :=
 ⟨Nat.zero_le _,beq_eq_false_iff_ne.mpr (Ne.symm (Nat.ne_of_lt hb)),[],.nil,Heap.DictOf.new h⟩
def Bf:TE:=fun _ H Q=>∀ p,H p=none→Q (.ref p) (upd H p (.dK []))
def Dz:TE:=fun _ H Q=>∀ p,H p=none→Q (.ref p) (upd H p (.dT []))
section
variable {X:Cx} {pos:Pos}
theorem wg:PE X (.Dict [] [] pos) Bf:=fun pins s σ H Q I h =>
 wpAny_Dict_empty ⟨.ref s.heap.objs.size,_,I.laid (a:=s.heap.objs.size) (o:=.dK []) (t':=s.toks) (fun _ _ q=>Heap.get?_push_of_some _ q) (Nat.le_refl _) (xK s.heap I.big),rfl,h _ (I.hok.fresh (Nat.le_refl _))⟩
end
def rV:List (TE×TE)→St→Hp→(List (V×V)→Hp→Prop)→Prop
 | [],_,H,Q=>Q [] H
 | (tk,tv)::r,σ,H,Q=>tk σ H fun x H1=>tv σ H1 fun y H2=>rV r σ H2 fun ps H3=>Q ((x,y)::ps) H3
abbrev VV:List (V×V)→List (Value×Value)→Prop:=Paired fun p q=>RelV p.1 q.1∧RelV p.2 q.2
def PPs (X:Cx) (pos:Pos) (keys:List (Option Expr)) (values:List Expr) (trs:List (TE×TE)):Prop :=
 ∀ (pins:List (Addr×Obj)) (s:Shared) (σ:St) (H:Hp) (Q:List (V×V)→Hp→Prop),Inv X pins σ H s→rV trs σ H Q→
  wpAny (model X.prog X.w) X.A (evalPairs (pairTrees keys values X.env pos)) (fun vs s'=>∃ ps H',Inv X pins σ H' s'∧VV ps vs∧Q ps H') X.xe s
def BQ (kvs more:List (Key×V)):List (Key×V):=more.foldl (fun acc kv=>putK acc kv.1 kv.2) kvs
def Eu (trs:List (TE×TE)):TE:=fun σ H Q=>∀ p,H p=none→rV trs σ (upd H p (.dK [])) fun ps H2=>H2 p=some (.dK [])∧∃ kvs:List (Key×V),ps=kvs.map (fun kv=>(kV kv.1,kv.2))∧kvs.length≤15∧Q (.ref p) (upd H2 p (.dK (BQ [] kvs)))
structure M1 (X:Cx) (o:Expr) (m:Str) (apos:Pos) (e:Expr) (cpos:Pos):Prop where
 base:attributeBase o m X.env (eval o X.env)=eval o X.env
 few:((backTo cpos (starEach [e] X.env)).all (fun x=>!x.1) && (backToKw cpos (keywordEach [] X.env)).all (fun x=>x.1.isSome)
  && decide (([e]:List Expr).length+([]:List Keyword).length+(if ([]:List Keyword).isEmpty then 0 else 1)<30))=true
 line:(apos.endLine == cpos.line)=true
 trees:backTo cpos (starEach [e] X.env)=[(false,eval e X.env)]
structure M2 (X:Cx) (o:Expr) (m:Str) (apos:Pos) (e f:Expr) (cpos:Pos):Prop where
 base:attributeBase o m X.env (eval o X.env)=eval o X.env
 few:((backTo cpos (starEach [e,f] X.env)).all (fun x=>!x.1) && (backToKw cpos (keywordEach [] X.env)).all (fun x=>x.1.isSome)
  && decide (([e,f]:List Expr).length+([]:List Keyword).length+(if ([]:List Keyword).isEmpty then 0 else 1)<30))=true
 line:(apos.endLine == cpos.line)=true
 trees:backTo cpos (starEach [e,f] X.env)=[(false,eval e X.env),(false,eval f X.env)]
def IsD (H:Hp) (a:Addr):Prop:=(∃ kvs,Rd H a (.dK kvs))∨∃ kvs,Rd H a (.dT kvs)
theorem AM {X:Cx} {pins:List (Addr×Obj)} {σ:St} {H:Hp} {s:Shared} {a:Addr} (I:Inv X pins σ H s) (d:IsD H a) :
  s.TypeIs (.ref a) "dict"∧(∀ b,Value.ref a=.ref b→∃ ob,s.heap.get? b=some ob∧ob.dict=none)∧(a == sysModules)=false:=by
 rcases d with ⟨kvs,e⟩ | ⟨kvs,e⟩
 ·obtain ⟨_,hd,vs,_,dd⟩:=pe I.hok e
  refine ⟨dd.typeIs,fun b q=>?_,hd⟩
  cases q
  obtain ⟨ob,_,_,h1,h2,_⟩:=dd
  exact ⟨ob,h1,h2.2.1⟩
 ·obtain ⟨_,hd,xs,_,dd⟩:=qt I.hok e
  refine ⟨dd.typeIs,fun b q=>?_,hd⟩
  cases q
  obtain ⟨ob,_,_,h1,h2,_⟩:=dd
  exact ⟨ob,h1,h2.2.1⟩
section
variable {X:Cx} {pins:List (Addr×Obj)} {σ:St} {H:Hp} {s:Shared} {a:Addr} {y d:V} {u r:Value} {o:Option V} {A:Around} {E:Value→Shared→Prop}
end
def Dw (td ty:TE):TE:=fun σ H Q=>td σ H fun x H1=>∃ a,x=.ref a∧IsD H1 a∧ty σ H1 fun y H2=>∃ o,DGet H2 a y o∧Q (o.getD .non) H2
def Dm (td ty tx:TE):TE:=fun σ H Q=>td σ H fun x H1=>∃ a,x=.ref a∧IsD H1 a∧ty σ H1 fun y H2=>tx σ H2 fun z H3=>∃ o,DGet H3 a y o∧Q (o.getD z) H3
def Bj (td ty:TE):TE:=fun σ H Q=>td σ H fun x H1=>∃ a,x=.ref a∧IsD H1 a∧ty σ H1 fun y H2=>∃ kvs k v,H2 a=some (.dK kvs)∧y=kV k∧bQ kvs k=some v∧Q v (upd H2 a (.dK (dU kvs k)))
def D9 (td ty tx:TE):TE:=fun σ H Q=>td σ H fun x H1=>∃ a,x=.ref a∧IsD H1 a∧ty σ H1 fun y H2=>tx σ H2 fun z H3=>∃ kvs k,H3 a=some (.dK kvs)∧y=kV k∧
 (∀ v,bQ kvs k=some v→Q v (upd H3 a (.dK (dU kvs k))))∧(bQ kvs k=none→Q z H3)
section
variable {X:Cx} {o e f:Expr} {apos cpos:Pos} {td ty tx:TE}
theorem x8 (ho:PE X o td) (he:PE X e ty) (m:M1 X o "pop" apos e cpos):PE X (.Call (.Attribute o "pop" apos) [e] [] cpos) (Bj td ty):=by
 intro pins s σ H Q I h
 refine wpAny_Call_method m.base m.few m.line PySem.F.plainAttrs_dict PySem.F.slot_dict_pop PySem.F.type_dict_pop (thn (ho pins s σ H _ I h) fun u s1 ⟨x,H1,I1,rx,a,ex,d,q1⟩=>?_)
 subst ex
 obtain rfl:u=Value.ref a:=rx
 obtain ⟨t1,t2,_⟩:=AM I1 d
 refine ⟨t1,t2,?_⟩
 rw [m.trees]
 refine Calls.callWith_builtin rfl (Calls.evalArgs_plain (Calls.spliced_cons (thn (he pins s1 σ H1 _ I1 q1) fun iv s2 ⟨y,H2,I2,ry,kvs,k,v,ea,ey,l,q2⟩=>Calls.spliced_nil ?_)))
 subst ey
 exact C3 I2 ea ry l (.inl rfl) fun w' s3 I3 rw'=>⟨v,_,I3,rw',q2⟩
end
section
variable {X:Cx} {pins:List (Addr×Obj)} {σ:St} {H:Hp} {s:Shared} {a:Addr} {kvs:List (Key×V)} {A:Around} {E:Value→Shared→Prop}
end
section
variable {X:Cx} {pins:List (Addr×Obj)} {σ:St} {H:Hp} {s:Shared} {a:Addr} {y:V} {u:Value} {A:Around} {E:Value→Shared→Prop}
end
end L2
namespace L2
open PySem PySem.Spec PyProof.Rows
abbrev SI (h:Heap) (i:Addr) (z:Str) (t:Tok) (k:Nat):Prop:=h.IsStrIter i "str_ascii_iterator" z t k
theorem jX {h h':Heap} {i:Addr} {z:Str} {t:Tok} {k:Nat} (a:SI h i z t k) (x:∀ o,h.get? i=some o→h'.get? i=some o):SI h' i z t k:=by
 obtain ⟨o,e,r⟩:=a; exact ⟨o,x o e,r⟩
theorem wb {h:Heap} {i:Addr} {z:Str} {t:Tok} {k:Nat} (a:SI h i z t k):∃ o,h.get? i=some o∧∀ v,o.data≠.cell v:=by
 obtain ⟨o,e,_,d⟩:=a; exact ⟨o,e,fun v q=>by rw [d] at q; cases q⟩
section
variable {prog:Program} {w:World} {A:Around} {E:Value→Shared→Prop} {s:Shared}
theorem uE {z TI TO i1 i2 l2:Addr} {tx:Str} {t:Tok} {k1 k2 c:Nat} {ys:Array Value} {y a b:Value} {Q:Value→Shared→Prop} (D:ZipApart z TI TO i1 i2 l2 l2) (gz:IsZip s.heap z TI TO .none) (gI:IsPair s.heap TI (.ref i1) (.ref i2)) (gO:IsPair s.heap TO a b)
  (g1:SI s.heap i1 tx t k1) (g2:ItAt false s.heap i2 l2 k2 ys) (hx:tx.cps[k1]?=some c) (hy:ys[k2]?=some y) (d:∀ h' tk u,IsZip h' z TI TO (rawInt s.heap.objs.size)→IsPair h' TO (.str ⟨#[c]⟩ u) y→SI h' i1 tx t (k1+1)→ItAt false h' i2 l2 (k2+1) ys→IsPair h' s.heap.objs.size (.str ⟨#[c]⟩ u) y→h'.objs.size=s.heap.objs.size+1→
   (∀ c o,c≠z→c≠TO→c≠i1→c≠i2→s.heap.get? c=some o→h'.get? c=some o)→Q (.ref s.heap.objs.size) { s with heap:=h',toks:=tk }):wpAny (model prog w) A (Builtin.«zip.__next__» ⟨[.ref z],[]⟩) (fun fin s'=>∃ v,fin=.done (.ret v)∧Q v s') E s:=by
 show wpAny _ _ (field (.ref z) 2 >>= _) _ _ _; refine wpAny_bind (wpAny_field gz rfl (x:=.bool false) rfl ?_)
 show wpAny _ _ (field (.ref z) 3 >>= _) _ _ _; refine wpAny_bind (wpAny_field gz rfl (x:=.ref TI) rfl ?_)
 refine wpAny_bind (wpAny_seqItems gI rfl ?_)
 show wpAny _ _ (Builtin.SmallTypes.ownedTupleIsFree (.ref z) >>= _) _ _ _; refine wpAny_bind ?_; unfold Builtin.SmallTypes.ownedTupleIsFree
 refine wpAny_bind (wpAny_field gz rfl (x:=.none) rfl (wpAny_pure ?_)); simp only [if_true]
 refine wpAny_bind (wpAny_rule ?_); refine wpAny_bind (wpAny_field gz rfl (x:=.ref TO) rfl ?_)
 refine wpAny_bind (wpAny_setField_rec gz (by simp) fun u1 gz1 s1=>?_); replace gz1:IsZip u1 z TI TO .ellipsis:=gz1
 refine wpAny_bind ?_; simp only [List.zipIdx_cons,List.zipIdx_nil,List.forIn_cons,List.forIn_nil]
 refine wpAny_bind (wpAny_bind (wpAny_onRaise ?_)); show wpAny _ _ (Builtin.SmallTypes.nextOf (.ref i1) >>= _) _ _ _
 refine wpAny_bind (wpAny_nextOf_ascii_item (jX g1 fun o e=>s1.extBut _ o D.i1z e) hx fun u2 g12 s2=>wpAny_pure ?_)
 have gO2:IsPair u2 TO a b:=s2.extBut _ _ D.TOi1 (s1.extBut _ _ D.TOz gO)
 refine wpAny_bind (wpAny_seqItems gO2 rfl ?_); refine wpAny_bind (wpAny_updateSeq_pair gO2 fun u3 gO3 s3=>?_); replace gO3:IsPair u3 TO (.str ⟨#[c]⟩ s.toks) b:=gO3
 refine wpAny_bind (wpAny_letGo (wpAny_pure ?_))
 refine wpAny_bind (wpAny_bind (wpAny_onRaise ?_)); show wpAny _ _ (Builtin.SmallTypes.nextOf (.ref i2) >>= _) _ _ _
 refine wpAny_bind ((((g2.ext s1.extBut D.i2z D.l2z).ext s2.extBut D.i12.symm D.l2i1).ext s3.extBut D.TOi2.symm D.l2TO).nx D.l2i2 hy fun u4 g24 s4=>wpAny_pure ?_)
 have gO4:IsPair u4 TO (.str ⟨#[c]⟩ s.toks) b:=s4.extBut _ _ D.TOi2 gO3
 refine wpAny_bind (wpAny_seqItems gO4 rfl ?_); refine wpAny_bind (wpAny_updateSeq_pair gO4 fun u5 gO5 s5=>?_); replace gO5:IsPair u5 TO (.str ⟨#[c]⟩ s.toks) y:=gO5
 refine wpAny_bind (wpAny_letGo (wpAny_pure (wpAny_pure ?_))); refine wpAny_bind (wpAny_seqItems gO5 rfl ?_); refine wpAny_bind (wpAny_newTuple ?_)
 have hsz:u5.objs.size=s.heap.objs.size:=by rw [s5.1,s4.1,s3.1,s2.1,s1.1]
 have gz5:IsZip u5 z TI TO .ellipsis:=s5.extBut _ _ D.TOz.symm (s4.extBut _ _ D.i2z.symm (s3.extBut _ _ D.TOz.symm (s2.extBut _ _ D.i1z.symm gz1)))
 have k5:∀ c o,c≠z→c≠TO→c≠i1→c≠i2→s.heap.get? c=some o→u5.get? c=some o:=fun c o c1 c2 c3 c4 e=>s5.extBut _ _ c2 (s4.extBut _ _ c4 (s3.extBut _ _ c2 (s2.extBut _ _ c3 (s1.extBut _ _ c1 e))))
 have g15:SI u5 i1 tx t (k1+1):=jX (jX (jX g12 fun o e=>s3.extBut _ o D.TOi1.symm e) fun o e=>s4.extBut _ o D.i12 e) fun o e=>s5.extBut _ o D.TOi1.symm e
 have g25:ItAt false u5 i2 l2 (k2+1) ys:=g24.ext s5.extBut D.TOi2.symm D.l2TO
 have zlt:z<u5.objs.size:=Heap.lt_size gz5
 show wpAny _ _ (Builtin.SmallTypes.ownedTupleHandOut (.ref z) (.ref u5.objs.size) >>= _) _ _ _; refine wpAny_bind ?_; unfold Builtin.SmallTypes.ownedTupleHandOut
 have gz6:IsZip (u5.push { cls:=.type "tuple",data:=.seq #[.str ⟨#[c]⟩ s.toks,y] }) z TI TO .ellipsis:=Heap.get?_push_of_some _ gz5
 refine wpAny_bind (wpAny_setField_rec gz6 (by simp) fun u7 gz7 s7=>?_); replace gz7:IsZip u7 z TI TO (rawInt u5.objs.size):=gz7
 refine wpAny_setField_rec gz7 (by simp) fun u8 gz8 s8=>?_; replace gz8:IsZip u8 z TI TO (rawInt u5.objs.size):=gz8
 have up:∀ c o,c≠z→u5.get? c=some o→u8.get? c=some o:=fun c o c1 e=>s8.extBut _ _ c1 (s7.extBut _ _ c1 (Heap.get?_push_of_some _ e))
 have gT:IsPair u8 u5.objs.size (.str ⟨#[c]⟩ s.toks) y:=s8.extBut _ _ (Nat.ne_of_gt zlt) (s7.extBut _ _ (Nat.ne_of_gt zlt) (Heap.get?_push_size _ rfl))
 have z8:u8.objs.size=u5.objs.size+1:=by rw [s8.1,s7.1,Heap.size_push]
 rw [hsz] at gz8 gT z8
 refine wpAny_pure ⟨_,rfl,?_⟩; show Q (.ref u5.objs.size) _; rw [hsz]
 exact d u8 _ _ gz8 (up _ _ D.TOz gO5) (jX g15 fun o e=>up _ o D.i1z e) (g25.at (fun o e=>up _ o D.i2z e) fun o e=>up _ o D.l2z e) gT z8 fun c o c1 c2 c3 c4 e=>up c o c1 (k5 c o c1 c2 c3 c4 e)
theorem yB {z TI TO i1 i2 l2:Addr} {tx:Str} {t:Tok} {k1 k2:Nat} {ys:Array Value} {a b:Value} {Q:Fin→Shared→Prop} (hh:A.handled=none) (D:ZipApart z TI TO i1 i2 l2 l2) (gz:IsZip s.heap z TI TO .none) (gI:IsPair s.heap TI (.ref i1) (.ref i2))
  (g1:SI s.heap i1 tx t k1) (hx:tx.cps[k1]?=none)
  (d:∀ h' e,(∀ c o,c≠z→c≠TO→c≠i1→c≠i2→s.heap.get? c=some o→h'.get? c=some o)→(∃ o,h'.get? e=some o∧o.cls=.type "StopIteration")→E (.ref e) { s with heap:=h' }):wpAny (model prog w) A (Builtin.«zip.__next__» ⟨[.ref z],[]⟩) Q E s:=by
 show wpAny _ _ (field (.ref z) 2 >>= _) _ _ _; refine wpAny_bind (wpAny_field gz rfl (x:=.bool false) rfl ?_)
 show wpAny _ _ (field (.ref z) 3 >>= _) _ _ _; refine wpAny_bind (wpAny_field gz rfl (x:=.ref TI) rfl ?_)
 refine wpAny_bind (wpAny_seqItems gI rfl ?_)
 show wpAny _ _ (Builtin.SmallTypes.ownedTupleIsFree (.ref z) >>= _) _ _ _; refine wpAny_bind ?_; unfold Builtin.SmallTypes.ownedTupleIsFree
 refine wpAny_bind (wpAny_field gz rfl (x:=.none) rfl (wpAny_pure ?_)); simp only [if_true]
 refine wpAny_bind (wpAny_rule ?_); refine wpAny_bind (wpAny_field gz rfl (x:=.ref TO) rfl ?_)
 refine wpAny_bind (wpAny_setField_rec gz (by simp) fun u1 gz1 s1=>?_); replace gz1:IsZip u1 z TI TO .ellipsis:=gz1
 refine wpAny_bind ?_; simp only [List.zipIdx_cons,List.zipIdx_nil,List.forIn_cons,List.forIn_nil]
 refine wpAny_bind (wpAny_bind (wpAny_onRaise ?_)); show wpAny _ _ (Builtin.SmallTypes.nextOf (.ref i1) >>= _) _ _ _
 refine wpAny_bind (wpAny_nextOf_ascii_end hh (jX g1 fun o e=>s1.extBut _ o D.i1z e) hx fun u2 e s2 he=>?_)
 obtain ⟨oe,hoe,hce⟩:=he
 have gz2:IsZip u2 z TI TO .ellipsis:=s2 _ _ D.i1z.symm gz1
 have hez:e≠z:=fun x=>by subst x; rw [gz2] at hoe; cases hoe; simp at hce
 refine wpAny_setField_rec gz2 (by simp) fun u3 _ s3=>d u3 e (fun c o c1 _ c3 _ x=>s3.extBut _ _ c1 (s2 _ _ c3 (s1.extBut _ _ c1 x))) ⟨oe,s3.extBut _ _ hez hoe,hce⟩
theorem qY {z TI TO i1 i2 l2:Addr} {tx:Str} {t:Tok} {k1 k2 c:Nat} {ys:Array Value} {y a b:Value} {Q:Option Value→Shared→Prop} (D:ZipApart z TI TO i1 i2 l2 l2) (gz:IsZip s.heap z TI TO .none) (gI:IsPair s.heap TI (.ref i1) (.ref i2)) (gO:IsPair s.heap TO a b)
  (g1:SI s.heap i1 tx t k1) (g2:ItAt false s.heap i2 l2 k2 ys) (hx:tx.cps[k1]?=some c) (hy:ys[k2]?=some y) (d:∀ h' tk u,IsZip h' z TI TO (rawInt s.heap.objs.size)→IsPair h' TO (.str ⟨#[c]⟩ u) y→SI h' i1 tx t (k1+1)→ItAt false h' i2 l2 (k2+1) ys→IsPair h' s.heap.objs.size (.str ⟨#[c]⟩ u) y→h'.objs.size=s.heap.objs.size+1→
   (∀ c o,c≠z→c≠TO→c≠i1→c≠i2→s.heap.get? c=some o→h'.get? c=some o)→Q (some (.ref s.heap.objs.size)) { s with heap:=h',toks:=tk }):wpAny (model prog w) A (pyNext (.ref z)) Q E s:=by
 have hT:s.TypeIs (.ref z) "zip":=⟨_,gz,rfl⟩; unfold pyNext
 exact wpAny_bind (wpAny_attempt (wpAny_callSpecial?_slot (name:=Str.ofString "__next__") hT F.slot_zip_next (wpAny_call_entry F.slot_zip_next hT F.entry_zip_next (uE D gz gI gO g1 g2 hx hy fun h' tk u a1 a2 a3 a4 a5 a6 a7=>wpAny_pure (d h' tk u a1 a2 a3 a4 a5 a6 a7)) (F.args_zip_next_1 _))))
theorem tT {z TI TO i1 i2 l2:Addr} {tx:Str} {t:Tok} {k1:Nat} {Q:Option Value→Shared→Prop} (hh:A.handled=none) (D:ZipApart z TI TO i1 i2 l2 l2) (gz:IsZip s.heap z TI TO .none) (gI:IsPair s.heap TI (.ref i1) (.ref i2))
  (g1:SI s.heap i1 tx t k1) (hx:tx.cps[k1]?=none) (d:∀ h',(∀ c o,c≠z→c≠TO→c≠i1→c≠i2→s.heap.get? c=some o→h'.get? c=some o)→Q none { s with heap:=h' }):wpAny (model prog w) A (pyNext (.ref z)) Q E s:=by
 have hT:s.TypeIs (.ref z) "zip":=⟨_,gz,rfl⟩; unfold pyNext
 refine wpAny_bind (wpAny_attempt (wpAny_callSpecial?_slot (name:=Str.ofString "__next__") hT F.slot_zip_next (wpAny_call_entry F.slot_zip_next hT F.entry_zip_next (yB (k2:=0) (ys:=#[]) (a:=.none) (b:=.none) hh D gz gI g1 hx fun h' e hk he=>?_) (F.args_zip_next_1 _))))
 obtain ⟨o,ho,hc⟩:=he; refine wpAny_bind (wpAny_isInstance (T:="StopIteration") (b:=true) ⟨o,ho,hc⟩ isSubtype_stop ?_); exact wpAny_pure (d _ hk)
abbrev yP (h:Heap) (tx:Str) (t:Tok):Heap:=h.push { cls:=.type "str_ascii_iterator",data:=.fields #[.str tx t,.int 0 0] }
abbrev yO (h:Heap) (tx:Str) (t:Tok) (l2:Addr):Heap:=(yP h tx t).push { cls:=.type "list_iterator",data:=.fields #[.ref l2,.int 0 0] }
abbrev yQ (h:Heap) (tx:Str) (t:Tok) (l2:Addr):Heap:=(yO h tx t l2).push { cls:=.type "tuple",data:=.seq #[.ref h.objs.size,.ref (yP h tx t).objs.size] }
abbrev yR (h:Heap) (tx:Str) (t:Tok) (l2:Addr):Heap:=(yQ h tx t l2).push { cls:=.type "tuple",data:=.seq #[.none,.none] }
abbrev yS (h:Heap) (tx:Str) (t:Tok) (l2:Addr):Heap:=(yR h tx t l2).push { cls:=.type "zip",data:=.fields #[.none,.bool false,.bool false,.ref (yO h tx t l2).objs.size,.ref (yQ h tx t l2).objs.size] }
theorem qF (tx:Str) (t:Tok) (ha:tx.cps.all (·<128)=true) (l2:Addr) (ys:Array Value):Meets (Builtin.«zip.__new__» ⟨[.type "zip",.str tx t,.ref l2],[]⟩) (fun _ R s=>s.heap.IsList l2 ys∧R (.ok (.ret (.ref (yR s.heap tx t l2).objs.size))) { s with heap:=yS s.heap tx t l2 }) :=
 .of_wp fun prog w A R s h=>by
  obtain ⟨hp,g,d,tk,os⟩:=s; obtain ⟨g2,h⟩:=h
  have sb:=sub_zip
  have a2:Heap.IsList (Shared.heap ⟨hp.push { cls:=.type "str_ascii_iterator",data:=.fields #[.str tx t,.int 0 0] },g,d,tk,os⟩) l2 ys:=Heap.IsList.push g2 _
  wp_walk using wpAny_pyIter_ascii ha,wpAny_pyIter_list a2; exact ⟨_,rfl,h⟩
theorem tP {tx:Str} {t:Tok} (ha:tx.cps.all (·<128)=true) {l2:Addr} {ys:Array Value} {Q:Value→Shared→Prop} (g2:s.heap.IsList l2 ys)
  (k:∀ h',IsZip h' (s.heap.objs.size+4) (s.heap.objs.size+2) (s.heap.objs.size+3) .none→IsPair h' (s.heap.objs.size+2) (.ref s.heap.objs.size) (.ref (s.heap.objs.size+1))→IsPair h' (s.heap.objs.size+3) .none .none→SI h' s.heap.objs.size tx t 0→ItAt false h' (s.heap.objs.size+1) l2 0 ys→
   (∀ c o,s.heap.get? c=some o→h'.get? c=some o)→Q (.ref (s.heap.objs.size+4)) { s with heap:=h' }):wpAny (model prog w) A (call (.type "zip") [.str tx t,.ref l2]) Q E s:=by
 refine callType_new F.called_zip (by decide) (F.typeCall_zip_2 _ _) (F.newCall_zip_2 _ _) (fun obj=>F.args_object_init_3 obj _ _) F.entry_zip_new (qF tx t ha l2 ys) ⟨g2,?_⟩
 have z1:(yP s.heap tx t).objs.size=s.heap.objs.size+1:=Heap.size_push ..
 have z2:(yO s.heap tx t l2).objs.size=s.heap.objs.size+2:=by rw [Heap.size_push,z1]
 have z3:(yQ s.heap tx t l2).objs.size=s.heap.objs.size+3:=by rw [Heap.size_push,z2]
 have z4:(yR s.heap tx t l2).objs.size=s.heap.objs.size+4:=by rw [Heap.size_push,z3]
 have e5:(yS s.heap tx t l2).get? (yR s.heap tx t l2).objs.size=some _:=Heap.get?_push_size _ rfl
 have e4:(yS s.heap tx t l2).get? (yQ s.heap tx t l2).objs.size=some _:=Heap.get?_push_of_some _ (Heap.get?_push_size _ rfl)
 have e3:(yS s.heap tx t l2).get? (yO s.heap tx t l2).objs.size=some _:=Heap.get?_push_of_some _ (Heap.get?_push_of_some _ (Heap.get?_push_size _ rfl))
 have e2:(yS s.heap tx t l2).get? (yP s.heap tx t).objs.size=some _:=Heap.get?_push_of_some _ (Heap.get?_push_of_some _ (Heap.get?_push_of_some _ (Heap.get?_push_size _ rfl)))
 have e1:(yS s.heap tx t l2).get? s.heap.objs.size=some _:=Heap.get?_push_of_some _ (Heap.get?_push_of_some _ (Heap.get?_push_of_some _ (Heap.get?_push_of_some _ (Heap.get?_push_size _ rfl))))
 show _∧_
 rw [z2,z3,z4] at e5; rw [z1,z2] at e3; rw [z3] at e4; rw [z1] at e2; rw [z4]
 have up:∀ c o,s.heap.get? c=some o→(yS s.heap tx t l2).get? c=some o:=fun c o x=>Heap.get?_push_of_some _ (Heap.get?_push_of_some _ (Heap.get?_push_of_some _ (Heap.get?_push_of_some _ (Heap.get?_push_of_some _ x))))
 exact ⟨⟨_,e5,rfl⟩,k _ e5 e3 e4 ⟨_,e1,rfl,rfl⟩ (kP (tp:=false) g2 e2 up) up⟩
end
def we (K:PySem.W.Frag) (z:Str) (b:Addr):It :=
  ⟨fun i H=>∃ ys c y,SqL K H b ys∧z.cps[i]?=some c∧ys[i]?=some y,
   fun i H v H'=>∃ T c y,H T=none∧H'=upd H T (.tup [sgn c,y])∧v=.ref T∧z.cps[i]?=some c∧∀ ys,SqL K H b ys→ys[i]?=some y,
   fun i H=>(∃ ys,SqL K H b ys)∧z.cps[i]?=none⟩
theorem tN {P:Program} {w:World} {K:PySem.W.Frag} {elts:List Expr} {x1:Nat} {tp:Pos} {tx:Str} {t:Tok} {b z TI TO i1 i2:Addr} (D:ZipApart z TI TO i1 i2 b b) :
  Turn P w K (.Tuple elts x1 tp) (we K tx b) [z,TI,TO,i1,i2] z (fun i h=>IsZip h z TI TO .none∧IsPair h TI (.ref i1) (.ref i2)∧(∃ u v,IsPair h TO u v)∧SI h i1 tx t i∧IterAt false h i2 b i) where
 mem:=by simp
 obj:=fun i h st c hc=>by
  obtain ⟨h1,h2,⟨u,v,h3⟩,h4,h5⟩:=st
  simp only [List.mem_cons,List.not_mem_nil,or_false] at hc
  rcases hc with rfl | rfl | rfl | rfl | rfl
  ·exact ⟨_,h1,fun v q=>nomatch q⟩
  ·exact ⟨_,h2,fun v q=>nomatch q⟩
  ·exact ⟨_,h3,fun v q=>nomatch q⟩
  ·exact wb h4
  ·exact h5.obj
 keep:=fun i h h' st k=>by
  obtain ⟨h1,h2,⟨u,v,h3⟩,h4,h5⟩:=st
  exact ⟨k z (by simp) _ h1,k TI (by simp) _ h2,⟨u,v,k TO (by simp) _ h3⟩,jX h4 fun o e=>k i1 (by simp) o e,h5.at fun o e=>k i2 (by simp) o e⟩
 item:=by
  intro X hP hw hK hc i pins s σ H E I hf st hg
  subst hP hw hK
  obtain ⟨ys,c,y,hys,hx,hy⟩:=hg
  obtain ⟨ws,r2,q2⟩:=I.seqX (tp:=false) hys
  obtain ⟨v,hv,rv⟩:=r2.get hy
  obtain ⟨h1,h2,⟨o1,o2,h3⟩,h4,h5⟩:=st
  refine qY D h1 h2 h3 h4 (h5.it q2) hx (y:=v) (by simpa using hv) fun h' tk u b1 b2 b3 b4 b5 b6 b7=>?_
  refine ⟨_,rfl,?_⟩
  refine wpAny_letOwnedTupleGo_zip b1 fun h6 c1 c2=>?_
  have lt:∀ {c o},s.heap.get? c=some o→c≠s.heap.objs.size:=fun e=>Nat.ne_of_lt (Heap.lt_size e)
  have zlt:s.heap.objs.size≠z:=Ne.symm (lt h1)
  have k2:∀ c o,c∉[z,TI,TO,i1,i2]→s.heap.get? c=some o→h6.get? c=some o:=fun c o hc' q=>by
   have n1:c≠z:=fun e=>hc' (by simp [e])
   exact (c2.2 c n1).trans (b7 c o n1 (fun e=>hc' (by simp [e])) (fun e=>hc' (by simp [e])) (fun e=>hc' (by simp [e])) q)
  have t2:h6.get? s.heap.objs.size=some { cls:=.type "tuple",data:=.seq #[.str ⟨#[c]⟩ u,v] }:=(c2.2 _ zlt).trans b5
  have hn:H s.heap.objs.size=none:=I.hok.fresh (Nat.le_refl _)
  have new:ObjOk X.prog X.w (upd H s.heap.objs.size (.tup [sgn c,y])) h6 s.heap.objs.size (.tup [sgn c,y]):=⟨by simp only [List.length_cons,List.length_nil]; rw [sizeLine_eq]; decide,[.str ⟨#[c]⟩ u,v],.cons ⟨u,rfl⟩ (.cons rv .nil),⟨_,t2,rfl,_,rfl⟩⟩
  have I2:Inv X pins σ (upd H s.heap.objs.size (.tup [sgn c,y])) { s with heap:=h6,toks:=tk }:=I.turnedNew k2 hf (Nat.le_refl _) new
  refine ⟨.ref s.heap.objs.size,_,I2,rfl,⟨s.heap.objs.size,c,y,hn,rfl,rfl,hx,fun ys' hy'=>by rw [oH (tp:=false) I hy' hys]; exact hy⟩,⟨c1,(c2.2 _ D.TIz).trans (b7 _ _ D.TIz D.TITO D.TIi1 D.TIi2 h2),⟨_,_,(c2.2 _ D.TOz).trans b2⟩,jX b3 fun o e=>(c2.2 _ D.i1z).trans e,b4.iter.at fun o e=>(c2.2 _ D.i2z).trans e⟩,fun c hc'=>?_⟩
  have hne:c≠s.heap.objs.size:=by
   simp only [List.mem_cons,List.not_mem_nil,or_false] at hc'
   rcases hc' with rfl | rfl | rfl | rfl | rfl
   ·exact lt h1
   ·exact lt h2
   ·exact lt h3
   ·obtain ⟨o,e,_⟩:=wb h4; exact lt e
   ·obtain ⟨o,e,_⟩:=h5.obj; exact lt e
  rw [au hne]
  exact (hf c hc').1
 done:=by
  intro X hP hw hK hc i pins s σ H E I hf st hg
  subst hP hw hK
  obtain ⟨_,hend⟩:=hg
  obtain ⟨h1,h2,⟨o1,o2,h3⟩,h4,h5⟩:=st
  refine tT (show X.A.handled=none from I.ok.hd hc) D h1 h2 h4 hend fun h' k=>⟨rfl,?_⟩
  exact I.turnedL (t':=s.toks) (fun c o hc' q=>k c o (fun e=>hc' (by simp [e])) (fun e=>hc' (by simp [e])) (fun e=>hc' (by simp [e])) (fun e=>hc' (by simp [e])) q) hf
 self:=fun _ _ _ _ _ st h=>wpAny_pyIter_zip st.1 h
section
variable {X:Cx}
def Cc (K:PySem.W.Frag) (ta:TA):TI:=fun σ H R=>ta σ H fun vs H1=>∃ z b,vs=[.str z,.ref b]∧z.cps.all (·<128)=true∧(∃ ys,SqL K H1 b ys)∧R (we K z b) H1
theorem zc {a b:Expr} {ta:TA} {p pos tp:Pos} {elts:List Expr} {x1:Nat} (hg:Gl X "zip") (hm:X.mg "zip"=none) (ha:PA X [a,b] ta) (hs:starEach [a,b] X.env=(false,eval a X.env)::starEach [b] X.env:=by rfl) (hpl:(backTo pos (starEach [b] X.env)).any (·.1)=false:=by rfl) :
  PI X (.Tuple elts x1 tp) (.Call (.Name "zip" p) [a,b] [] pos) (Cc X.K ta):=by
 intro pins s σ H R I h
 refine Call_ (fL I hg hm PyProof.Rows.boot_zip (PyProof.Rows.callWith_type1 (thn (ha pos pins s σ H _ I h) fun us s1 ⟨vs,H1,I1,r1,q1⟩=>?_) hs hpl))
 obtain ⟨z,l2,e,hz,⟨ys,hy⟩,q⟩:=q1
 subst e
 obtain ⟨u,v,rfl,ru,rv⟩:=vals2 r1
 obtain ⟨t,rfl⟩:=ru
 cases rv
 obtain ⟨ws,_,g2⟩:=I1.seqX (tp:=false) hy
 have lt:l2<s1.heap.objs.size:=by
  obtain ⟨o,z,_⟩:=g2
  exact Heap.lt_size z
 refine tP hz g2 fun h' b1 b2 b3 b4 b5 hk=>?_
 refine wpAny_pyIter_zip b1 ?_
 have hfp:∀ c∈[s1.heap.objs.size+4,s1.heap.objs.size+2,s1.heap.objs.size+3,s1.heap.objs.size,s1.heap.objs.size+1],ij X pins H1 c:=fun c hc=>by
  have hge:s1.heap.objs.size≤c:=by
   simp only [List.mem_cons,List.not_mem_nil,or_false] at hc
   omega
  exact I1.fpOk hge (I1.hok.fresh hge)
 exact ⟨s1.heap.objs.size+4,_,_,_,H1,rfl,I1.kept (t':=s1.toks) hk,tN (zipApart_new lt lt),⟨b1,b2,⟨_,_,b3⟩,b4,b5.iter⟩,hfp,q⟩
end
theorem yt {K:PySem.W.Frag} {z:Str} {b:Addr} {ys:List V} {g:TG} {tb:TS} {D:Ends} {σ:St} {H:Hp} (Pv:Nat→St→Hp→Prop) (h0:Pv 0 σ H) (hle:z.cps.size=ys.length) (hl:∀ i σ H,i≤ys.length→Pv i σ H→SqL K H b ys)
  (hs:∀ i c y σ H T,z.cps[i]?=some c→ys[i]?=some y→Pv i σ H→H T=none→g (.ref T) σ (upd H T (.tup [sgn c,y])) fun σ2 H2=>tb { D with nx:=Pv (i+1),ct:=Pv (i+1),bk:=D.nx } σ2 H2) (hd:∀ σ H,Pv ys.length σ H→D.nx σ H) :
  ∃ W:Nat→Nat→St→Hp→Prop,(∃ m,W 0 m σ H)∧∀ i m σ H,W i m σ H→((we K z b).stop i H∧D.nx σ H)∨((we K z b).go i H∧∃ N:St→Hp→Prop,(∀ σ' H',N σ' H'→∃ m',m'<m∧W (i+1) m' σ' H')∧∀ x H',(we K z b).yld i H x H'→g x σ H' fun σ2 H2=>tb { D with nx:=N,ct:=N,bk:=D.nx } σ2 H2):=by
 refine ⟨fun i m σ H=>m=ys.length - i∧i≤ys.length∧Pv i σ H,⟨ys.length,by simp,Nat.zero_le _,h0⟩,?_⟩
 rintro i m σ H ⟨rfl,hi,p⟩
 have q2:=hl i σ H hi p
 by_cases hlt:i<ys.length
 ·have e1:z.cps[i]?=some _:=Array.getElem?_eq_getElem (show i<z.cps.size by omega)
  have e2:=List.getElem?_eq_getElem hlt
  refine .inr ⟨⟨ys,_,_,q2,e1,e2⟩,Pv (i+1),fun σ' H' p'=>⟨ys.length - (i+1),by omega,rfl,hlt,p'⟩,fun v H' y=>?_⟩
  obtain ⟨T,c,y,hT,z1,z2,z3,z4⟩:=y
  subst z1 z2
  exact hs i c y σ H T z3 (z4 ys q2) p hT
 ·have e:i=ys.length:=by omega
  refine .inl ⟨⟨⟨ys,q2⟩,?_⟩,hd σ H (by rw [← e]; exact p)⟩
  simp
  omega
end L2
namespace L2
open PySem PySem.Spec PyProof.Rows
def jnL (y:List Nat):List (List Nat)→List Nat
 | []=>[]
 | [x]=>x
 | x::z::r=>x++(y++jnL y (z::r))
theorem ny (y:Str):∀ xs:List Str,(Str.join y xs).cps.toList=jnL y.cps.toList (xs.map fun x=>x.cps.toList)
 | []=>rfl
 | [x]=>rfl
 | x::z::r=>by
  have ih:=ny y (z::r)
  show (x++y++Str.join y (z::r)).cps.toList=_
  rw [br,br,ih,List.append_assoc]
  rfl
theorem rW (y:Str) (xs:List Str):(Txt.join y xs).cps.toList=jnL y.cps.toList (xs.map fun x=>x.cps.toList):=by
 show (Builtin.Str.glued y xs).cps.toList=_
 rw [StrLaws.glued_eq_join,ny]
theorem sq {x y:Str} {c0 i:Nat} {t0:List Nat} (hy:y.cps.toList=c0::t0) (h:StrLaws.At x y x.length i):x.cps.toList[i]?=some c0:=by
 obtain ⟨h1,h2⟩:=h
 rw [StrLaws.subAt_eq,beq_iff_eq] at h2
 have e:((x.cps.toList.drop i).take y.length)[0]?=some c0:=by rw [h2,hy]; rfl
 have hl:0<y.length:=by
  have:=bq y
  rw [hy,List.length_cons] at this
  omega
 rw [List.getElem?_take_of_lt hl,List.getElem?_drop] at e
 exact e
theorem gL {x y p:Str} {c0 a f:Nat} {t0 rest:List Nat} {cuts:List Nat} (hy:y.cps.toList=c0::t0) (hp:c0∉p.cps.toList) (hd:x.cps.toList.drop a=p.cps.toList++(y.cps.toList++rest)) (g:StrLaws.ChainG x y x.length a cuts f) (hn:∀ k,f≤k→¬ StrLaws.At x y x.length k) :
  ∃ rr,cuts=(a+p.length)::rr∧StrLaws.ChainG x y x.length (a+p.length+y.length) rr f∧Builtin.Str.strSub x a (a+p.length)=p∧x.cps.toList.drop (a+p.length+y.length)=rest:=by
 have lp:=bq p
 have ly:=bq y
 have lx:=bq x
 have hlen:=congrArg List.length hd
 rw [List.length_drop,List.length_append,List.length_append] at hlen
 have ypos:1≤y.length:=by rw [← ly,hy,List.length_cons]; omega
 have d1:x.cps.toList.drop (a+p.length)=y.cps.toList++rest:=by
  rw [← List.drop_drop,hd,← lp,List.drop_left]
 have d2:x.cps.toList.drop (a+p.length+y.length)=rest:=by
  rw [← List.drop_drop,d1,← ly,List.drop_left]
 have hA:StrLaws.At x y x.length (a+p.length):=by
  refine ⟨by omega,?_⟩
  rw [StrLaws.subAt_eq,beq_iff_eq,d1,← ly,List.take_left]
 have low:∀ k,a≤k→k<a+p.length→¬ StrLaws.At x y x.length k:=fun k h1 h2 h3=>by
  have e:=sq hy h3
  have e2:(x.cps.toList.drop a)[k - a]?=some c0:=by
   rw [List.getElem?_drop,show a+(k - a)=k by omega]
   exact e
  rw [hd,List.getElem?_append_left (by omega)] at e2
  exact hp (List.mem_of_getElem? e2)
 have e1:Builtin.Str.strSub x a (a+p.length)=p:=cQ (by
  rw [StrLaws.strSub_toList,hd,show a+p.length - a=p.length by omega,← lp,List.take_left])
 cases cuts with
 | nil =>
  have ef:f=a:=g
  exact absurd hA (hn _ (by omega))
 | cons c rr =>
  obtain ⟨g1,g2,g3,g4⟩:=g
  have ec:c=a+p.length:=by
   rcases Nat.lt_trichotomy c (a+p.length) with h | h | h
   ·exact absurd g2 (low c g1 h)
   ·exact h
   ·exact absurd hA (g3 _ (by omega) h)
  subst ec
  exact ⟨rr,rfl,g4,e1,d2⟩
theorem chain_last {x y p:Str} {c0 a f:Nat} {t0:List Nat} {cuts:List Nat} (hy:y.cps.toList=c0::t0) (hp:c0∉p.cps.toList) (hd:x.cps.toList.drop a=p.cps.toList) (g:StrLaws.ChainG x y x.length a cuts f):cuts=[]∧Builtin.Str.strSub x a x.length=p:=by
 have lp:=bq p
 have lx:=bq x
 have hlen:=congrArg List.length hd
 rw [List.length_drop] at hlen
 refine ⟨?_,cQ (by rw [StrLaws.strSub_toList,hd]; exact List.take_of_length_le (by omega))⟩
 cases cuts with
 | nil=>rfl
 | cons c rr =>
  obtain ⟨g1,g2,_,_⟩:=g
  have e:=sq hy g2
  have e2:(x.cps.toList.drop a)[c - a]?=some c0:=by
   rw [List.getElem?_drop,show a+(c - a)=c by omega]
   exact e
  rw [hd] at e2
  exact absurd (List.mem_of_getElem? e2) hp
theorem jZ {x y:Str} {c0:Nat} {t0:List Nat} (hy:y.cps.toList=c0::t0):∀ (parts:List Str) (a:Nat) (cuts:List Nat) (f:Nat),parts≠[]→(∀ p∈parts,c0∉p.cps.toList)→x.cps.toList.drop a=jnL y.cps.toList (parts.map fun p=>p.cps.toList)→StrLaws.ChainG x y x.length a cuts f→(∀ k,f≤k→¬ StrLaws.At x y x.length k)→StrLaws.partsFrom x y.length a cuts=parts
 | [],_,_,_,h,_,_,_,_=>absurd rfl h
 | [p],a,cuts,f,_,hf,hd,g,hn=>by
  obtain ⟨rfl,e⟩:=chain_last hy (hf p List.mem_cons_self) hd g
  show [Builtin.Str.strSub x a x.length]=_
  rw [e]
 | p::q::r,a,cuts,f,_,hf,hd,g,hn=>by
  obtain ⟨rr,rfl,g',e1,e2⟩:=gL hy (hf p List.mem_cons_self) hd g hn
  show Builtin.Str.strSub x a (a+p.length)::StrLaws.partsFrom x y.length (a+p.length+y.length) rr=_
  rw [e1,jZ hy (q::r) _ rr f (List.cons_ne_nil _ _) (fun z hz=>hf z (List.mem_cons_of_mem _ hz)) e2 g' hn]
theorem kL (x:Str):Builtin.Str.strSub x 0 x.length=x:=cQ (by
 rw [StrLaws.strSub_toList,List.drop_zero,Nat.sub_zero]
 exact List.take_of_length_le (by rw [bq x]; exact Nat.le_refl _))
theorem sh (x:Str):1≤Builtin.Str.strKind x:=by
 unfold Builtin.Str.strKind
 split
 ·exact Nat.le_refl _
 ·split <;> decide
theorem qV {c0:Nat} {t0:List Nat} {y:Str} (hy:y.cps.toList=c0::t0) (hk:Builtin.Str.strKind y=1) {parts:List Str} {z:Str} (hz:z.cps.toList=jnL y.cps.toList (parts.map fun p=>p.cps.toList)) (hne:parts≠[]) (hf:∀ p∈parts,c0∉p.cps.toList):Txt.split z y=parts:=by
 have hw:1≤y.length:=by rw [← bq y,hy,List.length_cons]; omega
 obtain ⟨f,g,hn⟩:=StrLaws.occ_tight z y hw
 have key:=jZ hy parts 0 _ f hne hf (by rw [List.drop_zero]; exact hz) g hn
 unfold Txt.split
 split
 ·rename_i hc
  rw [Bool.or_eq_true,decide_eq_true_eq,decide_eq_true_eq,hk] at hc
  have hlt:z.length<y.length:=hc.resolve_right (by have:=sh z; omega)
  have e0:Builtin.Str.occurrences z y 0 z.length (z.length+1)=[]:=by
   cases e:Builtin.Str.occurrences z y 0 z.length (z.length+1) with
   | nil=>rfl
   | cons c r =>
    rw [e] at g
    have:=g.2.1.1
    omega
  rw [e0] at key
  rw [← key]
  show [z]=[Builtin.Str.strSub z 0 z.length]
  rw [kL]
 ·split
  ·rename_i he
   rw [List.isEmpty_iff.mp he] at key
   rw [← key]
   show [z]=[Builtin.Str.strSub z 0 z.length]
   rw [kL]
  ·rw [StrLaws.partsBetween_eq]
   exact key
theorem nX (s sub:Str) (hi M:Nat):∀ (l:List Nat) (st:Array Nat×Nat),∃ r,(forIn l st (StrLaws.occBody s sub hi M)).run.fst.toList=st.fst.toList++r
 | [],st=>⟨[],by rw [List.append_nil]; rfl⟩
 | i::l,st=>by
  rw [List.forIn_cons]
  unfold StrLaws.occBody
  split
  ·obtain ⟨r,e⟩:=nX s sub hi M l (st.fst.push i,i+sub.length)
   refine ⟨i::r,?_⟩
   have e':(forIn l (st.fst.push i,i+sub.length) (StrLaws.occBody s sub hi M)).run.fst.toList=st.fst.toList++i::r:=by rw [e,Array.toList_push,List.append_assoc]; rfl
   exact e'
  ·obtain ⟨r,e⟩:=nX s sub hi M l st
   exact ⟨r,e⟩
theorem pz (s sub:Str) (hi L:Nat):∀ (l:List Nat) (st:Array Nat×Nat),L≤st.fst.size→(forIn l st (StrLaws.occBody s sub hi L)).run.fst.toList=st.fst.toList
 | [],st,_=>rfl
 | i::l,st,h=>by
  rw [List.forIn_cons]
  unfold StrLaws.occBody
  split
  ·rename_i hc
   have:=hc.1.1.1
   omega
  ·exact pz s sub hi L l st h
theorem nR (s sub:Str) (hi L M:Nat) (hLM:L≤M):∀ (l:List Nat) (st:Array Nat×Nat),st.fst.size≤L→(forIn l st (StrLaws.occBody s sub hi L)).run.fst.toList=(forIn l st (StrLaws.occBody s sub hi M)).run.fst.toList.take L
 | [],st,h=>(List.take_of_length_le (by rw [Array.length_toList]; exact h)).symm
 | i::l,st,h=>by
  rcases Nat.lt_or_ge st.fst.size L with h1 | h1
  ·rw [List.forIn_cons,List.forIn_cons]
   unfold StrLaws.occBody
   by_cases hc:((st.fst.size<L∧st.snd≤i)∧i+sub.length≤hi)∧Builtin.Str.subAt s sub i=true
   ·have hc':((st.fst.size<M∧st.snd≤i)∧i+sub.length≤hi)∧Builtin.Str.subAt s sub i=true:=⟨⟨⟨by omega,hc.1.1.2⟩,hc.1.2⟩,hc.2⟩
    rw [if_pos hc,if_pos hc']
    exact nR s sub hi L M hLM l _ (by rw [Array.size_push]; omega)
   ·have hc':¬ (((st.fst.size<M∧st.snd≤i)∧i+sub.length≤hi)∧Builtin.Str.subAt s sub i=true):=fun q=>hc ⟨⟨⟨h1,q.1.1.2⟩,q.1.2⟩,q.2⟩
    rw [if_neg hc,if_neg hc']
    exact nR s sub hi L M hLM l _ h
  ·rw [pz s sub hi L (i::l) st h1]
   obtain ⟨r,e⟩:=nX s sub hi M (i::l) st
   rw [e,List.take_append_of_le_length (by rw [Array.length_toList]; omega)]
   exact (List.take_of_length_le (by rw [Array.length_toList]; exact h)).symm
theorem zL (x y:Str) (L:Nat) (h:L≤x.length+1):Builtin.Str.occurrences x y 0 x.length L=(Builtin.Str.occurrences x y 0 x.length (x.length+1)).take L:=by
 rw [StrLaws.occ_eq,StrLaws.occ_eq]
 exact nR x y x.length L (x.length+1) h _ _ (Nat.zero_le _)
theorem vk {z a b c:Str} (hz:z.cps.toList=a.cps.toList++32::(b.cps.toList++32::c.cps.toList)) (ha:32∉a.cps.toList) (hb:32∉b.cps.toList) :
  ∃ i j,Builtin.Str.occurrences z ⟨#[32]⟩ 0 z.length 2=[i,j]∧Builtin.Str.partsBetween z [i,j] 1=[a,b,c]:=by
 have lz:=bq z
 have la:=bq a
 have lb:=bq b
 have lc:=bq c
 have hlen:=congrArg List.length hz
 rw [List.length_append,List.length_cons,List.length_append,List.length_cons] at hlen
 have hy:(⟨#[32]⟩:Str).cps.toList=32::[]:=rfl
 obtain ⟨f,g,hn⟩:=StrLaws.occ_tight z ⟨#[32]⟩ (Nat.le_refl 1)
 obtain ⟨r1,e1,g1,s1,d1⟩:=gL (p:=a) (rest:=b.cps.toList++32::c.cps.toList) hy ha (by rw [List.drop_zero]; exact hz) g hn
 obtain ⟨r2,e2,g2,s2,d2⟩:=gL (p:=b) (rest:=c.cps.toList) hy hb d1 g1 hn
 rw [e2] at e1
 refine ⟨0+a.length,0+a.length+1+b.length,?_,?_⟩
 ·rw [zL z ⟨#[32]⟩ 2 (by omega),e1]
  rfl
 ·rw [StrLaws.partsBetween_eq]
  show [Builtin.Str.strSub z 0 (0+a.length),Builtin.Str.strSub z (0+a.length+1) (0+a.length+1+b.length),Builtin.Str.strSub z (0+a.length+1+b.length+1) z.length]=_
  have s2':Builtin.Str.strSub z (0+a.length+1) (0+a.length+1+b.length)=b:=s2
  have s3:Builtin.Str.strSub z (0+a.length+1+b.length+1) z.length=c:=cQ (by
   have d2':z.cps.toList.drop (0+a.length+1+b.length+1)=c.cps.toList:=d2
   rw [StrLaws.strSub_toList,d2']
   exact List.take_of_length_le (by omega))
  rw [s1,s2',s3]
def Ae:V→List V→Hp→VK→Prop:=fun x vs H Q=>∃ z a b c:Str,x=.str z∧vs=[.str " ",.int 2]∧z.cps.toList=a.cps.toList++32::(b.cps.toList++32::c.cps.toList)∧32∉a.cps.toList∧32∉b.cps.toList∧z.length≤4000∧∀ p,H p=none→Q (.ref p) (upd H p (.lst [.str a,.str b,.str c]))
theorem iq:(" ":Str)=⟨#[32]⟩:=by decide +kernel
section
variable {X:Cx}
theorem vi:MtM X "str.split" Ae:=by
 intro pins s σ H x vs v us Q I rx rv h
 obtain ⟨z,a,b,c,rfl,rfl,hz,ha,hb,hl,q⟩:=h
 obtain ⟨t,rfl⟩:=rx
 obtain ⟨u',w',rfl,⟨u,rfl⟩,⟨k,rfl⟩⟩:=rv.two
 obtain ⟨i,j,e1,e2⟩:=vk hz ha hb
 rw [iq]
 have lim:limitOf z 2=2:=rfl
 have h1:(decide (z.length<(⟨#[32]⟩:Str).length) || decide (Builtin.Str.strKind z<Builtin.Str.strKind ⟨#[32]⟩))=false:=by
  rw [Bool.or_eq_false_iff,decide_eq_false_iff_not,decide_eq_false_iff_not]
  have hlen:=congrArg List.length hz
  rw [List.length_append,List.length_cons,bq z] at hlen
  have e3:Builtin.Str.strKind ⟨#[32]⟩=1:=by decide +kernel
  have:=sh z
  exact ⟨by show ¬ z.length<1; omega,by rw [e3]; omega⟩
 have e1':Builtin.Str.occurrences z ⟨#[32]⟩ 0 z.length (limitOf z 2)=[i,j]:=e1
 have key:=meets_str_split_sep_max z ⟨#[32]⟩ 2 t u k (by decide) h1 rfl (by rw [e1']; rfl) (by rw [sizeLine_eq]; omega) (by
  rw [e1']
  show (Builtin.Str.partsBetween z [i,j] 1).length≤sizeLine
  rw [e2,sizeLine_eq]
  show 3≤_
  decide)
 refine call_meets F.slot_str_split (typeIs_str _ _ _) F.entry_str_split (F.args_str_split_3 _ _ _) key ?_
 have e2':Builtin.Str.partsBetween z (Builtin.Str.occurrences z ⟨#[32]⟩ 0 z.length (limitOf z 2)) (⟨#[32]⟩:Str).length=[a,b,c]:=by rw [e1']; exact e2
 rw [e2',strsFrom_eq]
 have hv:=fZ (numbered s.toks [a,b,c])
 rw [numbered_texts] at hv
 exact ⟨.ref _,_,I.lnew hv (by show 3≤sizeLine; decide),rfl,q _ I.fresh⟩
end
def qQ (P:Program) (w:World) (K:PySem.W.Frag) (a:Addr) (kvs:List (Key×V)):Prop:=(a == sysModules)=false∧∃ (o:Obj) (vs:List (Key×Value)),K.lookup a=some o∧o.IsDictOf (bH P w) vs∧KV kvs vs
def strOf?:Value→Option Str
 | .str x _=>some x
 | _=>none
theorem qo {v:Value} {x:Str} (h:strOf? v=some x):∃ t,v=.str x t:=by
 cases v <;> simp [strOf?] at h
 subst h
 exact ⟨_,rfl⟩
theorem qd {P:Program} {w:World}:∀ (es:List DictEntry) (zs:List (Str×Str)),es.map (fun e=>(e.hash,strOf? e.key,strOf? e.val))=zs.map (fun z=>(PyData.keyHash w.params z.1,some z.1,some z.2))→
  ∃ vs:List (Key×Value),Pairs (bH P w) es vs∧KV (zs.map fun z=>((Sum.inr z.1:Key),V.str z.2)) vs∧vs.map (·.1)=zs.map (fun z=>(Sum.inr z.1:Key))∧∀ e∈es,∃ k,(bH P w).is k e.key=true∧e.hash=(bH P w).hash k
 | [],[],_=>⟨[],.nil,.nil,rfl,fun e h=>(nomatch h)⟩
 | [],z::zs,h=>by cases h
 | e::es,[],h=>by cases h
 | e::es,z::zs,h=>by
  obtain ⟨h1,h2⟩:=List.cons.inj h
  obtain ⟨vs,p1,p2,p3,p4⟩:=qd es zs h2
  have h1a:=congrArg (·.1) h1
  have h1b:=congrArg (·.2.1) h1
  have h1c:=congrArg (·.2.2) h1
  obtain ⟨t,ek⟩:=qo h1b
  obtain ⟨u,ev⟩:=qo h1c
  have is1:(bH P w).is (Sum.inr z.1) e.key=true:=by rw [ek]; exact j1 P w z.1 t
  refine ⟨(Sum.inr z.1,e.val)::vs,.cons is1 rfl p1,.cons ⟨rfl,u,ev⟩ p2,by rw [List.map_cons,List.map_cons,p3],fun e' he=>?_⟩
  rcases List.mem_cons.mp he with rfl | he
  ·exact ⟨_,is1,h1a⟩
  ·exact p4 e' he
theorem zi {P:Program} {w:World} {K:PySem.W.Frag} {a:Addr} {o:Obj} {es:Array DictEntry} {ep:Nat} (zs:List (Str×Str)) (l:K.lookup a=some o) (c:o=⟨.type "dict",none,.dict es ep,#[]⟩)
  (m:es.toList.map (fun e=>(e.hash,strOf? e.key,strOf? e.val))=zs.map fun z=>(PyData.keyHash w.params z.1,some z.1,some z.2)) (nd:(zs.map (·.1)).Nodup) (hs:(a == sysModules)=false):qQ P w K a (zs.map fun z=>((Sum.inr z.1:Key),V.str z.2)):=by
 obtain ⟨vs,p1,p2,p3,p4⟩:=qd (P:=P) (w:=w) es.toList zs m
 subst c
 refine ⟨hs,_,vs,l,⟨es,ep,⟨rfl,rfl,rfl⟩,rfl,fun e he=>p4 e (Array.mem_toList_iff.mpr he),p1,?_⟩,p2⟩
 rw [p3]
 have:zs.map (fun z=>(Sum.inr z.1:Key))=(zs.map (·.1)).map Sum.inr:=by rw [List.map_map]; rfl
 rw [this]
 exact List.Pairwise.map _ (fun x y h e=>h (Sum.inr.inj e)) nd
section
variable {X:Cx} {pins:List (Addr×Obj)} {σ:St} {H:Hp} {s:Shared} {a:Addr} {kvs:List (Key×V)}
theorem sD (I:Inv X pins σ H s) (g:qQ X.prog X.w X.K a kvs):∃ vs,KV kvs vs∧s.heap.DictOf (bH X.prog X.w) a vs:=by
 obtain ⟨_,o,vs,hk,hd,r⟩:=g
 exact ⟨vs,r,Heap.dictOf_iff.mpr ⟨o,I.kIn a o hk,hd⟩⟩
def Cf (a:Addr) (kvs:List (Key×V)) (td ty:TE):TE:=fun σ H Q=>td σ H fun x H1=>ty σ H1 fun y H2=>∃ k v,x=.ref a∧y=kV k∧bQ kvs k=some v∧Q v H2
def Ag (a:Addr) (kvs:List (Key×V)) (ty td:TE):TE:=fun σ H Q=>ty σ H fun y H1=>td σ H1 fun x H2=>∃ k,x=.ref a∧y=kV k∧Q (.bl (!(bQ kvs k).isSome)) H2
theorem zC {o i:Expr} {pos:Pos} {td ty:TE} (g:qQ X.prog X.w X.K a kvs) (ho:PE X o td) (hi:PE X i ty) (hs:Bk i):PE X (.Subscript o i pos) (Cf a kvs td ty):=by
 intro pins s σ H Q I h
 refine sZ PySem.F.slot_dict_getitem.lookup hs (thn (ho pins s σ H _ I h) fun u s1 ⟨x,H1,I1,rx,q1⟩=>thn (hi pins s1 σ H1 _ I1 q1) fun iv s2 ⟨y,H2,I2,ry,k,v,ex,ey,e,q2⟩=>?_)
 subst ex ey
 obtain rfl:u=Value.ref a:=rx
 obtain ⟨vs,rel,dd⟩:=sD I2 g
 obtain ⟨w',hw,rw'⟩:=RelO.some_of (v:=v) (o:=valueAt vs k) (by rw [← e]; exact rel.val k)
 exact ⟨dd.typeIs,wpAny_getItem_of (j3 ry) dd.mapOf hw ⟨v,H2,I2.tok _,rw',q2⟩⟩
theorem uy {o i:Expr} {td ty:TE} (g:qQ X.prog X.w X.K a kvs) (hi:PE X i ty) (ho:PE X o td):PC X .NotIn i o (Ag a kvs ty td):=by
 intro pins s σ H Q I h
 refine thn (hi pins s σ H _ I h) fun iv s1 ⟨y,H1,I1,ry,q1⟩=>thn (ho pins s1 σ H1 _ I1 q1) fun u s2 ⟨x,H2,I2,rx,k,ex,ey,q2⟩=>?_
 subst ex ey
 obtain rfl:u=Value.ref a:=rx
 obtain ⟨vs,rel,dd⟩:=sD I2 g
 refine wpAny_notIn_of (j3 ry) g.1 dd.mapOf ?_
 rw [← (rel.val k).isSome_eq]
 exact ⟨.bl (!(bQ kvs k).isSome),H2,I2.tok _,rfl,q2⟩
end
end L2
namespace L2
open PySem PySem.Spec PyProof.Rows
theorem sU (xs:Array Nat):∀ (k:Nat) (acc:Array Nat),((List.replicate k xs).foldl (·++·) acc).toList=acc.toList++(List.replicate k xs.toList).flatten
 | 0,acc=>by simp
 | k+1,acc=>by
  rw [List.replicate_succ,List.foldl_cons,sU xs k,Array.toList_append,List.replicate_succ,List.flatten_cons,List.append_assoc]
section
variable {X:Cx}
theorem pF:OpR X (binaryOp .Mult) (fun x y H Q=>∃ (z:Str) (n:Int),x=.str z∧y=.int n∧1≤n∧n≤100∧z.length≤100∧∀ r:Str,r.cps.toList=(List.replicate n.toNat z.cps.toList).flatten→Q (.str r) H):=by
 intro pins s σ H x y v u Q I rx ry h
 obtain ⟨z,n,rfl,rfl,h1,h2,hz,q⟩:=h
 obtain ⟨t,rfl⟩:=rx
 obtain ⟨t',rfl⟩:=ry
 have hn:¬ n<1:=by omega
 refine P.mul_str (by rw [decide_eq_false (by omega),decide_eq_false (by omega)]; rfl) (fun _ _=>?_) (fun _ _=>?_) ?_
 ·have:(100:Int)≤(2 ^ 63 - 1) / n:=by
   rw [Int.le_ediv_iff_mul_le (by omega)]
   omega
  omega
 ·have:z.length * n.toNat≤100 * 100:=Nat.mul_le_mul hz (by omega)
  have:z.length * n.toNat≤sizeLine:=Nat.le_trans this (by decide)
  exact decide_eq_false (by omega)
 ·rw [if_neg hn]
  split
  ·rename_i hc
   refine ⟨.str z,H,I,⟨t,rfl⟩,q z ?_⟩
   rw [Bool.or_eq_true] at hc
   rcases hc with hc | hc
   ·have:n=1:=by simpa using hc
    subst this
    simp
   ·have h0:z.cps.toList=[]:=by
     have:z.length=0:=by simpa using hc
     have l:=bq z
     exact List.length_eq_zero_iff.mp (by omega)
    rw [h0]
    simp
  ·refine ⟨?_,.str _,H,I.tok _,⟨_,rfl⟩,q _ ?_⟩
   ·show ((List.replicate n.toNat z.cps).foldl (·++·) #[]).size≤sizeLine
    rw [qa]
    have:n.toNat * z.cps.size≤100 * 100:=Nat.mul_le_mul (by omega) hz
    show 0+_≤_
    rw [Nat.zero_add]
    exact Nat.le_trans this (by decide)
   ·show ((List.replicate n.toNat z.cps).foldl (·++·) #[]).toList=_
    rw [sU]
    rfl
end
end L2
namespace L2
open PySem PySem.Spec PyProof.Rows
section
variable {X:Cx}
theorem cZ:cW X (.type "str") (fun xs H Q=>(xs=[.non]∧Q (.str "None") H)∨(∃ z,xs=[.str z]∧Q (.str z) H)∨∃ i:Int,xs=[.int i]∧i.natAbs.log2<1920∧Q (.str (toString i)) H):=by
 intro pins s σ H xs us Q I r h
 rcases h with ⟨rfl,q⟩ | ⟨z,rfl,q⟩ | ⟨i,rfl,hz,q⟩
 ·obtain ⟨u,rfl,ru⟩:=vals1 r
  cases ru
  exact PySem.P.str_of_none ⟨.str _,H,I.tok _,⟨_,rfl⟩,q⟩
 ·obtain ⟨u,rfl,t,rfl⟩:=vals1 r
  exact PySem.P.str_of_str ⟨.str _,H,I,⟨_,rfl⟩,q⟩
 ·obtain ⟨u,rfl,t,rfl⟩:=vals1 r
  exact PySem.P.str_of_int hz ⟨.str _,H,I.tok _,⟨_,rfl⟩,q⟩
theorem nY {prog:Program} {w:World} {A:Around} {E:Value→Shared→Prop} {s:Shared} {l:Addr} {items:Array Value} {n:Nat} {x:Int} {u:Tok} {Q:Value→Shared→Prop} (gl:s.heap.get? l=some { cls:=.type "list",dict:=none,data:=.seq items n,slots:=#[] }) (x0:0≤x) (x1:x≤1000) (sz:items.size * x.toNat≤1000)
  (q:Q (.ref s.heap.objs.size) { s with heap:=s.heap.push { cls:=.type "list",data:=.seq (List.foldl (fun x1 x2=>x1++x2) #[] (List.replicate (if items.isEmpty=true then 0 else x.toNat) items)) } }):wpAny (model prog w) A (binaryOp .Mult (.ref l) (.int x u)) Q E s:=by
 refine wpAny_binaryOp_repeat_ref (T:="list") (U:="int") (by decide) ⟨_,gl,rfl⟩ (fun s'=>typeIs_int s' x u) noFill_list_mul F.fills_int_mul F.slot_int_rmul repeat_list F.slot_int_index.lookup ?_
 refine call_meets F.slot_int_rmul (typeIs_int s x u) F.entry_int_rmul (F.args_int_rmul_2 _ _) (int___rmul___int_list x u l items n) ⟨gl,rfl,⟨_,gl,rfl⟩,?_⟩
 exact call_meets F.slot_list_mul ⟨_,gl,rfl⟩ F.entry_list_mul (F.args_list_mul_2 _ _) (AutoListH.list___mul___list_int_3 l items n x u (by simp [Builtin.List.listFitsIndex]; omega) (by omega) (by simp [Builtin.List.listTooLong,sizeLine]; omega)) ⟨gl,q⟩
def C9:R2:=fun x y H Q=>∃ (a:Addr) (xs:List V) (k:Nat),x=.ref a∧y=.int k∧H a=some (.lst xs)∧k≤1000∧xs.length * k≤1000∧∀ p,H p=none→Q (.ref p) (upd H p (.lst (List.replicate k xs).flatten))
theorem zJ:OpR X (binaryOp .Mult) C9:=by
 intro pins s σ H x y v u Q I rx ry h
 obtain ⟨a,xs,k,rfl,rfl,ha,hk,hz,q⟩:=h
 cases rx
 obtain ⟨t,rfl⟩:=ry
 obtain ⟨_,its,n,r,hlen,ho⟩:=I.lstM ha
 have hnew:List.foldl (fun x1 x2=>x1++x2) #[] (List.replicate (if its.toArray.isEmpty=true then 0 else (k:Int).toNat) its.toArray)=(List.replicate k its).flatten.toArray:=by
  by_cases he:its=[]
  ·subst he
   have:(List.replicate k ([]:List Value)).flatten=[]:=by simp
   rw [this]
   rfl
  ·have he':its.toArray.isEmpty=false:=by
    rw [List.isEmpty_toArray]
    simpa using he
   rw [he',if_neg (by decide)]
   have:=foldl_rep its k []
   rw [List.nil_append] at this
   exact this
 have hs:its.toArray.size * (k:Int).toNat≤1000:=by
  rw [List.size_toArray,← hlen]
  exact hz
 refine nY ho (by omega) (by omega) hs ?_
 rw [hnew]
 exact ⟨.ref _,_,I.lnew (r.rep k) (by rw [len_rep,Nat.mul_comm,sizeLine_eq]; omega),rfl,q _ I.fresh⟩
end
end L2
namespace K83
open PySem L2
def top (i:Nat):Stmt:=PySem.Challenge.pw_earbells_k83_whole_slower_and_joined.main.body.getD i (.Pass ⟨0,0,0,0⟩)
abbrev eE:Stmt:=top 14
abbrev dq:Stmt:=top 15
abbrev cU:Stmt:=top 16
abbrev iV:Stmt:=inClass (top 18) 0
abbrev kN:Stmt:=inClass (top 18) 1
abbrev nQ:Stmt:=inClass (top 18) 2
abbrev i8:Stmt:=inClass (top 19) 0
abbrev iZ:Stmt:=inClass (top 20) 0
abbrev iX:Stmt:=inClass (top 21) 0
abbrev fo:Stmt:=top 22
abbrev lV:Stmt:=top 23
abbrev jK:Stmt:=top 32
abbrev jw:Stmt:=top 33
abbrev jI:Stmt:=top 34
abbrev eJ:Stmt:=top 35
abbrev dv:Stmt:=top 36
abbrev jU:Stmt:=top 37
abbrev jv:Stmt:=top 38
abbrev ir:Stmt:=top 39
abbrev iL:Stmt:=top 40
abbrev eG:Stmt:=top 41
abbrev oa:Stmt:=top 43
abbrev ow:Stmt:=top 44
abbrev lR:Stmt:=top 45
abbrev jA:Stmt:=top 46
abbrev BX:Stmt:=top 48
abbrev vd:Stmt:=top 49
abbrev AN:Stmt:=top 51
abbrev kR:Stmt:=top 53
abbrev vE:Stmt:=top 54
abbrev yg:Stmt:=top 55
abbrev AI:Stmt:=top 58
abbrev uJ:Stmt:=top 59
abbrev Ap:Stmt:=top 60
abbrev zq:Stmt:=top 61
abbrev eZ:Stmt:=top 62
abbrev gs:Stmt:=top 63
abbrev dy:Stmt:=top 64
abbrev g6:Stmt:=top 65
abbrev iJ:Stmt:=top 66
abbrev fX:Stmt:=top 67
abbrev cx:Stmt:=top 69
abbrev cC:Stmt:=top 70
abbrev og:Stmt:=top 71
abbrev rm:Stmt:=top 72
abbrev me:Stmt:=top 73
abbrev sf:Stmt:=top 75
abbrev BU:Stmt:=top 76
abbrev Dg:Stmt:=top 78
abbrev BY:Stmt:=top 80
abbrev qb:Stmt:=top 81
abbrev DC:Stmt:=top 82
abbrev Az:Stmt:=top 83
abbrev AE:Stmt:=top 84
abbrev B0:Stmt:=top 85
abbrev B4:Stmt:=top 86
abbrev CO:Stmt:=top 87
abbrev DV:Stmt:=top 88
abbrev gi:Stmt:=top 90
abbrev cy:Stmt:=top 91
abbrev eW:Stmt:=top 93
abbrev jP:Stmt:=top 99
abbrev cH:Stmt:=top 100
abbrev d4:Stmt:=top 101
abbrev eX:Stmt:=top 103
abbrev zb:Stmt:=top 104
abbrev Aw:Stmt:=top 105
abbrev As:Stmt:=top 106
abbrev zt:Stmt:=top 107
abbrev Ai:Stmt:=top 108
abbrev jM:Stmt:=top 109
abbrev nI:Stmt:=inClass (top 110) 0
abbrev qS:Stmt:=inClass (top 110) 1
abbrev gG:Stmt:=inClass (top 110) 2
abbrev nG:Stmt:=inClass (top 110) 3
abbrev f6:Stmt:=inClass (top 110) 4
abbrev gU:Stmt:=inClass (top 110) 5
abbrev gS:Stmt:=inClass (top 110) 6
abbrev gH:Stmt:=inClass (top 110) 7
abbrev rZ:Stmt:=top 112
abbrev q0:Stmt:=top 113
abbrev nV:Stmt:=top 114
abbrev nZ:Stmt:=top 115
abbrev oi:Stmt:=top 116
abbrev iH:Stmt:=top 117
abbrev oE:Stmt:=top 118
abbrev oy:Stmt:=top 119
abbrev xb:Stmt:=top 120
inductive InR:List Int→List Int→Prop where
 | nil:InR [] []
 | cons {n m:Int} {ns ms:List Int} (h0:0≤n) (h1:n<m) (t:InR ns ms):InR (n::ns) (m::ms)
theorem take_snoc {α:Type} {l:List α} {i:Nat} {x:α} (h:l[i]?=some x):l.take (i+1)=l.take i++[x]:=by
 rw [List.take_succ,h]
 rfl
theorem w6 {ns:List Int} {i:Nat} {z:Int} (h:ns[i]?=some z):atI (ns.map V.int) (i:Int)=some (V.int z):=bj (by rw [List.getElem?_map,h]; rfl)
structure Blt (mg:Str→Option Value):Prop where
 all_:mg "all"=none
 any_:mg "any"=none
 bool_:mg "bool"=none
 divmod_:mg "divmod"=none
 enumerate_:mg "enumerate"=none
 int_:mg "int"=none
 isinstance_:mg "isinstance"=none
 len_:mg "len"=none
 list_:mg "list"=none
 max_:mg "max"=none
 min_:mg "min"=none
 range_:mg "range"=none
 set_:mg "set"=none
 sorted_:mg "sorted"=none
 str_:mg "str"=none
 sum_:mg "sum"=none
 tuple_:mg "tuple"=none
 zip_:mg "zip"=none
 ValueError_:mg "ValueError"=none
 abs_:mg "abs"=none
theorem AW {K:PySem.W.Frag} {h:Heap} {mg:Str→Option Value} (X:K.In h) (G:h.Ns mainGlobals mg) (z1:PySem.W.nsIn K mainGlobals "all"=some none) (z2:PySem.W.nsIn K mainGlobals "any"=some none) (z3:PySem.W.nsIn K mainGlobals "bool"=some none) (z4:PySem.W.nsIn K mainGlobals "divmod"=some none)
  (z5:PySem.W.nsIn K mainGlobals "enumerate"=some none) (z6:PySem.W.nsIn K mainGlobals "int"=some none) (z7:PySem.W.nsIn K mainGlobals "isinstance"=some none) (z8:PySem.W.nsIn K mainGlobals "len"=some none) (z9:PySem.W.nsIn K mainGlobals "list"=some none) (z10:PySem.W.nsIn K mainGlobals "max"=some none)
  (z11:PySem.W.nsIn K mainGlobals "min"=some none) (z12:PySem.W.nsIn K mainGlobals "range"=some none) (z13:PySem.W.nsIn K mainGlobals "set"=some none) (z14:PySem.W.nsIn K mainGlobals "sorted"=some none) (z15:PySem.W.nsIn K mainGlobals "str"=some none) (z16:PySem.W.nsIn K mainGlobals "sum"=some none)
  (z17:PySem.W.nsIn K mainGlobals "tuple"=some none) (z18:PySem.W.nsIn K mainGlobals "zip"=some none) (z19:PySem.W.nsIn K mainGlobals "ValueError"=some none) (z20:PySem.W.nsIn K mainGlobals "abs"=some none):Blt mg :=
 ⟨PySem.W.mg_none_of X G z1,PySem.W.mg_none_of X G z2,PySem.W.mg_none_of X G z3,PySem.W.mg_none_of X G z4,PySem.W.mg_none_of X G z5,PySem.W.mg_none_of X G z6,PySem.W.mg_none_of X G z7,PySem.W.mg_none_of X G z8,PySem.W.mg_none_of X G z9,PySem.W.mg_none_of X G z10,PySem.W.mg_none_of X G z11,
  PySem.W.mg_none_of X G z12,PySem.W.mg_none_of X G z13,PySem.W.mg_none_of X G z14,PySem.W.mg_none_of X G z15,PySem.W.mg_none_of X G z16,PySem.W.mg_none_of X G z17,PySem.W.mg_none_of X G z18,PySem.W.mg_none_of X G z19,PySem.W.mg_none_of X G z20⟩
theorem yF (K:PySem.W.Frag):PySem.W.kitOne K (.type "int") (.type "int")=some true:=by kernel_rfl
theorem yA (K:PySem.W.Frag):PySem.W.kitOne K (.type "int") (.type "bool")=some false:=by kernel_rfl
theorem gE (K:PySem.W.Frag):PySem.W.kitOne K (.type "str") (.type "str")=some true:=by kernel_rfl
theorem nC (K:PySem.W.Frag):PySem.W.kitOne K (.type "int") (.type "str")=some false:=by kernel_rfl
theorem AZ (K:PySem.W.Frag):PySem.W.kitOne K (.type "bool") (.type "str")=some false:=by kernel_rfl
theorem Bi (K:PySem.W.Frag):PySem.W.kitOne K (.type "bool") (.type "int")=some true:=by kernel_rfl
theorem Bm (K:PySem.W.Frag):PySem.W.kitOne K (.type "bool") (.type "bool")=some true:=by kernel_rfl
theorem Bp (K:PySem.W.Frag):PySem.W.kitOne K (.type "NoneType") (.type "str")=some false:=by kernel_rfl
theorem Bo (K:PySem.W.Frag):PySem.W.kitOne K (.type "NoneType") (.type "int")=some false:=by kernel_rfl
theorem Bz (K:PySem.W.Frag):PySem.W.kitOne K (.type "list") (.type "str")=some false:=by kernel_rfl
theorem Bc (K:PySem.W.Frag):PySem.W.kitOne K (.type "list") (.type "int")=some false:=by kernel_rfl
theorem Br (K:PySem.W.Frag):PySem.W.kitOne K (.type "tuple") (.type "str")=some false:=by kernel_rfl
theorem Bq (K:PySem.W.Frag):PySem.W.kitOne K (.type "tuple") (.type "int")=some false:=by kernel_rfl
theorem A2 (K:PySem.W.Frag):PySem.W.kitOne K (.type "str") (.type "int")=some false:=by kernel_rfl
end K83
namespace K83
open PySem L2
section
variable {P:Program} {w:World} {K:PySem.W.Frag} {mg:Str→Option Value} {base:Heap} {f:Addr} {fd:FuncData}
structure Kind (K:PySem.W.Frag) (H:Hp) (v:V) (isS isW:Bool):Prop where
 ex:∃ (t:Value) (bi bb:Bool),TyOf K H v t∧PySem.W.kitOne K t (.type "str")=some isS∧PySem.W.kitOne K t (.type "int")=some bi∧(bi=true→PySem.W.kitOne K t (.type "bool")=some bb)∧isW=(bi && !bb)
theorem lQ (H:Hp) (i:Int):Kind K H (.int i) false true:=⟨_,true,false,.int i,nC K,yF K,fun _=>yA K,rfl⟩
theorem yN (H:Hp) (b:Bool):Kind K H (.bl b) false false:=⟨_,true,true,.bl b,AZ K,Bi K,fun _=>Bm K,rfl⟩
theorem wo (H:Hp):Kind K H .non false false:=⟨_,false,false,.non,Bp K,Bo K,(fun z=>nomatch z),rfl⟩
theorem xq {H:Hp} {a:Addr} {xs:List V} (h:H a=some (.lst xs)):Kind K H (.ref a) false false:=⟨_,false,false,.lst h,Bz K,Bc K,(fun z=>nomatch z),rfl⟩
theorem yu {H:Hp} {a:Addr} {xs:List V} (h:H a=some (.tup xs)):Kind K H (.ref a) false false:=⟨_,false,false,.tup h,Br K,Bq K,(fun z=>nomatch z),rfl⟩
theorem yb (H:Hp) (x:Str):Kind K H (.str x) true false:=⟨_,false,false,.str x,gE K,A2 K,(fun z=>nomatch z),rfl⟩
def dJ (K:PySem.W.Frag):Sp:=fun vs H Q _=>∃ (v:V) (isS isW:Bool),vs=[v]∧Kind K H v isS isW∧Q (.bl isW) H
theorem gC:FnScope ["thing"] ["thing"] (aq eE):=⟨rfl,rfl,rfl,by decide +kernel,rfl,by decide +kernel,by decide +kernel⟩
theorem g7 (F:Fun K "is_whole" "is_whole" eE f fd) (B:Blt mg):FnOk P w K mg base CX0 1 f fd ["thing"] (dJ K):=by
 refine F.ok gC (fun vs H Q E h=>?_) (fun cdv A outer s H vs Q E hr h=>?_)
 ·obtain ⟨v,isS,isW,rfl,_⟩:=h
  rfl
 obtain ⟨v,isS,isW,rfl,kd,q⟩:=h
 obtain ⟨t,bi,bb,ty,k1,k2,k3,k4⟩:=kd.ex
 refine ⟨_,(ak (av (iE (ay (bU "int") rfl B.isinstance_ PyProof.Rows.boot_isinstance (aa (pv 0) (aa (cE (v:=.ty "int") rfl B.int_ PyProof.Rows.boot_int rfl) ae))) (gp (w5 (ay (bU "bool") rfl B.isinstance_ PyProof.Rows.boot_isinstance (aa (pv 0) (aa (cE (v:=.ty "bool") rfl B.bool_ PyProof.Rows.boot_bool rfl) ae)))))))),?_⟩
 refine ⟨_,rfl,_,_,_,rfl,ty,k2,_,rfl,?_⟩
 subst k4
 cases bi with
 | false=>exact bh q
 | true =>
  refine bf ?_
  refine ⟨_,rfl,_,_,_,rfl,ty,k3 rfl,_,rfl,?_⟩
  exact q
def bu (K:PySem.W.Frag):Sp:=fun vs H Q _=>∃ (p C dx:Addr) (v:V),vs=[.ref p,v]∧H p=some (.ins C dx [])∧Cls K C∧NoAttr K C "need"∧Q .non (upd H p (.ins C dx [("need",v)]))
def et (K:PySem.W.Frag):Sp:=fun vs H Q _=>∃ (p C dx:Addr),vs=[.ref p]∧H p=some (.ins C dx [])∧Cls K C∧NoAttr K C "need"∧Q .non (upd H p (.ins C dx [("need",.int 1)]))
theorem lC:FnScope ["self","need"] ["self","need"] (aq iV):=⟨rfl,rfl,rfl,by decide +kernel,rfl,by decide +kernel,by decide +kernel⟩
theorem k6 (F:Fun K "__init__" "Rule.__init__" iV f fd):FnOk P w K mg base CX0 1 f fd ["self","need"] (bu K):=by
 refine F.ok lC (fun vs H Q E h=>?_) (fun cdv A outer s H vs Q E hr h=>?_)
 ·obtain ⟨p,C,dx,v,rfl,_⟩:=h
  rfl
 obtain ⟨p,C,dx,v,rfl,hp,cl,na,q⟩:=h
 refine ⟨_,(ak (qM (pv 0) (pv 1) rfl)),?_⟩
 exact ⟨_,rfl,_,rfl,p,C,dx,[],rfl,hp,cl,na,(by show 0<1000; decide),q⟩
theorem l8:FnScope ["self","many"] ["self","many"] (aq i8):=⟨rfl,rfl,rfl,by decide +kernel,rfl,by decide +kernel,by decide +kernel⟩
theorem kX {R g:Addr} {gd:FuncData} (F:Fun K "__init__" "All.__init__" i8 f fd) (mR:mg "Rule"=some (.ref R)) (c:ClsFn K R "__init__" g) (G:FnOk P w K mg base CX0 1 g gd ["self","need"] (bu K)) (b:Binds K gd ["self","need"] []) :
  FnOk P w K mg base CX0 2 f fd ["self","many"] (bu K):=by
 refine F.ok l8 (fun vs H Q E h=>?_) (fun cdv A outer s H vs Q E hr h=>?_)
 ·obtain ⟨p,C,dx,v,rfl,_⟩:=h
  rfl
 obtain ⟨p,C,dx,v,rfl,hp,cl,na,q⟩:=h
 refine ⟨_,(ak (bp (fF rfl mR c G hr b .nil bN (aa (pv 0) (aa (pv 1) ae))))),?_⟩
 exact ⟨_,rfl,_,rfl,p,C,dx,v,rfl,hp,cl,na,q⟩
theorem lS:FnScope ["self","need"] ["self","need"] (aq iX):=⟨rfl,rfl,rfl,by decide +kernel,rfl,by decide +kernel,by decide +kernel⟩
theorem mj {R g:Addr} {gd:FuncData} (F:Fun K "__init__" "Some.__init__" iX f fd) (mR:mg "Rule"=some (.ref R)) (c:ClsFn K R "__init__" g) (G:FnOk P w K mg base CX0 1 g gd ["self","need"] (bu K)) (b:Binds K gd ["self","need"] []) :
  FnOk P w K mg base CX0 2 f fd ["self","need"] (bu K):=by
 refine F.ok lS (fun vs H Q E h=>?_) (fun cdv A outer s H vs Q E hr h=>?_)
 ·obtain ⟨p,C,dx,v,rfl,_⟩:=h
  rfl
 obtain ⟨p,C,dx,v,rfl,hp,cl,na,q⟩:=h
 refine ⟨_,(ak (bp (fF rfl mR c G hr b .nil bN (aa (pv 0) (aa (pv 1) ae))))),?_⟩
 exact ⟨_,rfl,_,rfl,p,C,dx,v,rfl,hp,cl,na,q⟩
theorem mf:FnScope ["self"] ["self"] (aq iZ):=⟨rfl,rfl,rfl,by decide +kernel,rfl,by decide +kernel,by decide +kernel⟩
theorem kZ {R g:Addr} {gd:FuncData} (F:Fun K "__init__" "Any.__init__" iZ f fd) (mR:mg "Rule"=some (.ref R)) (c:ClsFn K R "__init__" g) (G:FnOk P w K mg base CX0 1 g gd ["self","need"] (bu K)) (b:Binds K gd ["self","need"] []) :
  FnOk P w K mg base CX0 2 f fd ["self"] (et K):=by
 refine F.ok mf (fun vs H Q E h=>?_) (fun cdv A outer s H vs Q E hr h=>?_)
 ·obtain ⟨p,C,dx,rfl,_⟩:=h
  rfl
 obtain ⟨p,C,dx,rfl,hp,cl,na,q⟩:=h
 refine ⟨_,(ak (bp (fF rfl mR c G hr b .nil bN (aa (pv 0) (aa aj ae))))),?_⟩
 exact ⟨_,rfl,p,C,dx,.int 1,rfl,hp,cl,na,q⟩
structure Own (K:PySem.W.Frag) (C fi:Addr):Prop where
 cl:Cls K C
 nN:NoAttr K C "need"
 mks:Mk K C fi
theorem iA:¬ (V.str ("any":Str)=V.str ("all":Str)):=by
 intro h
 injection h with h
 exact absurd h (by decide +kernel)
theorem dz {H:Hp} {x dx C:Addr} {l1 l2:List (Str×V)} (nx:H x=none) (ndx:H dx=none):Same H (upd (upd (upd H dx (.own x)) x (.ins C dx l1)) x (.ins C dx l2)):=fun b o e=>by
 rw [au (aG e nx),au (aG e nx),au (aG e ndx)]
 exact e
def Made (C:Addr) (n:Int) (H:Hp) (Q:VK):Prop:=∀ x dx H',Same H H'→H x=none→H' x=some (.ins C dx [("need",.int n)])→Q (.ref x) H'
def DU (K:PySem.W.Frag) (H:Hp) (wd:V) (many:Int):Prop:=(∃ t,wd=.str t∧t≠"all"∧t≠"any")∨(∃ n,wd=.int n∧¬ (1≤n∧n≤many))∨Kind K H wd false false
def fQ (cA cY cN:Addr):Sp:=fun vs H Q E=>∃ (t:Str) (many:Int),vs=[.str t,.int many]∧(t="all"∧Made cA many H Q∨t="any"∧Made cY 1 H Q∨t≠"all"∧t≠"any"∧E (.ref cN) none H)
theorem oj:FnScope ["text","many"] ["text","many"] (aq lV):=⟨rfl,rfl,rfl,by decide +kernel,rfl,by decide +kernel,by decide +kernel⟩
theorem n5 {cA cY cN fA fY:Addr} {dA dY:FuncData} (F:Fun K "rule_of_text" "rule_of_text" lV f fd) (mA:mg "All"=some (.ref cA)) (mY:mg "Any"=some (.ref cY)) (mN:mg "NoRule"=some (.ref cN)) (xN:qw K cN) (oA:Own K cA fA) (oY:Own K cY fY)
  (GA:FnOk P w K mg base CX0 2 fA dA ["self","many"] (bu K)) (bA:Binds K dA ["self","many"] []) (GY:FnOk P w K mg base CX0 2 fY dY ["self"] (et K)) (bY:Binds K dY ["self"] []) :
  FnOk P w K mg base (CXE P w) 4 f fd ["text","many"] (fQ cA cY cN):=by
 refine F.okX oj (fun vs H Q E h=>?_) (fun cdv A' outer s H vs Q E hr h=>?_)
 ·obtain ⟨t,many,rfl,_⟩:=h
  rfl
 obtain ⟨t,many,rfl,hw⟩:=h
 refine ⟨_,(af (aU (aC cF (pv 0) aB (aL _))
  (ak (av (ko oA.mks GA hr rfl mA bA .nil bN (aa (pv 1) ae))))
  aw)
  (af (aU (aC cF (pv 0) aB (aL _))
  (ak (av (mq oY.mks GY hr rfl mY bY .nil bN)))
  aw)
  (ak (mW nA rfl rfl mN xN)))),?_⟩
 refine ⟨_,rfl,rfl,_,rfl,?_⟩
 rcases hw with ⟨rfl,q⟩ | ⟨rfl,q⟩ | ⟨n1,n2,q⟩
 ·refine du (fun _=>?_) (fun c=>absurd (decide_eq_true rfl) c)
  refine ⟨_,rfl,fun x dx nx ndx ne=>⟨x,cA,dx,_,rfl,ah,oA.cl,oA.nN,rfl,?_⟩⟩
  exact q x dx _ (dz nx ndx) nx ah
 ·refine du (fun c=>absurd (of_decide_eq_true c) iA) (fun _=>?_)
  refine ⟨_,rfl,rfl,_,rfl,?_⟩
  refine du (fun _=>?_) (fun c=>absurd (decide_eq_true rfl) c)
  refine fun x dx nx ndx ne=>⟨x,cY,dx,rfl,ah,oY.cl,oY.nN,rfl,?_⟩
  exact q x dx _ (dz nx ndx) nx ah
 ·refine du (fun c=>absurd (V.str.inj (of_decide_eq_true c)) n1) (fun _=>?_)
  refine ⟨_,rfl,rfl,_,rfl,?_⟩
  refine du (fun c=>absurd (V.str.inj (of_decide_eq_true c)) n2) (fun _=>?_)
  exact q
def f7 (K:PySem.W.Frag) (cA cY cS cN:Addr):Sp:=fun vs H Q E=>∃ (wd:V) (many:Int),vs=[wd,.int many]∧(wd=.str "all"∧Made cA many H Q∨wd=.str "any"∧Made cY 1 H Q∨(∃ n,wd=.int n∧1≤n∧n≤many∧Made cS n H Q)∨DU K H wd many∧E (.ref cN) none H)
theorem iG:FnScope ["word","many"] ["word","many"] (aq fo):=⟨rfl,rfl,rfl,by decide +kernel,rfl,by decide +kernel,by decide +kernel⟩
theorem iI {cA cY cS cN fS:Addr} {dS:FuncData} (F:Fun K "rule_of" "rule_of" fo f fd) (B:Blt mg) (mS:mg "Some"=some (.ref cS)) (mN:mg "NoRule"=some (.ref cN)) (xN:qw K cN) (oS:Own K cS fS) (GS:FnOk P w K mg base CX0 2 fS dS ["self","need"] (bu K)) (bS:Binds K dS ["self","need"] [])
  (C_text:CalX P w K mg base 4 "rule_of_text" ["text","many"] (fQ cA cY cN)) (C_whole:Cal P w K mg base 1 "is_whole" ["thing"] (dJ K)):FnOk P w K mg base (CXE P w) 5 f fd ["word","many"] (f7 K cA cY cS cN):=by
 refine F.okX iG (fun vs H Q E h=>?_) (fun cdv A' outer s H vs Q E hr h=>?_)
 ·obtain ⟨wd,many,rfl,_⟩:=h
  rfl
 obtain ⟨wd,many,rfl,hw⟩:=h
 have hr3:Room 3 _:=hr.mono (by decide)
 refine ⟨_,(af (aU (bG (ay (bU "str") rfl B.isinstance_ PyProof.Rows.boot_isinstance (aa (pv 0) (aa (cE (v:=.ty "str") rfl B.str_ PyProof.Rows.boot_str rfl) ae))))
  (ak (av (Ba C_text uR hr (by decide) rfl (aa (pv 0) (aa (pv 1) ae)))))
  aw)
  (af (aU (PW.pt (ou (bG (az C_whole hr (by decide) rfl (aa (pv 0) ae))) (kz (da dr dr aj (pv 0) (pv 1)))))
  (ak (av (ko oS.mks GS hr3 rfl mS bS .nil bN (aa (pv 0) ae))))
  aw)
  (ak (mW nA rfl rfl mN xN)))),?_⟩
 rcases hw with ⟨rfl,q⟩ | ⟨rfl,q⟩ | ⟨n,rfl,h1,h2,q⟩ | ⟨⟨t,rfl,n1,n2⟩ | ⟨n,rfl,hn⟩ | kd,q⟩
 ·refine ⟨_,rfl,_,_,_,rfl,.str _,gE K,_,rfl,bf ?_⟩
  exact ⟨_,rfl,_,rfl,"all",_,rfl,.inl ⟨rfl,q⟩⟩
 ·refine ⟨_,rfl,_,_,_,rfl,.str _,gE K,_,rfl,bf ?_⟩
  exact ⟨_,rfl,_,rfl,"any",_,rfl,.inr (.inl ⟨rfl,q⟩)⟩
 ·refine ⟨_,rfl,_,_,_,rfl,.int _,nC K,_,rfl,bh ?_⟩
  refine ⟨_,rfl,_,_,_,rfl,lQ H n,_,rfl,bf ?_⟩
  refine ⟨_,rfl,_,_,rfl,rfl,_,rfl,?_⟩
  rw [decide_eq_true h1]
  refine bf ⟨_,rfl,_,_,rfl,rfl,_,rfl,?_⟩
  rw [decide_eq_true h2]
  refine bf ?_
  refine ⟨_,rfl,fun x dx nx ndx ne=>⟨x,cS,dx,_,rfl,ah,oS.cl,oS.nN,rfl,?_⟩⟩
  exact q x dx _ (dz nx ndx) nx ah
 ·refine ⟨_,rfl,_,_,_,rfl,.str _,gE K,_,rfl,bf ?_⟩
  exact ⟨_,rfl,_,rfl,t,_,rfl,.inr (.inr ⟨n1,n2,q⟩)⟩
 ·refine ⟨_,rfl,_,_,_,rfl,.int _,nC K,_,rfl,bh ?_⟩
  refine ⟨_,rfl,_,_,_,rfl,lQ H n,_,rfl,bf ?_⟩
  refine ⟨_,rfl,_,_,rfl,rfl,_,rfl,?_⟩
  refine du (fun c1=>?_) (fun _=>⟨_,rfl,bh q⟩)
  refine ⟨_,rfl,_,_,rfl,rfl,_,rfl,?_⟩
  refine du (fun c2=>absurd ⟨of_decide_eq_true c1,of_decide_eq_true c2⟩ hn) (fun _=>q)
 ·obtain ⟨t,bi,bb,ty,k1,k2,k3,k4⟩:=id kd.ex
  refine ⟨_,rfl,_,_,_,rfl,ty,k1,_,rfl,bh ?_⟩
  refine ⟨_,rfl,_,_,_,rfl,kd,_,rfl,bh ?_⟩
  exact bh q
end
end K83
namespace K83
open PySem L2
structure Lis where
 (whom:Nat) (beats:Int) (back:Bool)
inductive RW where
 | all | any | num (n:Int)
structure Bell where
 (name:Str) (start:Int) (rule:RW) (lis:List Lis)
def AQ (l:Lis):List V:=[.int l.whom,.int l.beats,.int (if l.back then 1 else 0)]
def rwV:RW→V
 | .all=>.str "all"
 | .any=>.str "any"
 | .num n=>.int n
def LisAt (H:Hp) (v:V) (l:Lis):Prop:=∃ a,v=.ref a∧H a=some (.tup (AQ l))
def BellAt (H:Hp) (v:V) (b:Bell):Prop:=∃ a t ls,v=.ref a∧H a=some (.tup [.str b.name,.int b.start,rwV b.rule,.ref t])∧H t=some (.tup ls)∧Paired (LisAt H) ls b.lis
def ChoirAt (H:Hp) (v:V) (c:List Bell):Prop:=∃ a vs,v=.ref a∧H a=some (.tup vs)∧Paired (BellAt H) vs c
def iy (H H':Hp):Prop:=∀ b xs,H b=some (.tup xs)→H' b=some (.tup xs)
theorem Same.tup {H H':Hp} (s:Same H H'):iy H H':=fun b xs e=>s b _ e
theorem aO {α β:Type} {F G:α→β→Prop} (f:∀ a b,F a b→G a b):∀ {xs:List α} {ys:List β},Paired F xs ys→Paired G xs ys
 | _,_,.nil=>.nil
 | _,_,.cons r t=>.cons (f _ _ r) (aO f t)
theorem aE {α β:Type} {F:α→β→Prop}:∀ {xs:List α} {ys:List β},Paired F xs ys→xs.length=ys.length
 | _,_,.nil=>rfl
 | _,_,.cons _ t=>congrArg (·+1) (aE t)
theorem aZ {α β:Type} {F:α→β→Prop}:∀ {xs:List α} {ys:List β} {i:Nat} {x:α},Paired F xs ys→xs[i]?=some x→∃ y,ys[i]?=some y∧F x y
 | _,_,0,_,.cons r _,e=>by simp at e; subst e; exact ⟨_,rfl,r⟩
 | _,_,i+1,_,.cons _ t,e=>by
  obtain ⟨y,h1,h2⟩:=aZ (i:=i) t (by simpa using e)
  exact ⟨y,by simpa using h1,h2⟩
theorem dE {α β:Type} {F:α→β→Prop}:∀ {xs:List α} {ys:List β} {i:Nat} {y:β},Paired F xs ys→ys[i]?=some y→∃ x,xs[i]?=some x∧F x y
 | _,_,0,_,.cons r _,e=>by simp at e; subst e; exact ⟨_,rfl,r⟩
 | _,_,i+1,_,.cons _ t,e=>by
  obtain ⟨y,h1,h2⟩:=dE (i:=i) t (by simpa using e)
  exact ⟨y,by simpa using h1,h2⟩
theorem b8 {α β:Type} {F:α→β→Prop} {x:α} {y:β} (h:F x y):∀ {xs:List α} {ys:List β},Paired F xs ys→Paired F (xs++[x]) (ys++[y])
 | _,_,.nil=>.cons h .nil
 | _,_,.cons r t=>.cons r (b8 h t)
theorem LisAt.mono {H H':Hp} (s:iy H H') {v:V} {l:Lis} (h:LisAt H v l):LisAt H' v l:=by
 obtain ⟨a,e,q⟩:=h
 exact ⟨a,e,s _ _ q⟩
theorem BellAt.mono {H H':Hp} (s:iy H H') {v:V} {b:Bell} (h:BellAt H v b):BellAt H' v b:=by
 obtain ⟨a,t,ls,e,q1,q2,q3⟩:=h
 exact ⟨a,t,ls,e,s _ _ q1,s _ _ q2,aO (fun _ _ z=>z.mono s) q3⟩
theorem ChoirAt.mono {H H':Hp} (s:iy H H') {v:V} {c:List Bell} (h:ChoirAt H v c):ChoirAt H' v c:=by
 obtain ⟨a,vs,e,q1,q2⟩:=h
 exact ⟨a,vs,e,s _ _ q1,aO (fun _ _ z=>z.mono s) q2⟩
def GoodR (n:Nat):RW→Prop
 | .num i=>1≤i∧i≤n
 | _=>True
def Ay (m k:Nat) (waits:Bool) (l:Lis):Prop:=l.whom<m∧1≤l.beats∧l.beats≤1000∧(waits=false→l.back=false→l.whom<k)
structure GoodB (m k:Nat) (waits:Bool) (b:Bell):Prop where
 n1:1≤b.lis.length
 n6:b.lis.length≤6
 s0:0≤b.start
 s1:b.start≤1000
 r:GoodR b.lis.length b.rule
 l:∀ l∈b.lis,Ay m k waits l
end K83
namespace K83
open PySem L2
theorem qG {α:Type} {l:List α} {i:Nat} {x:α} (h:l[i]?=some x):l.take (i+1)=l.take i++[x]:=by
 obtain ⟨hi,e⟩:=List.getElem?_eq_some_iff.mp h
 rw [List.take_succ_eq_append_getElem hi,e]
inductive Th where
 | int (i:Int) | bl (b:Bool) | non | str (z:Str) | tup (ts:List Th) | lst | dic
mutual
def ThAt (H:Hp):Th→V→Prop
 | .int i,v=>v=.int i
 | .bl b,v=>v=.bl b
 | .non,v=>v=.non
 | .str z,v=>v=.str z∧z.length≤1000
 | .tup ts,v=>∃ a vs,v=.ref a∧H a=some (.tup vs)∧ThsAt H ts vs
 | .lst,v=>∃ a xs,v=.ref a∧H a=some (.lst xs)
 | .dic,v=>∃ a kvs,v=.ref a∧H a=some (.dK kvs)
def ThsAt (H:Hp):List Th→List V→Prop
 | [],vs=>vs=[]
 | t::ts,vs=>∃ v r,vs=v::r∧ThAt H t v∧ThsAt H ts r
end
mutual
theorem ThAt.same {H H':Hp} (s:Same H H'):∀ (t:Th) {v:V},ThAt H t v→ThAt H' t v
 | .int _,_,h=>h
 | .bl _,_,h=>h
 | .non,_,h=>h
 | .str _,_,h=>h
 | .tup ts,_,⟨a,vs,e,ha,h⟩=>⟨a,vs,e,s _ _ ha,ThsAt.same s ts h⟩
 | .lst,_,⟨a,xs,e,ha⟩=>⟨a,xs,e,s _ _ ha⟩
 | .dic,_,⟨a,xs,e,ha⟩=>⟨a,xs,e,s _ _ ha⟩
theorem ThsAt.same {H H':Hp} (s:Same H H'):∀ (ts:List Th) {vs:List V},ThsAt H ts vs→ThsAt H' ts vs
 | [],_,h=>h
 | t::ts,_,⟨v,r,e,h1,h2⟩=>⟨v,r,e,ThAt.same s t h1,ThsAt.same s ts h2⟩
end
theorem ThsAt.len {H:Hp}:∀ {ts:List Th} {vs:List V},ThsAt H ts vs→vs.length=ts.length
 | [],_,h=>by cases h; rfl
 | t::ts,_,⟨v,r,e,_,h2⟩=>by subst e; exact congrArg (·+1) (ThsAt.len h2)
theorem ThsAt.at {H:Hp}:∀ {ts:List Th} {vs:List V} {i:Nat} {t:Th},ThsAt H ts vs→ts[i]?=some t→∃ v,vs[i]?=some v∧ThAt H t v
 | _::_,_,0,_,⟨v,r,e,h1,_⟩,h=>by subst e; cases h; exact ⟨v,rfl,h1⟩
 | _::ts,_,i+1,_,⟨v,r,e,_,h2⟩,h=>by
  subst e
  obtain ⟨u,h3,h4⟩:=ThsAt.at (i:=i) h2 (by simpa using h)
  exact ⟨u,by simpa using h3,h4⟩
theorem ThsAt.app {H:Hp}:∀ {ts us:List Th} {vs ws:List V},ThsAt H ts vs→ThsAt H us ws→ThsAt H (ts++us) (vs++ws)
 | [],_,_,_,h,h'=>by cases h; exact h'
 | _::_,_,_,_,⟨v,r,e,h1,h2⟩,h'=>by subst e; exact ⟨v,r++_,rfl,h1,ThsAt.app h2 h'⟩
def isS:Th→Bool | .str _=>true | _=>false
def isI:Th→Bool | .int _=>true | _=>false
def isT:Th→Bool | .tup _=>true | _=>false
def inT:Th→Int→Int→Bool
 | .int i,lo,hi=>decide (lo≤i) && decide (i≤hi)
 | _,_,_=>false
def dP:Str:="abcdefghijklmnopqrstuvwxyz"
def d7:List Str:=["all","any","bell","none"]
def gP (c:Nat):Bool:=!(Builtin.Str.occurrences dP ⟨#[c]⟩ 0 dP.length 1).isEmpty
def a9 (z:Str):Bool:=decide (1≤z.length) && decide (z.length≤8) && z.cps.toList.all gP
def mV:Th→Bool | .str z=>a9 z | _=>false
def eN:Th→Bool | .str z=>a9 z && !decide (z∈d7) | _=>false
def md:Th→Int→Bool
 | .str z,_=>decide (z="all") || decide (z="any")
 | .int n,m=>decide (1≤n) && decide (n≤m)
 | _,_=>false
def lg:Th→Int→Bool
 | .tup [x,y,z],m=>inT x 0 (m - 1) && (inT y 1 1000 && inT z 0 1)
 | _,_=>false
def ji:Th→Int→Bool
 | .tup ts,m=>decide (1≤ts.length) && decide (ts.length≤6) && ts.all (fun t=>lg t m)
 | _,_=>false
def Ck:Th→Nat | .tup ts=>ts.length | _=>0
def inA:Th→List Str→Bool | .str z,ahead=>decide (z∈ahead) | _,_=>false
def iR:Th→List Str→Int→Bool
 | .tup [n,s,r,l],ahead,m=>eN n && !inA n ahead && inT s 0 1000 && (ji l m && md r (Ck l))
 | _,_,_=>false
def nameOf:Th→Str | .tup (.str z::_)=>z | _=>Str.empty
section
variable {P:Program} {w:World} {K:PySem.W.Frag} {mg:Str→Option Value} {base:Heap} {f:Addr} {fd:FuncData}
theorem xr (K:PySem.W.Frag):PySem.W.kitOne K (.type "tuple") (.type "tuple")=some true:=by kernel_rfl
theorem Bx (K:PySem.W.Frag):PySem.W.kitOne K (.type "str") (.type "tuple")=some false:=by kernel_rfl
theorem BB (K:PySem.W.Frag):PySem.W.kitOne K (.type "int") (.type "tuple")=some false:=by kernel_rfl
theorem AO (K:PySem.W.Frag):PySem.W.kitOne K (.type "bool") (.type "tuple")=some false:=by kernel_rfl
theorem BC (K:PySem.W.Frag):PySem.W.kitOne K (.type "NoneType") (.type "tuple")=some false:=by kernel_rfl
theorem AV (K:PySem.W.Frag):PySem.W.kitOne K (.type "list") (.type "tuple")=some false:=by kernel_rfl
theorem AS (K:PySem.W.Frag):PySem.W.kitOne K (.type "dict") (.type "tuple")=some false:=by kernel_rfl
theorem Bt (K:PySem.W.Frag):PySem.W.kitOne K (.type "dict") (.type "str")=some false:=by kernel_rfl
theorem BS (K:PySem.W.Frag):PySem.W.kitOne K (.type "dict") (.type "int")=some false:=by kernel_rfl
theorem xl {H:Hp} {a:Addr} {kvs:List (Key×V)} (h:H a=some (.dK kvs)):Kind K H (.ref a) false false:=⟨_,false,false,.dK h,Bt K,BS K,(fun z=>nomatch z),rfl⟩
theorem ThAt.kind {H:Hp} {t:Th} {v:V} (h:ThAt H t v):Kind K H v (isS t) (isI t):=by
 cases t with
 | int i=>cases h; exact lQ H i
 | bl b=>cases h; exact yN H b
 | non=>cases h; exact wo H
 | str z=>obtain ⟨rfl,_⟩:=h; exact yb H z
 | tup ts=>obtain ⟨a,vs,rfl,ha,_⟩:=h; exact yu ha
 | lst=>obtain ⟨a,xs,rfl,ha⟩:=h; exact xq ha
 | dic=>obtain ⟨a,xs,rfl,ha⟩:=h; exact xl ha
theorem ThAt.ty {H:Hp} {t:Th} {v:V} (h:ThAt H t v):∃ ty,TyOf K H v ty∧PySem.W.kitOne K ty (.type "tuple")=some (isT t):=by
 cases t with
 | int i=>cases h; exact ⟨_,.int i,BB K⟩
 | bl b=>cases h; exact ⟨_,.bl b,AO K⟩
 | non=>cases h; exact ⟨_,.non,BC K⟩
 | str z=>obtain ⟨rfl,_⟩:=h; exact ⟨_,.str z,Bx K⟩
 | tup ts=>obtain ⟨a,vs,rfl,ha,_⟩:=h; exact ⟨_,.tup ha,xr K⟩
 | lst=>obtain ⟨a,xs,rfl,ha⟩:=h; exact ⟨_,.lst ha,AV K⟩
 | dic=>obtain ⟨a,xs,rfl,ha⟩:=h; exact ⟨_,.dK ha,AS K⟩
def eg:Sp:=fun vs H Q _=>∃ (v:V) (t:Th) (lo hi:Int),vs=[v,.int lo,.int hi]∧ThAt H t v∧Q (.bl (inT t lo hi)) H
theorem ux:FnScope ["thing","least","most"] ["thing","least","most"] (aq dq):=⟨rfl,rfl,rfl,by decide +kernel,rfl,by decide +kernel,by decide +kernel⟩
theorem uB (F:Fun K "is_whole_within" "is_whole_within" dq f fd) (C_whole:Cal P w K mg base 1 "is_whole" ["thing"] (dJ K)):FnOk P w K mg base CX0 2 f fd ["thing","least","most"] eg:=by
 refine F.ok ux (fun vs H Q E h=>?_) (fun cdv A outer s H vs Q E hr h=>?_)
 ·obtain ⟨v,t,lo,hi,rfl,_⟩:=h
  rfl
 obtain ⟨v,t,lo,hi,rfl,ht,q⟩:=h
 refine ⟨_,(ak (av (iE (az C_whole hr (by decide) rfl (aa (pv 0) ae)) (gp (yC dr dr (pv 1) (pv 0) (pv 2)))))),?_⟩
 refine ⟨_,rfl,v,isS t,isI t,rfl,ht.kind,_,rfl,?_⟩
 cases t with
 | int i =>
  cases ht
  refine bf ?_
  refine ⟨_,rfl,_,rfl,_,_,rfl,rfl,_,rfl,?_⟩
  refine du (fun c=>?_) (fun c=>?_)
  ·have e:inT (.int i) lo hi=decide (i≤hi):=by
    show (decide (lo≤i) && decide (i≤hi))=_
    rw [show decide (lo≤i)=true from c]
    rfl
   rw [e] at q
   exact ⟨_,rfl,_,_,rfl,rfl,q⟩
  ·have e:inT (.int i) lo hi=false:=by
    show (decide (lo≤i) && decide (i≤hi))=_
    rw [show decide (lo≤i)=false from Bool.eq_false_iff.mpr c]
    rfl
   rw [e] at q
   exact q
 | _=>exact bh q
end
end K83
namespace K83
open PySem L2
theorem all_map {α:Type} (l:List α) (p:α→Bool):(l.map p).all id=l.all p:=by
 rw [List.all_map]
 rfl
section
variable {P:Program} {w:World} {K:PySem.W.Frag} {mg:Str→Option Value} {base:Heap} {f:Addr} {fd:FuncData}
def ja:Sp:=fun vs H Q _=>∃ (v:V) (t:Th),vs=[v]∧ThAt H t v∧∀ H',Same H H'→Q (.bl (mV t)) H'
theorem Aj:FnScope ["thing"] ["thing"] (aq jK):=⟨rfl,rfl,rfl,by decide +kernel,rfl,by decide +kernel,by decide +kernel⟩
theorem za {tM tL:Tok} (F:Fun K "is_word" "is_word" jK f fd) (B:Blt mg) (mM:mg "MOST_LETTERS"=some (.int 8 tM)) (mL:mg "LETTERS"=some (.str dP tL)):FnOk P w K mg base CX0 1 f fd ["thing"] ja:=by
 refine F.ok Aj (fun vs H Q E h=>?_) (fun cdv A outer s H vs Q E hr h=>?_)
 ·obtain ⟨v,t,rfl,_⟩:=h
  rfl
 obtain ⟨v,t,rfl,ht,q⟩:=h
 refine ⟨_,(af (aU (PW.pt (eC (bw (bG (ay (bU "str") rfl B.isinstance_ PyProof.Rows.boot_isinstance (aa (pv 0) (aa (cE (v:=.ty "str") rfl B.str_ PyProof.Rows.boot_str rfl) ae))))) (cT (bw (da dr dr aj (ay fP rfl B.len_ PySem.boot_len (aa (pv 0) ae)) (cv (v:=.int 8) rfl mM ⟨tM,rfl⟩))))))
  (ak (av eQ))
  aw)
  (ak (av (ay (i3 rfl) rfl B.all_ PyProof.Rows.boot_all (aa (cJ ["sign"] [] [] rfl (xg (pv 0)) (fun _ _ _ _ _=>(aI (i:=0) (show List.Nodup [("sign":Str)] by decide +kernel) rfl (Or.inl rfl))) (fun _ _ _ _ _=>bV) (fun _ _ _ _ _=>(dI mU (pv 0) (cv (v:=.str dP) rfl mL ⟨tL,rfl⟩) rfl))) ae))))),?_⟩
 obtain ⟨ty,bi,bb,tyv,ks,_⟩:=(ht.kind (K:=K)).ex
 refine ⟨_,rfl,_,_,_,rfl,tyv,ks,_,rfl,?_⟩
 cases t with
 | str z =>
  obtain ⟨rfl,hz⟩:=ht
  refine bh ?_
  refine ⟨_,rfl,_,rfl,(by rw [sizeLine_eq]; omega),_,_,rfl,rfl,_,rfl,du (fun g1=>?_) (fun g1=>?_)⟩
  rotate_left
  ·have e:mV (.str z)=false:=by
    show (decide (1≤z.length) && decide (z.length≤8) && z.cps.toList.all gP)=false
    have:¬ 1≤z.length:=fun h=>g1 (decide_eq_true (by omega))
    rw [decide_eq_false this]
    rfl
   rw [e] at q
   exact ⟨_,rfl,bf (q H (.refl H))⟩
  have h1:(1:Int)≤(z.length:Int):=of_decide_eq_true g1
  refine ⟨_,_,rfl,rfl,_,rfl,?_⟩
  by_cases h2:(z.length:Int)≤8
  rotate_left
  ·have e:mV (.str z)=false:=by
    show (decide (1≤z.length) && decide (z.length≤8) && z.cps.toList.all gP)=false
    rw [decide_eq_false (show ¬ z.length≤8 by omega),Bool.and_false]
    rfl
   rw [e] at q
   rw [decide_eq_false h2]
   exact bf (q H (.refl H))
  rw [decide_eq_true h2]
  refine bh ?_
  have e:mV (.str z)=z.cps.toList.all gP:=by
   show (decide (1≤z.length) && decide (z.length≤8) && z.cps.toList.all gP)=_
   rw [decide_eq_true (show 1≤z.length by omega),decide_eq_true (show z.length≤8 by omega)]
   rfl
  rw [e] at q
  refine ⟨_,rfl,z,rfl,fun D hD=>?_⟩
  refine pC (z:=z) (fun i ys H3=>Same H H3∧ys=((z.cps.toList.take i).map gP).map V.bl) ⟨ao hD _,rfl⟩ ?_ ?_
  ·rintro i c ys H3 hc ⟨s3,rfl⟩ hD3
   have hc':z.cps.toList[i]?=some c:=by simpa using hc
   have hi:i<z.length:=by
    have:=(List.getElem?_eq_some_iff.mp hc').1
    rw [bq] at this
    exact this
   refine ⟨rfl,bo ?_⟩
   refine ⟨_,rfl,_,_,rfl,rfl,_,hD3,?_,_,⟨s3.upd hD _,rfl⟩,?_⟩
   ·rw [List.length_map,List.length_map,List.length_take]
    exact aW (by omega)
   ·rw [take_snoc hc',List.map_append,List.map_append]
    exact ah
  rintro ys H3 ⟨s3,rfl⟩ hD3
  have hT:z.cps.toList.take z.cps.size=z.cps.toList:=List.take_of_length_le (by simp)
  rw [hT] at hD3
  refine ⟨D,_,rfl,SqL.of hD3,?_⟩
  rw [all_map]
  exact q H3 s3
 | _=>exact bf (bf (q H (.refl H)))
def kq:Sp:=fun vs H Q _=>∃ (v:V) (t:Th),vs=[v]∧ThAt H t v∧∀ H',Same H H'→Q (.bl (eN t)) H'
theorem yK:FnScope ["thing"] ["thing"] (aq jw):=⟨rfl,rfl,rfl,by decide +kernel,rfl,by decide +kernel,by decide +kernel⟩
theorem yY {aN:Addr} (F:Fun K "is_name" "is_name" jw f fd) (mN:mg "NO_NAMES"=some (.ref aN)) (hN:∀ H,SqT K H aN (d7.map V.str)) (C_word:Cal P w K mg base 1 "is_word" ["thing"] ja):FnOk P w K mg base CX0 2 f fd ["thing"] kq:=by
 refine F.ok yK (fun vs H Q E h=>?_) (fun cdv A outer s H vs Q E hr h=>?_)
 ·obtain ⟨v,t,rfl,_⟩:=h
  rfl
 obtain ⟨v,t,rfl,ht,q⟩:=h
 refine ⟨_,(ak (av (iE (az C_word hr (by decide) rfl (aa (pv 0) ae)) (gp (dI jd (pv 0) (cv (v:=.ref aN) rfl mN rfl) rfl))))),?_⟩
 refine ⟨_,rfl,v,t,rfl,ht,fun H1 s1=>⟨_,rfl,?_⟩⟩
 cases t with
 | str z =>
  obtain ⟨rfl,hz⟩:=ht
  show if a9 z=true then _ else _
  by_cases hw:a9 z=true
  ·rw [if_pos hw]
   refine ⟨_,rfl,aN,_,rfl,.inr (hN H1),rfl,fG d7,?_⟩
   have e:eN (.str z)=!decide (z∈d7):=by
    show (a9 z && !decide (z∈d7))=_
    rw [hw]
    rfl
   rw [e,← jh] at q
   exact q H1 s1
  ·rw [if_neg hw]
   have e:eN (.str z)=false:=by
    show (a9 z && !decide (z∈d7))=_
    rw [Bool.eq_false_iff.mpr hw]
    rfl
   rw [e] at q
   exact q H1 s1
 | _=>exact bh (q H1 s1)
def jR:Sp:=fun vs H Q _=>∃ (v:V) (t:Th) (m:Int),vs=[v,.int m]∧ThAt H t v∧∀ H',Same H H'→Q (.bl (md t m)) H'
theorem vv:FnScope ["thing","many"] ["thing","many"] (aq jI):=⟨rfl,rfl,rfl,by decide +kernel,rfl,by decide +kernel,by decide +kernel⟩
theorem vh {cA cY cS cN:Addr} (F:Fun K "is_rule" "is_rule" jI f fd) (mN:mg "NoRule"=some (.ref cN)) (xm:PySem.W.exmOne K (.ref cN) (.ref cN)=some true) (C_rule:CalX P w K mg base 5 "rule_of" ["word","many"] (f7 K cA cY cS cN)):FnOk P w K mg base CX0 6 f fd ["thing","many"] jR:=by
 refine F.ok vv (fun vs H Q E h=>?_) (fun cdv A outer s H vs Q E hr h=>?_)
 ·obtain ⟨v,t,m,rfl,_⟩:=h
  rfl
 obtain ⟨v,t,m,rfl,ht,q⟩:=h
 refine ⟨_,(af (BJ rfl rfl rfl mN (vG (Cq C_rule hr (by decide) rfl (aa (pv 0) (aa (pv 1) ae)))) (fun _=>(ak (av eQ))))
  (ak (av eQ))),?_⟩
 refine ⟨_,rfl,_,rfl,v,m,rfl,?_⟩
 have good:md t m=true→∀ {x:Addr} {dx:Addr} {C:Addr} {n:Int} (H':Hp),Same H H'→H x=none→H' x=some (.ins C dx [("need",.int n)])→Q (.bl true) H':=fun e _ _ _ _ H' s' _ _=>by rw [e] at q; exact q H' s'
 have bad:md t m=false→PySem.W.exmOne K (.ref cN) (.ref cN)=some true∧∀ a C,Value.ref cN=.ref C→H a=none→Q (.bl false) (upd H a (ExO a C none)):=fun e=>⟨xm,fun a C _ na=>by rw [e] at q; exact q _ (ao na _)⟩
 have kd:=ht.kind (K:=K)
 cases t with
 | str z =>
  obtain ⟨rfl,_⟩:=ht
  by_cases h1:z="all"
  ·refine .inl ⟨congrArg V.str h1,fun x dx H' s' nx hx=>good ?_ H' s' nx hx⟩
   show (decide (z="all") || _)=true
   rw [decide_eq_true h1]
   rfl
  by_cases h2:z="any"
  ·refine .inr (.inl ⟨congrArg V.str h2,fun x dx H' s' nx hx=>good ?_ H' s' nx hx⟩)
   show (decide (z="all") || decide (z="any"))=true
   rw [decide_eq_true h2,Bool.or_true]
  ·refine .inr (.inr (.inr ⟨.inl ⟨z,rfl,h1,h2⟩,bad ?_⟩))
   show (decide (z="all") || decide (z="any"))=false
   rw [decide_eq_false h1,decide_eq_false h2]
   rfl
 | int n =>
  cases ht
  by_cases h:1≤n∧n≤m
  ·refine .inr (.inr (.inl ⟨n,rfl,h.1,h.2,fun x dx H' s' nx hx=>good ?_ H' s' nx hx⟩))
   show (decide (1≤n) && decide (n≤m))=true
   rw [decide_eq_true h.1,decide_eq_true h.2]
   rfl
  ·refine .inr (.inr (.inr ⟨.inr (.inl ⟨n,rfl,h⟩),bad ?_⟩))
   show (decide (1≤n) && decide (n≤m))=false
   rw [← Bool.decide_and]
   exact decide_eq_false h
 | _=>exact .inr (.inr (.inr ⟨.inr (.inr kd),bad rfl⟩))
def kB:Sp:=fun vs H Q _=>∃ (v:V) (t:Th) (m:Int),vs=[v,.int m]∧ThAt H t v∧Q (.bl (lg t m)) H
theorem xS:FnScope ["thing","bells"] ["thing","bells"] (aq eJ):=⟨rfl,rfl,rfl,by decide +kernel,rfl,by decide +kernel,by decide +kernel⟩
theorem xE {tM:Tok} (F:Fun K "is_listening" "is_listening" eJ f fd) (B:Blt mg) (mM:mg "MOST_BEATS"=some (.int 1000 tM)) (C_within:Cal P w K mg base 2 "is_whole_within" ["thing","least","most"] eg):FnOk P w K mg base CX0 3 f fd ["thing","bells"] kB:=by
 refine F.ok xS (fun vs H Q E h=>?_) (fun cdv A outer s H vs Q E hr h=>?_)
 ·obtain ⟨v,t,m,rfl,_⟩:=h
  rfl
 obtain ⟨v,t,m,rfl,ht,q⟩:=h
 refine ⟨_,(af (aU (PW.pt (eC (bw (bG (ay (bU "tuple") rfl B.isinstance_ PyProof.Rows.boot_isinstance (aa (pv 0) (aa (cE (v:=.ty "tuple") rfl B.tuple_ PyProof.Rows.boot_tuple rfl) ae))))) (cT (aC je (ay aM rfl B.len_ PySem.boot_len (aa (pv 0) ae)) aj (aL _)))))
  (ak (av eQ))
  aw)
  (af (aU (bw (bG (az C_within hr (by decide) rfl (aa (ar aP (pv 0) aj (fun _ _=>rfl)) (aa aj (aa (aV iw (pv 1) aj) ae))))))
  (ak (av eQ))
  aw)
  (ak (av (iE (az C_within hr (by decide) rfl (aa (ar aP (pv 0) aj (fun _ _=>rfl)) (aa aj (aa (cv (v:=.int 1000) rfl mM ⟨tM,rfl⟩) ae)))) (gp (az C_within hr (by decide) rfl (aa (ar aP (pv 0) aj (fun _ _=>rfl)) (aa aj (aa aj ae)))))))))),?_⟩
 obtain ⟨ty,tyv,kt⟩:=ht.ty (K:=K)
 refine ⟨_,rfl,_,_,_,rfl,tyv,kt,_,rfl,?_⟩
 cases t with
 | tup ts =>
  obtain ⟨a,vs,rfl,ha,hts⟩:=ht
  have hlen:=hts.len
  refine bh ?_
  refine ⟨_,rfl,a,_,rfl,.inr (SqT.of ha),rfl,_,rfl,?_⟩
  match ts,hts,q,hlen with
  | [x,y,z],hts,q,hlen =>
   obtain ⟨vx,r1,rfl,hx,vy,r2,rfl,hy,vz,r3,rfl,hz,rfl⟩:=hts
   refine bh ?_
   refine ⟨_,rfl,a,_,_,_,rfl,rfl,SqT.of ha,rfl,_,rfl,_,_,rfl,rfl,vx,x,0,m - 1,rfl,hx,_,rfl,?_⟩
   have e:lg (.tup [x,y,z]) m=(inT x 0 (m - 1) && (inT y 1 1000 && inT z 0 1)):=rfl
   rw [e] at q
   cases e1:inT x 0 (m - 1) with
   | false=>rw [e1] at q; exact bf q
   | true =>
    rw [e1] at q
    refine bh ?_
    refine ⟨_,rfl,a,_,_,_,rfl,rfl,SqT.of ha,rfl,vy,y,1,1000,rfl,hy,_,rfl,?_⟩
    cases e2:inT y 1 1000 with
    | false=>rw [e2] at q; exact bh q
    | true =>
     rw [e2] at q
     refine bf ?_
     exact ⟨_,rfl,a,_,_,_,rfl,rfl,SqT.of ha,rfl,vz,z,0,1,rfl,hz,q⟩
  | [],hts,q,hlen=>rw [hlen]; exact bf q
  | [_],hts,q,hlen=>rw [hlen]; exact bf q
  | [_,_],hts,q,hlen=>rw [hlen]; exact bf q
  | _::_::_::_::r,hts,q,hlen =>
   refine du (fun _=>q) (fun c=>absurd ?_ c)
   rw [hlen]
   simp only [List.length_cons]
   simp
   omega
 | _=>exact bf (bf q)
def jT:Sp:=fun vs H Q _=>∃ (v:V) (t:Th) (m:Int),vs=[v,.int m]∧ThAt H t v∧∀ H',Same H H'→Q (.bl (ji t m)) H'
theorem vf:FnScope ["thing","bells"] ["thing","bells"] (aq dv):=⟨rfl,rfl,rfl,by decide +kernel,rfl,by decide +kernel,by decide +kernel⟩
theorem uP {tM:Tok} (F:Fun K "are_listenings" "are_listenings" dv f fd) (B:Blt mg) (mM:mg "MOST_LISTENINGS"=some (.int 6 tM)) (C_islis:Cal P w K mg base 3 "is_listening" ["thing","bells"] kB):FnOk P w K mg base CX0 4 f fd ["thing","bells"] jT:=by
 refine F.ok vf (fun vs H Q E h=>?_) (fun cdv A outer s H vs Q E hr h=>?_)
 ·obtain ⟨v,t,m,rfl,_⟩:=h
  rfl
 obtain ⟨v,t,m,rfl,ht,q⟩:=h
 refine ⟨_,(af (aU (PW.pt (eC (bw (bG (ay (bU "tuple") rfl B.isinstance_ PyProof.Rows.boot_isinstance (aa (pv 0) (aa (cE (v:=.ty "tuple") rfl B.tuple_ PyProof.Rows.boot_tuple rfl) ae))))) (cT (bw (da dr dr aj (ay aM rfl B.len_ PySem.boot_len (aa (pv 0) ae)) (cv (v:=.int 6) rfl mM ⟨tM,rfl⟩))))))
  (ak (av eQ))
  aw)
  (ak (av (ay (i3 rfl) rfl B.all_ PyProof.Rows.boot_all (aa (cJ ["listening"] ["bells"] [1] rfl (eL (pv 0)) (fun _ _ _ _ _=>(aI (i:=0) (show List.Nodup [("listening":Str),("bells":Str)] by decide +kernel) rfl (Or.inl rfl))) (fun _ _ _ _ _=>bV) (fun _ _ _ _ _=>(az C_islis hr (by decide) rfl (aa (pv 0) (aa (pv 1) ae))))) ae))))),?_⟩
 obtain ⟨ty,tyv,kt⟩:=ht.ty (K:=K)
 refine ⟨_,rfl,_,_,_,rfl,tyv,kt,_,rfl,?_⟩
 cases t with
 | tup ts =>
  obtain ⟨a,vs,rfl,ha,hts⟩:=ht
  have hlen:=hts.len
  refine bh ?_
  refine ⟨_,rfl,a,_,rfl,.inr (SqT.of ha),_,_,rfl,rfl,_,rfl,du (fun g1=>?_) (fun g1=>?_)⟩
  rotate_left
  ·have e:ji (.tup ts) m=false:=by
    show (decide (1≤ts.length) && decide (ts.length≤6) && ts.all (fun t=>lg t m))=false
    have:¬ 1≤ts.length:=fun h=>g1 (decide_eq_true (by omega))
    rw [decide_eq_false this]
    rfl
   rw [e] at q
   exact ⟨_,rfl,bf (q H (.refl H))⟩
  have h1:(1:Int)≤((vs.length:Nat):Int):=of_decide_eq_true g1
  refine ⟨_,_,rfl,rfl,_,rfl,?_⟩
  by_cases h2:((vs.length:Nat):Int)≤6
  rotate_left
  ·have e:ji (.tup ts) m=false:=by
    show (decide (1≤ts.length) && decide (ts.length≤6) && ts.all (fun t=>lg t m))=false
    rw [decide_eq_false (show ¬ ts.length≤6 by omega),Bool.and_false]
    rfl
   rw [e] at q
   rw [decide_eq_false h2]
   exact bf (q H (.refl H))
  rw [decide_eq_true h2]
  refine bh ?_
  have e:ji (.tup ts) m=ts.all (fun t=>lg t m):=by
   show (decide (1≤ts.length) && decide (ts.length≤6) && ts.all (fun t=>lg t m))=_
   rw [decide_eq_true (show 1≤ts.length by omega),decide_eq_true (show ts.length≤6 by omega)]
   rfl
  rw [e] at q
  refine ⟨_,rfl,a,rfl,⟨_,SqT.of ha⟩,fun D hD=>?_⟩
  refine dX (K:=K) (a:=a) (xs:=vs) (fun i ys H3=>Same H H3∧ys=((ts.take i).map (fun t=>lg t m)).map V.bl) ⟨ao hD _,rfl⟩ (fun i ys H3 _ ⟨z,_⟩=>SqT.of (z _ _ ha)) ?_ ?_
  ·rintro i x ys H3 hx ⟨s3,rfl⟩ hD3
   have hi:i<ts.length:=by
    have:=(List.getElem?_eq_some_iff.mp hx).1
    omega
   have ht:=List.getElem?_eq_getElem hi
   obtain ⟨x',hx',htx⟩:=hts.at ht
   obtain rfl:x'=x:=Option.some.inj (hx'.symm.trans hx)
   refine ⟨rfl,bo ?_⟩
   refine ⟨_,rfl,_,rfl,x',ts[i],m,rfl,ThAt.same s3 _ htx,_,hD3,?_,_,⟨s3.upd hD _,rfl⟩,?_⟩
   ·rw [List.length_map,List.length_map,List.length_take]
    exact aW (by omega)
   ·rw [take_snoc ht,List.map_append,List.map_append]
    exact ah
  rintro ys H3 ⟨s3,rfl⟩ hD3
  rw [hlen,List.take_length] at hD3
  refine ⟨D,_,rfl,SqL.of hD3,?_⟩
  rw [all_map]
  exact q H3 s3
 | _=>exact bf (bf (q H (.refl H)))
def ic:Sp:=fun vs H Q _=>∃ (v:V) (t:Th) (al:Addr) (ahead:List Str) (m:Int),vs=[v,.ref al,.int m]∧ThAt H t v∧H al=some (.lst (ahead.map V.str))∧∀ H',Same H H'→Q (.bl (iR t ahead m)) H'
theorem tZ:FnScope ["thing","ahead","bells"] ["thing","ahead","bells"] (aq jU):=⟨rfl,rfl,rfl,by decide +kernel,rfl,by decide +kernel,by decide +kernel⟩
theorem uX {tM:Tok} (F:Fun K "is_bell" "is_bell" jU f fd) (B:Blt mg) (mM:mg "MOST_START"=some (.int 1000 tM)) (C_within:Cal P w K mg base 2 "is_whole_within" ["thing","least","most"] eg) (C_name:Cal P w K mg base 2 "is_name" ["thing"] kq) (C_arelis:Cal P w K mg base 4 "are_listenings" ["thing","bells"] jT)
  (C_isrule:Cal P w K mg base 6 "is_rule" ["thing","many"] jR):FnOk P w K mg base CX0 7 f fd ["thing","ahead","bells"] ic:=by
 refine F.ok tZ (fun vs H Q E h=>?_) (fun cdv A outer s H vs Q E hr h=>?_)
 ·obtain ⟨v,t,al,ahead,m,rfl,_⟩:=h
  rfl
 obtain ⟨v,t,al,ahead,m,rfl,ht,hal,q⟩:=h
 refine ⟨_,(af (aU (PW.pt (eC (bw (bG (ay (bU "tuple") rfl B.isinstance_ PyProof.Rows.boot_isinstance (aa (pv 0) (aa (cE (v:=.ty "tuple") rfl B.tuple_ PyProof.Rows.boot_tuple rfl) ae))))) (cT (aC je (ay aM rfl B.len_ PySem.boot_len (aa (pv 0) ae)) aj (aL _)))))
  (ak (av eQ))
  aw)
  (af (aU (PW.pt (eC (bw (bG (az C_name hr (by decide) rfl (aa (ar aP (pv 0) aj (fun _ _=>rfl)) ae)))) (cT (aC jr (ar aP (pv 0) aj (fun _ _=>rfl)) (pv 1) rfl))))
  (ak (av eQ))
  aw)
  (af (aU (bw (bG (az C_within hr (by decide) rfl (aa (ar aP (pv 0) aj (fun _ _=>rfl)) (aa aj (aa (cv (v:=.int 1000) rfl mM ⟨tM,rfl⟩) ae))))))
  (ak (av eQ))
  aw)
  (ak (av (iE (az C_arelis hr (by decide) rfl (aa (ar aP (pv 0) aj (fun _ _=>rfl)) (aa (pv 2) ae))) (gp (az C_isrule hr (by decide) rfl (aa (ar aP (pv 0) aj (fun _ _=>rfl)) (aa (ay aM rfl B.len_ PySem.boot_len (aa (ar aP (pv 0) aj (fun _ _=>rfl)) ae)) ae)))))))))),?_⟩
 obtain ⟨ty,tyv,kt⟩:=ht.ty (K:=K)
 refine ⟨_,rfl,_,_,_,rfl,tyv,kt,_,rfl,?_⟩
 cases t with
 | tup ts =>
  obtain ⟨a,vs,rfl,ha,hts⟩:=ht
  have hlen:=hts.len
  refine bh ?_
  refine ⟨_,rfl,a,_,rfl,.inr (SqT.of ha),rfl,_,rfl,?_⟩
  match ts,hts,q,hlen with
  | [n,st,r,l],hts,q,hlen =>
   obtain ⟨vn,r1,rfl,hn,vs',r2,rfl,hs,vr,r3,rfl,hr',vl,r4,rfl,hl,rfl⟩:=hts
   refine bh ?_
   have e:iR (.tup [n,st,r,l]) ahead m=(eN n && !inA n ahead && inT st 0 1000 && (ji l m && md r (Ck l))):=rfl
   rw [e] at q
   refine ⟨_,rfl,a,_,_,_,rfl,rfl,SqT.of ha,rfl,vn,n,rfl,hn,fun H1 s1=>⟨_,rfl,?_⟩⟩
   have ha1:=s1 _ _ ha
   cases e1:eN n with
   | false=>rw [e1] at q; exact bf (bf (q H1 s1))
   | true =>
    rw [e1] at q
    refine bh ?_
    cases n with
    | str z =>
     obtain ⟨rfl,_⟩:=hn
     refine ⟨_,rfl,a,_,_,_,rfl,rfl,SqT.of ha1,rfl,_,rfl,al,_,rfl,.inl (SqL.of (s1 _ _ hal)),rfl,fG ahead,_,rfl,?_⟩
     show if inV (.str z) (ahead.map V.str)=true then _ else _
     rw [jh]
     have e2:inA (.str z) ahead=decide (z∈ahead):=rfl
     rw [e2] at q
     cases e3:decide (z∈ahead) with
     | true=>rw [e3] at q; exact bf (q H1 s1)
     | false =>
      rw [e3] at q
      refine bh ?_
      refine ⟨_,rfl,a,_,_,_,rfl,rfl,SqT.of ha1,rfl,vs',st,0,1000,rfl,ThAt.same s1 _ hs,_,rfl,?_⟩
      cases e4:inT st 0 1000 with
      | false=>rw [e4] at q; exact bf (q H1 s1)
      | true =>
       rw [e4] at q
       refine bh ?_
       refine ⟨_,rfl,a,_,_,_,rfl,rfl,SqT.of ha1,rfl,_,rfl,vl,l,m,rfl,ThAt.same s1 _ hl,fun H2 s2=>⟨_,rfl,?_⟩⟩
       cases e5:ji l m with
       | false=>rw [e5] at q; exact bh (q H2 (s1.trans s2))
       | true =>
        rw [e5] at q
        refine bf ?_
        have s02:=s1.trans s2
        cases l with
        | tup ls =>
         obtain ⟨la,lv,rfl,hla,hls⟩:=hl
         refine ⟨_,rfl,a,_,_,_,rfl,rfl,SqT.of (s02 _ _ ha),rfl,_,rfl,a,_,_,_,rfl,rfl,SqT.of (s02 _ _ ha),rfl,la,_,rfl,.inr (SqT.of (s02 _ _ hla)),vr,r,_,rfl,ThAt.same s02 _ hr',fun H3 s3=>?_⟩
         rw [hls.len]
         exact q H3 (s02.trans s3)
        | _=>cases e5
    | _=>cases e1
  | [],hts,q,hlen=>rw [hlen]; exact bf (q H (.refl H))
  | [_],hts,q,hlen=>rw [hlen]; exact bf (q H (.refl H))
  | [_,_],hts,q,hlen=>rw [hlen]; exact bf (q H (.refl H))
  | [_,_,_],hts,q,hlen=>rw [hlen]; exact bf (q H (.refl H))
  | _::_::_::_::_::r,hts,q,hlen =>
   refine du (fun _=>q H (.refl H)) (fun c=>absurd ?_ c)
   rw [hlen]
   simp only [List.length_cons]
   simp
   omega
 | _=>exact bf (bf (q H (.refl H)))
end
end K83
namespace K83
open PySem L2
def yn (ts:List Th) (k:Nat):Prop:=∀ t,ts[k]?=some t→iR t ((ts.take k).map nameOf) ts.length=true
theorem rq {t:Th} {ahead:List Str} {m:Int} (h:iR t ahead m=true):∃ z s r l,t=.tup [.str z,s,r,l]:=by
 unfold iR at h
 split at h
 ·rename_i n s r l
  simp only [Bool.and_eq_true] at h
  cases n with
  | str z=>exact ⟨z,s,r,l,rfl⟩
  | _=>exact absurd h.1.1.1 (by simp [eN])
 ·cases h
section
variable {P:Program} {w:World} {K:PySem.W.Frag} {mg:Str→Option Value} {base:Heap} {f:Addr} {fd:FuncData}
def gw:Sp:=fun vs H Q _=>∃ (v:V) (ts:List Th),vs=[v]∧ThAt H (.tup ts) v∧1≤ts.length∧ts.length≤6∧(∀ i,yn ts i)∧∀ H',Same H H'→Q v H'
theorem fM:FnScope ["thing","ahead","number","bell"] ["thing"] (aq jv):=⟨rfl,rfl,rfl,by decide +kernel,rfl,by decide +kernel,by decide +kernel⟩
theorem oM {tM:Tok} (F:Fun K "checked" "checked" jv f fd) (B:Blt mg) (mM:mg "MOST_BELLS"=some (.int 6 tM)) (C_isbell:Cal P w K mg base 7 "is_bell" ["thing","ahead","bells"] ic):FnOk P w K mg base CX0 8 f fd ["thing"] gw:=by
 refine F.ok fM (fun vs H Q E h=>?_) (fun cdv A outer s H vs Q E hr h=>?_)
 ·obtain ⟨v,ts,rfl,_⟩:=h
  rfl
 obtain ⟨v,ts,rfl,ht,t1,t6,gd,q⟩:=h
 refine ⟨_,(af (aU (PW.pt (eC (bw (bG (ay (bU "tuple") rfl B.isinstance_ PyProof.Rows.boot_isinstance (aa (pv 0) (aa (cE (v:=.ty "tuple") rfl B.tuple_ PyProof.Rows.boot_tuple rfl) ae))))) (cT (bw (da dr dr aj (ay aM rfl B.len_ PySem.boot_len (aa (pv 0) ae)) (cv (v:=.int 6) rfl mM ⟨tM,rfl⟩))))))
  aH
  aw)
  (af (aJ (i:=1) fM.nd rfl (Or.inl rfl) (cD ae))
  (af (cL PassesOwn.never rfl (kT rfl B.enumerate_ (aa (pv 0) ae)) (fV rfl (bg (aI (i:=2) fM.nd rfl (Or.inl rfl)) (bg (aI (i:=3) fM.nd rfl (Or.inl rfl)) d9)))
  (af (aU (bw (bG (az C_isbell hr (by decide) rfl (aa (pv 3) (aa (pv 1) (aa (ay aM rfl B.len_ PySem.boot_len (aa (pv 0) ae)) ae))))))
  aH
  aw)
  (ak (bp (dh PySem.F.plainAttrs_list PySem.F.slot_list_append PySem.F.type_list_append cz (pv 1) (aa (ar aP (pv 3) aj (fun _ _=>rfl)) ae))))))
  (ak (av (pv 0)))))),?_⟩
 obtain ⟨a,vs,rfl,ha,hts⟩:=ht
 have hlen:=hts.len
 refine ⟨_,rfl,_,_,_,rfl,.tup ha,xr K,_,rfl,bh ?_⟩
 refine ⟨_,rfl,a,_,rfl,.inr (SqT.of ha),_,_,rfl,rfl,_,rfl,?_⟩
 rw [decide_eq_true (show (1:Int)≤((vs.length:Nat):Int) by omega)]
 refine bf ⟨_,_,rfl,rfl,_,rfl,?_⟩
 rw [decide_eq_true (show ((vs.length:Nat):Int)≤6 by omega)]
 refine bh ?_
 refine ⟨(by show 0≤sizeLine; decide),fun l hl=>?_⟩
 have v1:=ao hl (.lst [])
 refine ⟨_,rfl,a,rfl,⟨_,SqT.of (v1 _ _ ha)⟩,js (K:=K) (a:=a) (xs:=vs) (fun i σ H2=>∃ (o2 o3:Option V),σ=[some (.ref a),some (.ref l),o2,o3]∧Same H H2∧H2 l=some (.lst (((ts.take i).map nameOf).map V.str)))
  ⟨none,none,rfl,v1,ah⟩ (fun i σ H2 _ ⟨_,_,_,s2,_⟩=>SqT.of (s2 _ _ ha)) ?_ ?_⟩
 ·rintro i y σ H2 T hi ⟨o2,o3,rfl,s2,hl2⟩ hT
  have hit:i<ts.length:=by
   have:=(List.getElem?_eq_some_iff.mp hi).1
   omega
  have hti:=List.getElem?_eq_getElem hit
  obtain ⟨y',hy',hty⟩:=hts.at hti
  obtain rfl:y'=y:=Option.some.inj (hy'.symm.trans hi)
  have v3:=ao hT (.tup [.int (i:Int),y'])
  have s3:=s2.trans v3
  have eT:(upd H2 T (.tup [.int (i:Int),y'])) T=some (.tup [.int (i:Int),y']):=ah
  refine ⟨T,_,rfl,SqT.of eT,rfl,_,_,rfl,_,_,rfl,rfl,?_⟩
  refine ⟨_,rfl,_,rfl,_,rfl,a,_,rfl,.inr (SqT.of (s3 _ _ ha)),y',ts[i],l,(ts.take i).map nameOf,_,rfl,ThAt.same s3 _ hty,v3 _ _ hl2,fun H4 s4=>⟨_,rfl,?_⟩⟩
  rw [hlen]
  have s04:=s3.trans s4
  have e:=gd i _ hti
  rw [e]
  refine bh ?_
  obtain ⟨z,st,r,lt,eb⟩:=rq e
  rw [eb] at hty
  obtain ⟨xa,xv,rfl,hxa,⟨vn,r1,rfl,⟨rfl,_⟩,_⟩⟩:=hty
  have hl4:=(v3.trans s4) _ _ hl2
  refine ⟨_,rfl,.inl ⟨rfl,_,SqL.of hl4⟩,_,rfl,xa,_,_,_,rfl,rfl,SqT.of (s04 _ _ hxa),bj (j:=0) rfl,l,_,_,rfl,rfl,hl4,(by rw [List.length_map,List.length_map,List.length_take]; exact aW (by omega)),?_⟩
  refine ⟨_,_,rfl,s04.upd hl _,?_⟩
  rw [take_snoc hti,List.map_append,List.map_append,eb]
  exact ah
 ·rintro σ H2 ⟨o2,o3,rfl,s2,hl2⟩
  exact ⟨_,rfl,q H2 s2⟩
end
end K83
namespace K83
open PySem L2
def su:Str:="abcdefghijklmnopqrstuvwxyz"
def four:List Str:=["all","any","bell","none"]
def Et (pre:Str) (c:Nat):Str:=pre++(⟨#[c]⟩:Str)
def DW (z:Str):Prop:=∀ c∈z.cps.toList,c∈su.cps.toList
theorem zK {α:Type} (x:α) (r:List α):atI (x::r) 0=some x:=bj (j:=0) rfl
def Low (cs:List Int):Prop:=∀ n∈cs,0≤n∧n<26
def sg (n:Int):Nat:=su.cps.toList.getD n.toNat 0
def ones (cs:List Int):List Str:=cs.map fun n=>(⟨#[sg n]⟩:Str)
end K83
namespace K83
open PySem L2
def But (t:Addr) (H H':Hp):Prop:=∀ a o,a≠t→H a=some o→H' a=some o
theorem But.refl (t:Addr) (H:Hp):But t H H:=fun _ _ _ h=>h
theorem But.trans {t:Addr} {H H1 H2:Hp} (a:But t H H1) (b:But t H1 H2):But t H H2:=fun c o n h=>b c o n (a c o n h)
theorem Same.but {t:Addr} {H H':Hp} (s:Same H H'):But t H H':=fun a o _ h=>s a o h
theorem But.upd {t:Addr} {H H':Hp} (s:But t H H') (o:HO):But t H (upd H' t o):=fun a u n h=>by rw [au n]; exact s a u n h
theorem But.tup {t:Addr} {H H':Hp} {ws:List V} (s:But t H H') (ht:H t=some (.lst ws)):iy H H':=fun b xs e=>s b _ (d6 e ht (by intro z; cases z)) e
theorem But.same {t:Addr} {H0 H H':Hp} (s:But t H H') (s0:Same H0 H) (n:H0 t=none):Same H0 H':=fun a o e=>s a o (aG e n) (s0 a o e)
theorem But.free {t a:Addr} {H H':Hp} {o:HO} (s:But t H H') (ht:H' t=some o) (h:H' a=none):H a=none:=by
 cases e:H a with
 | none=>rfl
 | some u =>
  have n:a≠t:=fun z=>by rw [z,ht] at h; cases h
  rw [s a u n e] at h
  cases h
def PkAt (H:Hp) (p:Addr) (k:Nat):Prop:=∃ x:Int,H p=some (.lst [.int x,.int (k:Int)])
section
variable {P:Program} {w:World} {K:PySem.W.Frag} {mg:Str→Option Value} {base:Heap} {f:Addr} {fd:FuncData}
def kx (K:PySem.W.Frag):Sp:=fun vs H Q _=>∃ (a:Addr) (ns:List Int) (k:Nat),vs=[.ref a,.int (k:Int)]∧SqL K H a (ns.map V.int)∧k≤1000∧∀ (H':Hp) (p:Addr),Same H H'→H p=none→PkAt H' p k→Q (.ref p) H'
theorem y3:FnScope ["_law_script","_law_k"] ["_law_script","_law_k"] (aq rZ):=⟨rfl,rfl,rfl,by decide +kernel,rfl,by decide +kernel,by decide +kernel⟩
theorem yL (F:Fun K "_law_pack" "_law_pack" rZ f fd) (B:Blt mg):FnOk P w K mg base CX0 1 f fd ["_law_script","_law_k"] (kx K):=by
 refine F.ok y3 (fun vs H Q E h=>?_) (fun cdv A outer s H vs Q E hr h=>?_)
 ·obtain ⟨a,ns,k,rfl,_⟩:=h
  rfl
 obtain ⟨a,ns,k,rfl,hS,hk,q⟩:=h
 refine ⟨_,(af (aU (aC nh (pv 1) (ay aM rfl B.len_ PySem.boot_len (aa (pv 0) ae)) (aL _))
  (ak (av (cD (aa (ar ax (pv 0) (pv 1) (fun _ _=>rfl)) (aa (pv 1) ae)))))
  aw)
  (ak (av (cD (aa (aV oB (aV cm (aV kQ aj (pv 1)) (ay (xV rfl) rfl B.sum_ PyProof.Rows.boot_sum (aa (eI kn (pv 0) gg (fK aj)) ae))) aj) (aa (pv 1) ae)))))),?_⟩
 refine ⟨_,rfl,_,rfl,a,_,rfl,.inl hS,_,_,rfl,rfl,_,rfl,?_⟩
 refine du (fun c=>?_) (fun c=>?_)
 ·have c':(k:Int)<(((ns.map V.int).length:Nat):Int):=of_decide_eq_true c
  rw [List.length_map] at c'
  have e:=List.getElem?_eq_getElem (show k<ns.length by omega)
  refine ⟨_,rfl,_,rfl,a,_,_,_,rfl,rfl,hS,w6 e,_,rfl,(by show 2≤sizeLine; decide),fun p hp=>?_⟩
  exact q _ p (ao hp _) hp ⟨_,ah⟩
 ·refine ⟨_,rfl,_,_,rfl,rfl,.inl ⟨by decide,by decide⟩,_,rfl,_,rfl,a,_,rfl,hS,fun l hl=>?_⟩
  have s1:=ao hl (.lst (eM (ns.map V.int) none (some 9)))
  have ec:∃ ms:List Int,eM (ns.map V.int) none (some 9)=ms.map V.int:=by
   unfold eM
   exact ⟨_,by rw [← List.map_drop,← List.map_take]⟩
  obtain ⟨ms,ec⟩:=ec
  rw [ec] at s1
  rw [ec]
  refine ⟨l,ms,rfl,SqL.of ah,fun S=>?_⟩
  refine ⟨_,_,rfl,rfl,_,_,rfl,rfl,(show (0:Int)<16777213 by decide),_,rfl,(by show 2≤sizeLine; decide),fun p hp=>?_⟩
  exact q _ p (s1.trans (ao hp _)) (s1.free hp) ⟨_,ah⟩
def i7:Sp:=fun vs H Q _=>∃ (p:Addr) (k:Nat) (m:Int),vs=[.ref p,.int m]∧PkAt H p k∧k≤1000∧1≤m∧m≤5000∧∀ (d:Nat) (H':Hp),(d:Int)<m→But p H H'→PkAt H' p k→Q (.int (d:Int)) H'
theorem sL:FnScope ["_law_pack_here","_law_many","_law_digit"] ["_law_pack_here","_law_many"] (aq q0):=⟨rfl,rfl,rfl,by decide +kernel,rfl,by decide +kernel,by decide +kernel⟩
theorem zE (F:Fun K "_law_take" "_law_take" q0 f fd) (B:Blt mg):FnOk P w K mg base CX0 1 f fd ["_law_pack_here","_law_many"] i7:=by
 refine F.ok sL (fun vs H Q E h=>?_) (fun cdv A outer s H vs Q E hr h=>?_)
 ·obtain ⟨p,k,m,rfl,_⟩:=h
  rfl
 obtain ⟨p,k,m,rfl,⟨x,hp⟩,hk,m1,m2,q⟩:=h
 have fin:∀ (d:Int) (H':Hp),0≤d→d<m→But p H H'→PkAt H' p k→Q (.int d) H':=fun d H' h0 h1 b pk=>by
  have:=q d.toNat H' (by omega) b pk
  rw [show ((d.toNat:Nat):Int)=d by omega] at this
  exact this
 refine ⟨_,(af (aU (bw (da dr nh aj (ar ax (pv 0) aj (fun _ _=>rfl)) (aV BN aj aj)))
  (af (rp (ay ph rfl B.divmod_ PyProof.Rows.boot_divmod (aa (ar ax (pv 0) aj (fun _ _=>rfl)) (aa (pv 1) ae))) (fV rfl (bg (rJ (pv 0) aj set_list) (bg (aI (i:=2) sL.nd rfl (Or.inl rfl)) d9))))
  (ak (av (pv 2))))
  aw)
  (af (rp (aV oB (aV cm (aV cm (aV kQ (ar ax (pv 0) aj (fun _ _=>rfl)) aj) (aV kQ (ar ax (pv 0) aj (fun _ _=>rfl)) aj)) aj) aj) (rJ (pv 0) aj set_list))
  (ak (av (aV oB (aV yZ (aV kQ (ar ax (pv 0) aj (fun _ _=>rfl)) (aV cm (aV oB (ar ax (pv 0) aj (fun _ _=>rfl)) aj) aj)) aj) (pv 1)))))),?_⟩
 have yes:∀ T,H T=none→Q (.int (x % m)) (upd (upd H T (.tup [.int (x / m),.int (x % m)])) p (.lst [.int (x / m),.int (k:Int)])):=fun T hT =>
  fin _ _ (Int.emod_nonneg _ (by omega)) (Int.emod_lt_of_pos _ (by omega)) ((Same.but (ao hT _)).upd _) ⟨_,ah⟩
 have digits:∀ T,H T=none→(upd H T (.tup [.int (x / m),.int (x % m)])) p=some (.lst [.int x,.int (k:Int)]):=fun T hT=>ao hT _ _ _ hp
 refine ⟨_,rfl,p,_,_,_,rfl,rfl,SqL.of hp,rfl,_,_,rfl,rfl,_,rfl,?_⟩
 refine du (fun c0=>?_) (fun c0=>?_)
 ·have x0:0≤x:=of_decide_eq_true c0
  refine ⟨_,_,rfl,rfl,⟨by decide,by decide,by decide⟩,_,_,rfl,rfl,_,rfl,?_⟩
  by_cases hx:x<(10:Int) ^ (Int.toNat 18)
  ·rw [decide_eq_true hx]
   refine bh ?_
   have hx':x<1000000000000000000:=hx
   refine ⟨_,rfl,p,_,_,_,rfl,rfl,SqL.of hp,rfl,_,_,rfl,rfl,.inl ⟨by omega,by omega⟩,_,rfl,p,_,_,_,rfl,rfl,SqL.of hp,rfl,_,_,rfl,rfl,.inr ⟨by decide,by decide⟩,_,_,rfl,rfl,_,_,rfl,rfl,_,_,rfl,rfl,(show (0:Int)<16777213 by decide),_,rfl,p,_,_,_,rfl,rfl,hp,rfl,?_⟩
   have y0:=Int.emod_nonneg (x * 742939+(k:Int) * 65063+40503) (show (16777213:Int)≠0 by decide)
   have y1:=Int.emod_lt_of_pos (x * 742939+(k:Int) * 65063+40503) (show (0:Int)<16777213 by decide)
   dsimp only
   generalize (x * 742939+(k:Int) * 65063+40503) % 16777213=y at y0 y1 ⊢
   have hp2:(upd H p (.lst [.int y,.int (k:Int)])) p=some (.lst [.int y,.int (k:Int)]):=ah
   refine ⟨_,rfl,p,_,_,_,rfl,rfl,SqL.of hp2,rfl,_,rfl,p,_,_,_,rfl,rfl,SqL.of hp2,rfl,_,_,rfl,rfl,(show (0:Int)<4093 by decide),_,_,rfl,rfl,_,_,rfl,rfl,.inl ⟨by omega,by omega⟩,_,_,rfl,rfl,⟨by decide,by decide⟩,_,rfl,_,_,rfl,rfl,(show (0:Int)<m by omega),?_⟩
   exact fin _ _ (Int.emod_nonneg _ (by omega)) (Int.emod_lt_of_pos _ (by omega)) ((But.refl p H).upd _) ⟨_,hp2⟩
  ·rw [decide_eq_false hx]
   refine bf ?_
   refine ⟨_,rfl,p,_,_,_,rfl,rfl,SqL.of hp,rfl,_,rfl,_,_,rfl,⟨by omega,by omega⟩,fun T hT=>?_⟩
   refine ⟨T,_,rfl,SqT.of ah,rfl,_,_,rfl,_,rfl,p,_,_,_,rfl,rfl,digits T hT,rfl,_,_,rfl,rfl,?_⟩
   exact ⟨_,rfl,yes T hT⟩
 ·refine ⟨_,rfl,bf ?_⟩
  refine ⟨_,rfl,p,_,_,_,rfl,rfl,SqL.of hp,rfl,_,rfl,_,_,rfl,⟨by omega,by omega⟩,fun T hT=>?_⟩
  refine ⟨T,_,rfl,SqT.of ah,rfl,_,_,rfl,_,rfl,p,_,_,_,rfl,rfl,digits T hT,rfl,_,_,rfl,rfl,?_⟩
  exact ⟨_,rfl,yes T hT⟩
end
end K83
namespace K83
open PySem L2
structure GoodNm (ahead names:List Str):Prop where
 nd:names.Nodup
 fr:∀ x∈names,x∉ahead∧x∉four
 ln:∀ x∈names,1≤x.length∧x.length≤8
 lw:∀ x∈names,DW x
theorem PkAt.same {H H':Hp} {p:Addr} {k:Nat} (s:Same H H') (h:PkAt H p k):PkAt H' p k:=by
 obtain ⟨x,hx⟩:=h
 exact ⟨x,s _ _ hx⟩
theorem PkAt.ne {H:Hp} {p l:Addr} {k:Nat} (h:PkAt H p k) (hl:H l=none):l≠p:=fun e=>by
 obtain ⟨x,hx⟩:=h
 rw [e,hx] at hl
 cases hl
theorem PkAt.tup {H H':Hp} {p:Addr} {k:Nat} (h:PkAt H p k) (b:But p H H'):iy H H':=by
 obtain ⟨x,hx⟩:=h
 exact b.tup hx
section
variable {P:Program} {w:World} {K:PySem.W.Frag} {mg:Str→Option Value} {base:Heap} {f:Addr} {fd:FuncData}
def mm:Sp:=fun vs H Q _=>∃ (p:Addr) (k m:Nat),vs=[.ref p,.int 2,.int (m:Int)]∧PkAt H p k∧k≤1000∧m≤8∧∀ (H':Hp) (r:RW),But p H H'→PkAt H' p k→GoodR m r→Q (rwV r) H'
theorem qp:FnScope ["_law_pack_here","_law_sort","_law_many","_law_pick"] ["_law_pack_here","_law_sort","_law_many"] (aq nV):=⟨rfl,rfl,rfl,by decide +kernel,rfl,by decide +kernel,by decide +kernel⟩
theorem vN (F:Fun K "_law_rule" "_law_rule" nV f fd) (B:Blt mg) (C_take:Cal P w K mg base 1 "_law_take" ["_law_pack_here","_law_many"] i7):FnOk P w K mg base CX0 2 f fd ["_law_pack_here","_law_sort","_law_many"] mm:=by
 refine F.ok qp (fun vs H Q E h=>?_) (fun cdv A outer s H vs Q E hr h=>?_)
 ·obtain ⟨p,k,m,rfl,_⟩:=h
  rfl
 obtain ⟨p,k,m,rfl,pk,hk,hm,q⟩:=h
 refine ⟨_,(af (aU (aC cF (pv 1) aj (aL _))
  aH
  aw)
  (af (aU (aC cF (pv 1) aj (aL _))
  aH
  aw)
  (af (aJ (i:=3) qp.nd rfl (Or.inl rfl) (az C_take hr (by decide) rfl (aa (pv 0) (aa (aV cm (pv 2) aj) ae))))
  (ak (av (ar ax (aV rQ (cD (aa aB (aa aB ae))) (cJ ["_law_k"] [] [] rfl (fz rfl B.range_ (aa (pv 2) ae)) (fun _ _ _ _ _=>(aI (i:=0) (show List.Nodup [("_law_k":Str)] by decide +kernel) rfl (Or.inl rfl))) (fun _ _ _ _ _=>bV) (fun _ _ _ _ _=>(aV cm (pv 0) aj)))) (pv 3) (fun _ _=>rfl))))))),?_⟩
 refine ⟨_,rfl,rfl,_,rfl,bh ?_⟩
 refine ⟨_,rfl,rfl,_,rfl,bh ?_⟩
 refine ⟨_,rfl,_,rfl,_,_,rfl,rfl,p,k,_,rfl,pk,hk,by omega,by omega,fun d H1 hd b1 pk1=>?_⟩
 refine ⟨(by show 2≤sizeLine; decide),fun l hl=>?_⟩
 have s2:=ao hl (.lst [.str "all",.str "any"])
 have hl2:(upd H1 l (.lst [.str "all",.str "any"])) l=some (.lst [.str "all",.str "any"]):=ah
 generalize upd H1 l (.lst [.str "all",.str "any"])=H2 at s2 hl2 ⊢
 refine ⟨_,rfl,_,rfl,by omega,by omega,fun D hD=>?_⟩
 refine qN (lo:=0) (n:=((m:Nat):Int).toNat) (fun j ys H3=>Same H2 H3∧ys=(List.range j).map fun i:Nat=>V.int ((i:Int)+1)) ⟨ao hD _,rfl⟩ ?_ ?_
 ·rintro j ys H3 hj ⟨s3,rfl⟩ hD3
  rw [Int.zero_add]
  refine ⟨rfl,bo ?_⟩
  refine ⟨_,rfl,_,_,rfl,rfl,_,hD3,?_,_,⟨s3.upd hD _,?_⟩,ah⟩
  ·rw [List.length_map,List.length_range]
   exact aW (by omega)
  ·rw [List.range_succ,List.map_append]
   rfl
 rintro ys H3 ⟨s3,rfl⟩ hD3
 rw [Int.toNat_natCast] at hD3
 refine ⟨l,D,_,_,rfl,rfl,s3 _ _ hl2,hD3,?_,fun L hL=>?_⟩
 ·rw [List.length_map,List.length_range,sizeLine_eq]
  show 2+m≤_
  omega
 have s4:=(s2.trans s3).trans (ao hL (.lst ([.str "all",.str "any"]++(List.range m).map fun i:Nat=>V.int ((i:Int)+1))))
 obtain ⟨r,gr,hr'⟩:∃ r:RW,GoodR m r∧([V.str "all",V.str "any"]++(List.range m).map fun i:Nat=>V.int ((i:Int)+1))[d]?=some (rwV r):=by
  match d,hd with
  | 0,_=>exact ⟨.all,trivial,rfl⟩
  | 1,_=>exact ⟨.any,trivial,rfl⟩
  | e+2,h =>
   refine ⟨.num ((e:Int)+1),⟨by omega,by omega⟩,?_⟩
   show ((List.range m).map fun i:Nat=>V.int ((i:Int)+1))[e]?=_
   rw [List.getElem?_map,List.getElem?_range (by omega)]
   rfl
 refine ⟨_,rfl,L,_,_,_,rfl,rfl,SqL.of ah,bj hr',?_⟩
 obtain ⟨x,hx⟩:=pk1
 exact q _ r (b1.trans (Same.but s4)) ⟨x,s4 _ _ hx⟩ gr
end
end K83
namespace K83
open PySem L2
def dM:Str:="0123456789"
def jb (c:Nat):Bool:=!(Builtin.Str.occurrences dM ⟨#[c]⟩ 0 dM.length 1).isEmpty
theorem ud {c:Nat} (h:jb c=true):48≤c∧c≤57:=by
 unfold jb at h
 rcases StrLaws.occ_head dM ⟨#[c]⟩ 1 (Nat.le_refl _) with ⟨e,_⟩ | ⟨i,r,_,h2,_⟩
 ·rw [e] at h
  cases h
 ·have hm:=List.mem_of_getElem? ((StrLaws.subAt_one dM c i).mp h2)
  have all:∀ c∈dM.cps.toList,48≤c∧c≤57:=by decide +kernel
  exact all c hm
theorem uK {c:Nat} (h1:48≤c) (h2:c≤57):jb c=true:=by
 have all:∀ d,d<10→jb (48+d)=true:=by decide +kernel
 have:=all (c - 48) (by omega)
 rw [show 48+(c - 48)=c by omega] at this
 exact this
theorem pV:("0":Str)=⟨#[48]⟩:=by decide +kernel
def d5 (z:Str) (m:Int):Bool:=decide (1≤z.length) && decide ((z.length:Int)≤m) && z.cps.toList.all jb && (decide (z="0") || decide (z.cps.toList[0]?≠some 48))
def kf (z:Str):Th:=if d5 z 9=true then .int (PySem.NumText.digitsVal z.cps.toList:Nat) else .non
def kD (z:Str):Th:=if z="all"∨z="any" then .str z else kf z
def gQ (z:Str):Str:=if Txt.endswith z "="=true then Txt.slice z none (some (-1)) else z
def qm (z:Str):Int:=if Txt.endswith z "="=true then 0 else 1
def pL (names:List Str) (z:Str):Th :=
 if eN (.str (Txt.partition z "+").1)=true∧(Txt.partition z "+").1∈names then
  .tup [.int ((names.findIdx (fun x=>decide (x=(Txt.partition z "+").1)):Nat):Int),kf (gQ (Txt.partition z "+").2.2),.int (qm (Txt.partition z "+").2.2)]
 else .non
def fH (names:List Str) (z:Str):Th :=
 if (Txt.split z " ").length<4 then .non
 else .tup [.str ((Txt.split z " ").getD 0 Str.empty),kf ((Txt.split z " ").getD 1 Str.empty),kD ((Txt.split z " ").getD 2 Str.empty),.tup (((Txt.split z " ").drop 3).map (pL names))]
theorem oo (x y:Str):(Txt.partition x y).1.length≤x.length∧(Txt.partition x y).2.2.length≤x.length:=by
 unfold Txt.partition
 cases Builtin.Str.occurrences x y 0 x.length 1 with
 | nil=>exact ⟨Nat.le_refl _,Nat.zero_le _⟩
 | cons i r=>exact ⟨strSub_length_le ..,strSub_length_le ..⟩
theorem slice_le (x:Str) (lo hi:Option Int):(Txt.slice x lo hi).length≤x.length:=by
 rw [← bq,← bq,nq]
 unfold yM
 rw [List.length_take,List.length_drop]
 omega
theorem wx (z:Str):(gQ z).length≤z.length:=by
 unfold gQ
 split
 ·exact slice_le ..
 ·exact Nat.le_refl _
section
variable {P:Program} {w:World} {K:PySem.W.Frag} {mg:Str→Option Value} {base:Heap} {f:Addr} {fd:FuncData}
def km:Sp:=fun vs H Q _=>∃ (z:Str) (m:Int),vs=[.str z,.int m]∧z.length≤1000∧∀ H',Same H H'→Q (.bl (d5 z m)) H'
theorem zH:FnScope ["text","most_figures"] ["text","most_figures"] (aq cU):=⟨rfl,rfl,rfl,by decide +kernel,rfl,by decide +kernel,by decide +kernel⟩
theorem zA {tF:Tok} (F:Fun K "is_written_whole" "is_written_whole" cU f fd) (B:Blt mg) (mF:mg "FIGURES"=some (.str dM tF)):FnOk P w K mg base CX0 1 f fd ["text","most_figures"] km:=by
 refine F.ok zH (fun vs H Q E h=>?_) (fun cdv A outer s H vs Q E hr h=>?_)
 ·obtain ⟨z,m,rfl,_⟩:=h
  rfl
 obtain ⟨z,m,rfl,hz,q⟩:=h
 refine ⟨_,(af (aU (bw (da dr dr aj (ay fP rfl B.len_ PySem.boot_len (aa (pv 0) ae)) (pv 1)))
  (ak (av eQ))
  aw)
  (af (aU (bw (bG (ay (i3 rfl) rfl B.all_ PyProof.Rows.boot_all (aa (cJ ["sign"] [] [] rfl (xg (pv 0)) (fun _ _ _ _ _=>(aI (i:=0) (show List.Nodup [("sign":Str)] by decide +kernel) rfl (Or.inl rfl))) (fun _ _ _ _ _=>bV) (fun _ _ _ _ _=>(dI mU (pv 0) (cv (v:=.str dM) rfl mF ⟨tF,rfl⟩) rfl))) ae))))
  (ak (av eQ))
  aw)
  (ak (av (C4 (dI cF (pv 0) aB (aL _)) (gp (dI je (ar vM (pv 0) aj (fun _ _=>rfl)) aB (aL _)))))))),?_⟩
 refine ⟨_,rfl,_,rfl,(by rw [sizeLine_eq]; omega),_,_,rfl,rfl,_,rfl,du (fun g1=>?_) (fun g1=>?_)⟩
 rotate_left
 ·have e:d5 z m=false:=by
   unfold d5
   rw [decide_eq_false (show ¬ 1≤z.length from fun h=>g1 (decide_eq_true (by omega)))]
   rfl
  rw [e] at q
  exact ⟨_,rfl,bf (q H (.refl H))⟩
 have h1:(1:Int)≤(z.length:Int):=of_decide_eq_true g1
 refine ⟨_,rfl,_,_,rfl,rfl,_,rfl,?_⟩
 by_cases h2:(z.length:Int)≤m
 rotate_left
 ·have e:d5 z m=false:=by
   unfold d5
   rw [decide_eq_false h2,Bool.and_false]
   rfl
  rw [e] at q
  rw [decide_eq_false h2]
  exact bf (q H (.refl H))
 rw [decide_eq_true h2]
 refine bh ?_
 have e:d5 z m=(z.cps.toList.all jb && (decide (z="0") || decide (z.cps.toList[0]?≠some 48))):=by
  unfold d5
  rw [decide_eq_true (show 1≤z.length by omega),decide_eq_true h2]
  rfl
 rw [e] at q
 refine ⟨_,rfl,z,rfl,fun D hD=>?_⟩
 refine pC (z:=z) (fun i ys H3=>Same H H3∧ys=((z.cps.toList.take i).map jb).map V.bl) ⟨ao hD _,rfl⟩ ?_ ?_
 ·rintro i c ys H3 hc ⟨s3,rfl⟩ hD3
  have hc':z.cps.toList[i]?=some c:=by simpa using hc
  have hi:i<z.length:=by
   have:=(List.getElem?_eq_some_iff.mp hc').1
   rw [bq] at this
   exact this
  refine ⟨rfl,bo ?_⟩
  refine ⟨_,rfl,_,_,rfl,rfl,_,hD3,?_,_,⟨s3.upd hD _,rfl⟩,?_⟩
  ·rw [List.length_map,List.length_map,List.length_take]
   exact aW (by omega)
  ·rw [take_snoc hc',List.map_append,List.map_append]
   exact ah
 rintro ys H3 ⟨s3,rfl⟩ hD3
 have hT:z.cps.toList.take z.cps.size=z.cps.toList:=List.take_of_length_le (by simp)
 rw [hT] at hD3
 refine ⟨D,_,rfl,SqL.of hD3,?_⟩
 rw [all_map]
 refine ⟨_,rfl,?_⟩
 cases ea:z.cps.toList.all jb with
 | false=>rw [ea] at q; exact bf (q H3 s3)
 | true =>
  rw [ea] at q
  refine bh ?_
  refine ⟨_,rfl,rfl,_,rfl,?_⟩
  refine du (fun c=>?_) (fun c=>?_)
  ·rw [decide_eq_true (show z="0" from V.str.inj (of_decide_eq_true c))] at q
   exact q H3 s3
  ·have c':¬ z="0":=fun h=>c (decide_eq_true (congrArg V.str h))
   rw [decide_eq_false c'] at q
   have h0:0<z.cps.toList.length:=by rw [bq]; omega
   have hat:=List.getElem?_eq_getElem h0
   refine ⟨_,rfl,_,_,_,rfl,rfl,(by rw [sizeLine_eq]; omega),bj (j:=0) hat,rfl,?_⟩
   have e0:(!decide (V.str ⟨#[z.cps.toList[0]]⟩=V.str ("0":Str)))=decide (z.cps.toList[0]?≠some 48):=by
    rw [hat,pV,← decide_not]
    refine decide_eq_decide.mpr ⟨fun h h'=>h ?_,fun h h'=>h ?_⟩
    ·rw [Option.some.inj h']
    ·have:=V.str.inj h'
     injection this with this
     have e2:=congrArg Array.toList this
     rw [(List.cons.inj e2).1]
   rw [e0]
   exact q H3 s3
theorem jY {z:Str} {m:Int} (h:d5 z m=true):PySem.NumText.AllDigits z.cps.toList∧z.cps.toList≠[]∧(z.length:Int)≤m:=by
 unfold d5 at h
 rw [Bool.and_eq_true,Bool.and_eq_true,Bool.and_eq_true] at h
 obtain ⟨⟨⟨h1,h2⟩,h3⟩,_⟩:=h
 refine ⟨fun c hc=>ud (List.all_eq_true.mp h3 c hc),fun e=>?_,of_decide_eq_true h2⟩
 have:=of_decide_eq_true h1
 rw [← bq,e] at this
 exact absurd this (by decide)
def jf:Sp:=fun vs H Q _=>∃ (z:Str),vs=[.str z]∧z.length≤1000∧∀ H' v,Same H H'→ThAt H' (kf z) v→Q v H'
theorem zG:FnScope ["text"] ["text"] (aq eZ):=⟨rfl,rfl,rfl,by decide +kernel,rfl,by decide +kernel,by decide +kernel⟩
theorem Af {tM:Tok} (F:Fun K "read_number" "read_number" eZ f fd) (B:Blt mg) (mM:mg "MOST_FIGURES_choirtexts"=some (.int 9 tM)) (C_writ:Cal P w K mg base 1 "is_written_whole" ["text","most_figures"] km):FnOk P w K mg base CX0 2 f fd ["text"] jf:=by
 refine F.ok zG (fun vs H Q E h=>?_) (fun cdv A outer s H vs Q E hr h=>?_)
 ·obtain ⟨z,rfl,_⟩:=h
  rfl
 obtain ⟨z,rfl,hz,q⟩:=h
 refine ⟨_,(af (aU (bG (az C_writ hr (by decide) rfl (aa (pv 0) (aa (cv (v:=.int 9) rfl mM ⟨tM,rfl⟩) ae))))
  (ak (av (aX cj rfl B.int_ PyProof.Rows.boot_int (aa (pv 0) ae))))
  aw)
  (ak (av c9))),?_⟩
 refine ⟨_,rfl,z,9,rfl,hz,fun H1 s1=>⟨_,rfl,?_⟩⟩
 cases e:d5 z 9 with
 | false =>
  refine bh ?_
  have e2:kf z=.non:=by unfold kf; rw [e]; rfl
  rw [e2] at q
  exact q H1 .non s1 rfl
 | true =>
  refine bf ?_
  obtain ⟨h1,h2,h3⟩:=jY e
  have e2:kf z=.int (PySem.NumText.digitsVal z.cps.toList:Nat):=by unfold kf; rw [e]; rfl
  rw [e2] at q
  exact ⟨_,rfl,z,_,rfl,by omega,PySem.intText_digits h1 h2 (by omega),q H1 _ s1 rfl⟩
def kU:Sp:=fun vs H Q _=>∃ (z:Str),vs=[.str z]∧z.length≤1000∧∀ H' v,Same H H'→ThAt H' (kD z) v→Q v H'
theorem yf:FnScope ["text"] ["text"] (aq gs):=⟨rfl,rfl,rfl,by decide +kernel,rfl,by decide +kernel,by decide +kernel⟩
theorem wU (F:Fun K "read_rule" "read_rule" gs f fd) (C_rnum:Cal P w K mg base 2 "read_number" ["text"] jf):FnOk P w K mg base CX0 3 f fd ["text"] kU:=by
 refine F.ok yf (fun vs H Q E h=>?_) (fun cdv A outer s H vs Q E hr h=>?_)
 ·obtain ⟨z,rfl,_⟩:=h
  rfl
 obtain ⟨z,rfl,hz,q⟩:=h
 refine ⟨_,(af (aU (aC jr (pv 0) (dZ (aa aB (aa aB ae))) rfl)
  (ak (av (pv 0)))
  aw)
  (ak (av (az C_rnum hr (by decide) rfl (aa (pv 0) ae))))),?_⟩
 refine ⟨_,rfl,(by show 2≤sizeLine; decide),fun l hl=>?_⟩
 have s1:=ao hl (.tup [.str "all",.str "any"])
 refine ⟨l,_,rfl,.inr (SqT.of ah),rfl,fG ["all","any"],_,rfl,?_⟩
 rw [show [V.str "all",V.str "any"]=(["all","any"]:List Str).map V.str from rfl,jh]
 by_cases h:z="all"∨z="any"
 ·rw [decide_eq_true (by rcases h with rfl | rfl <;> simp)]
  refine bf ?_
  have e2:kD z=.str z:=if_pos h
  rw [e2] at q
  exact ⟨_,rfl,q _ _ s1 ⟨rfl,hz⟩⟩
 ·rw [decide_eq_false (by
   intro hm
   rcases List.mem_cons.mp hm with h1 | h1
   ·exact h (.inl h1)
   ·exact h (.inr (List.mem_singleton.mp h1)))]
  refine bh ?_
  have e2:kD z=kf z:=if_neg h
  rw [e2] at q
  exact ⟨_,rfl,z,rfl,hz,fun H' v s' ht=>q H' v (s1.trans s') ht⟩
end
end K83
namespace K83
open PySem L2
theorem qf:("+":Str)=⟨#[43]⟩:=by decide +kernel
theorem eq_str:("=":Str)=⟨#[61]⟩:=by decide +kernel
theorem tD:(" ":Str)=⟨#[32]⟩:=by decide +kernel
theorem sO {names:List Str} {z:Str} (h:z∈names):names[names.findIdx (fun x=>decide (x=z))]?=some z∧∀ i,i<names.findIdx (fun x=>decide (x=z))→names[i]?≠some z:=by
 have hx:names.findIdx (fun x=>decide (x=z))<names.length:=List.findIdx_lt_length_of_exists ⟨z,h,decide_eq_true rfl⟩
 refine ⟨?_,fun i hi e=>?_⟩
 ·rw [List.getElem?_eq_getElem hx]
  exact congrArg some (of_decide_eq_true (List.findIdx_getElem (p:=fun x=>decide (x=z)) (w:=hx)))
 ·obtain ⟨hl,e'⟩:=List.getElem?_eq_some_iff.mp e
  have:=List.not_of_lt_findIdx hi
  rw [e'] at this
  rw [decide_eq_true rfl] at this
  cases this
section
variable {P:Program} {w:World} {K:PySem.W.Frag} {mg:Str→Option Value} {base:Heap} {f:Addr} {fd:FuncData}
def nM:Sp:=fun vs H Q _=>∃ (z:Str) (nl:Addr) (names:List Str),vs=[.str z,.ref nl]∧z.length≤1000∧H nl=some (.lst (names.map V.str))∧names.length≤1000∧∀ H' v,Same H H'→ThAt H' (pL names z) v→Q v H'
theorem g9:FnScope ["text","names","parts","beats","back"] ["text","names"] (aq dy):=⟨rfl,rfl,rfl,by decide +kernel,rfl,by decide +kernel,by decide +kernel⟩
theorem zo (F:Fun K "read_listening" "read_listening" dy f fd) (C_name:Cal P w K mg base 2 "is_name" ["thing"] kq) (C_rnum:Cal P w K mg base 2 "read_number" ["text"] jf):FnOk P w K mg base CX0 3 f fd ["text","names"] nM:=by
 refine F.ok g9 (fun vs H Q E h=>?_) (fun cdv A outer s H vs Q E hr h=>?_)
 ·obtain ⟨z,nl,names,rfl,_⟩:=h
  rfl
 obtain ⟨z,nl,names,rfl,hz,hnl,hn,q⟩:=h
 refine ⟨_,(af (aJ (i:=2) g9.nd rfl (Or.inl rfl) (dh PySem.F.plainAttrs_str PySem.F.slot_str_partition PySem.F.type_str_partition nF (pv 0) (aa aB ae)))
  (af (aU (PW.pt (eC (bw (bG (az C_name hr (by decide) rfl (aa (ar aP (pv 2) aj (fun _ _=>rfl)) ae)))) (cT (aC jd (ar aP (pv 2) aj (fun _ _=>rfl)) (pv 1) rfl))))
  (ak (av c9))
  aw)
  (af (aJ (i:=3) g9.nd rfl (Or.inl rfl) (ar aP (pv 2) aj (fun _ _=>rfl)))
  (af (aJ (i:=4) g9.nd rfl (Or.inl rfl) aj)
  (vZ (aU (bG (dh PySem.F.plainAttrs_str PySem.F.slot_str_endswith PySem.F.type_str_endswith oP (pv 3) (aa aB ae)))
  (af (aJ (i:=3) g9.nd rfl (Or.inl rfl) (eI Bg (pv 3) gg (fK (Cb AX aj))))
  (ak (aJ (i:=4) g9.nd rfl (Or.inl rfl) aj)))
  aw)
  (ak (av (dZ (aa (dh PySem.F.plainAttrs_list PySem.F.slot_list_index PySem.F.type_list_index pN (pv 1) (aa (ar aP (pv 2) aj (fun _ _=>rfl)) ae)) (aa (az C_rnum hr (by decide) rfl (aa (pv 3) ae)) (aa (pv 4) ae))))))))))),?_⟩
 obtain ⟨p1,p2⟩:=oo z "+"
 refine ⟨_,rfl,rfl,z,"+",rfl,rfl,(by decide +kernel),(by omega),fun p hp=>?_⟩
 have s1:=ao hp (.tup [.str (Txt.partition z "+").1,.str (Txt.partition z "+").2.1,.str (Txt.partition z "+").2.2])
 have hP:(upd H p (.tup [.str (Txt.partition z "+").1,.str (Txt.partition z "+").2.1,.str (Txt.partition z "+").2.2])) p=some (.tup [.str (Txt.partition z "+").1,.str (Txt.partition z "+").2.1,.str (Txt.partition z "+").2.2]):=ah
 unfold pL at q
 generalize upd H p (.tup [.str (Txt.partition z "+").1,.str (Txt.partition z "+").2.1,.str (Txt.partition z "+").2.2])=H1 at s1 hP ⊢
 generalize Txt.partition z "+"=pt at *
 obtain ⟨nm,pl,rs⟩:=pt
 dsimp only at *
 refine ⟨_,rfl,p,_,_,_,rfl,rfl,SqT.of hP,rfl,.str nm,.str nm,rfl,⟨rfl,by omega⟩,fun H2 s2=>⟨_,rfl,?_⟩⟩
 have s02:=s1.trans s2
 have hP2:=s2 _ _ hP
 cases e1:eN (.str nm) with
 | false =>
  rw [e1] at q
  exact bf (bf (q H2 .non s02 rfl))
 | true =>
  rw [e1] at q
  refine bh ?_
  refine ⟨_,rfl,p,_,_,_,rfl,rfl,SqT.of hP2,rfl,_,rfl,nl,_,rfl,.inl (SqL.of (s02 _ _ hnl)),rfl,fG names,_,rfl,?_⟩
  rw [jh]
  by_cases hm:nm∈names
  rotate_left
  ·rw [decide_eq_false hm]
   refine bf ?_
   rw [if_neg (fun h=>hm h.2)] at q
   exact q H2 .non s02 rfl
  rw [decide_eq_true hm]
  refine bh ?_
  rw [if_pos ⟨rfl,hm⟩] at q
  refine ⟨_,rfl,p,_,_,_,rfl,rfl,SqT.of hP2,rfl,?_⟩
  refine ⟨fun σ H3=>σ=[some (.str z),some (.ref nl),some (.ref p),some (.str (gQ rs)),some (.int (qm rs))]∧H3=H2,?_,?_⟩
  ·refine ⟨_,rfl,rfl,rs,"=",rfl,rfl,_,rfl,?_⟩
   unfold gQ qm
   cases e2:Txt.endswith rs "=" with
   | false=>exact bh ⟨rfl,rfl⟩
   | true =>
    refine bf ?_
    exact ⟨_,rfl,_,rfl,_,rfl,rs,rfl,(by rw [sizeLine_eq]; omega),rfl,rfl⟩
  rintro σ H3 ⟨rfl,rfl⟩
  obtain ⟨f1,f2⟩:=sO hm
  have hb:=wx rs
  refine ⟨_,rfl,.inl ⟨rfl,_,SqL.of (s02 _ _ hnl)⟩,_,rfl,p,_,_,_,rfl,rfl,SqT.of hP2,rfl,nl,nm,names,_,rfl,rfl,s02 _ _ hnl,hn,f1,f2,_,rfl,gQ rs,rfl,by omega,fun H4 v s4 ht=>?_⟩
  refine ⟨_,rfl,(by show 3≤sizeLine; decide),fun t htn=>?_⟩
  refine q _ _ ((s02.trans s4).trans (ao htn _)) ⟨t,_,rfl,ah,_,_,rfl,rfl,_,_,rfl,ThAt.same (ao htn _) _ ht,_,_,rfl,rfl,rfl⟩
end
end K83
namespace K83
open PySem L2
theorem rY {H:Hp} {a:Addr} {vs:List V} {ts:List Th} (h:H a=some (.tup vs)) (p:ThsAt H ts vs):ThAt H (.tup ts) (.ref a):=⟨a,vs,rfl,h,p⟩
theorem th4 {H:Hp} {s t r q:Th} {u v w x:V} (h1:ThAt H s u) (h2:ThAt H t v) (h3:ThAt H r w) (h4:ThAt H q x):ThsAt H [s,t,r,q] [u,v,w,x]:=⟨_,_,rfl,h1,_,_,rfl,h2,_,_,rfl,h3,_,_,rfl,h4,rfl⟩
structure Kin (H H':Hp):Prop where
 tup:∀ a vs,H a=some (.tup vs)→H' a=some (.tup vs)
 lst:∀ a xs,H a=some (.lst xs)→∃ ys,H' a=some (.lst ys)
 dic:∀ a kvs,H a=some (.dK kvs)→∃ l,H' a=some (.dK l)
theorem Same.kin {H H':Hp} (s:Same H H'):Kin H H':=⟨fun a vs h=>s _ _ h,fun a xs h=>⟨xs,s _ _ h⟩,fun a l h=>⟨l,s _ _ h⟩⟩
theorem Kin.trans {H H1 H2:Hp} (k:Kin H H1) (k':Kin H1 H2):Kin H H2:=⟨fun a vs h=>k'.tup _ _ (k.tup _ _ h),fun a xs h=>by obtain ⟨ys,h'⟩:=k.lst _ _ h; exact k'.lst _ _ h',fun a l h=>by obtain ⟨m,h'⟩:=k.dic _ _ h; exact k'.dic _ _ h'⟩
theorem kr {H:Hp} {D:Addr} {ys zs:List V} (h:H D=some (.lst ys)):Kin H (upd H D (.lst zs)):=by
 refine ⟨fun a vs e=>?_,fun a xs e=>?_,fun a l e=>?_⟩
 ·have:a≠D:=fun z=>by rw [z,h] at e; cases e
  rw [au this]
  exact e
 ·by_cases hd:a=D
  ·rw [hd]
   exact ⟨_,ah⟩
  ·rw [au hd]
   exact ⟨_,e⟩
 ·have:a≠D:=fun z=>by rw [z,h] at e; cases e
  rw [au this]
  exact ⟨_,e⟩
mutual
theorem ThAt.kin {H H':Hp} (s:Kin H H'):∀ (t:Th) {v:V},ThAt H t v→ThAt H' t v
 | .int _,_,h=>h
 | .bl _,_,h=>h
 | .non,_,h=>h
 | .str _,_,h=>h
 | .tup ts,_,⟨a,vs,e,ha,h⟩=>⟨a,vs,e,s.tup _ _ ha,ThsAt.kin s ts h⟩
 | .lst,_,⟨a,xs,e,ha⟩=>by obtain ⟨ys,h'⟩:=s.lst _ _ ha; exact ⟨a,ys,e,h'⟩
 | .dic,_,⟨a,xs,e,ha⟩=>by obtain ⟨ys,h'⟩:=s.dic _ _ ha; exact ⟨a,ys,e,h'⟩
theorem ThsAt.kin {H H':Hp} (s:Kin H H'):∀ (ts:List Th) {vs:List V},ThsAt H ts vs→ThsAt H' ts vs
 | [],_,h=>h
 | t::ts,_,⟨v,r,e,h1,h2⟩=>⟨v,r,e,ThAt.kin s t h1,ThsAt.kin s ts h2⟩
end
theorem ThsAt.snoc {H:Hp} {ts:List Th} {t:Th} {vs:List V} {v:V} (h:ThsAt H ts vs) (h':ThAt H t v):ThsAt H (ts++[t]) (vs++[v]):=h.app ⟨v,[],rfl,h',rfl⟩
end K83
namespace K83
open PySem L2
theorem getD_at {ws:List Str} {i:Nat} (h:i<ws.length):(ws.map V.str)[i]?=some (.str (ws.getD i Str.empty)):=by
 rw [List.getElem?_map,List.getElem?_eq_getElem h,List.getD_eq_getElem?_getD,List.getElem?_eq_getElem h]
 rfl
theorem getD_mem {ws:List Str} {i:Nat} (h:i<ws.length):ws.getD i Str.empty∈ws:=by
 rw [List.getD_eq_getElem?_getD,List.getElem?_eq_getElem h]
 exact List.getElem_mem h
theorem rF (ws:List Str) (h:3≤ws.length):eM (ws.map V.str) (some 3) none=(ws.drop 3).map V.str:=by
 unfold eM
 rw [show (3:Int)=((3:Nat):Int) from rfl,HT.i5,HT.fD,List.length_map,Nat.min_eq_left h,List.map_drop]
 exact List.take_of_length_le (by rw [List.length_drop,List.length_map]; omega)
theorem yw (ws:List Str) (i:Nat) (h:i≤ws.length):eM (ws.map V.str) none (some (i:Int))=(ws.take i).map V.str:=by
 unfold eM
 rw [HT.i5,HT.fD,List.length_map,Nat.min_eq_left h,List.map_take]
 rfl
section
variable {P:Program} {w:World} {K:PySem.W.Frag} {mg:Str→Option Value} {base:Heap} {f:Addr} {fd:FuncData}
def k7:Sp:=fun vs H Q _=>∃ (z:Str) (nl:Addr) (names:List Str),vs=[.str z,.ref nl]∧z.length≤900∧H nl=some (.lst (names.map V.str))∧names.length≤1000∧∀ H' v,Same H H'→ThAt H' (fH names z) v→Q v H'
theorem lZ:FnScope ["row","names","words","listenings"] ["row","names"] (aq g6):=⟨rfl,rfl,rfl,by decide +kernel,rfl,by decide +kernel,by decide +kernel⟩
theorem vK (F:Fun K "read_bell" "read_bell" g6 f fd) (B:Blt mg) (C_rnum:Cal P w K mg base 2 "read_number" ["text"] jf) (C_rrule:Cal P w K mg base 3 "read_rule" ["text"] kU) (C_rlis:Cal P w K mg base 3 "read_listening" ["text","names"] nM):FnOk P w K mg base CX0 4 f fd ["row","names"] k7:=by
 refine F.ok lZ (fun vs H Q E h=>?_) (fun cdv A outer s H vs Q E hr h=>?_)
 ·obtain ⟨z,nl,names,rfl,_⟩:=h
  rfl
 obtain ⟨z,nl,names,rfl,hz,hnl,hn,q⟩:=h
 refine ⟨_,(af (aJ (i:=2) lZ.nd rfl (Or.inl rfl) (dh PySem.F.plainAttrs_str PySem.F.slot_str_split PySem.F.type_str_split i9 (pv 0) (aa aB ae)))
  (af (aU (aC nh (ay aM rfl B.len_ PySem.boot_len (aa (pv 2) ae)) aj (aL _))
  (ak (av c9))
  aw)
  (af (dw (i:=3) ["word"] ["names"] [1] rfl lZ.nd rfl (Or.inl rfl) (dG (eI kn (pv 2) (fK aj) gg)) (fun _ _ _ _ _=>(aI (i:=0) (show List.Nodup [("word":Str),("names":Str)] by decide +kernel) rfl (Or.inl rfl))) (fun _ _ _ _ _=>bV) (fun _ _ _ _ _=>(az C_rlis hr (by decide) rfl (aa (pv 0) (aa (pv 1) ae)))))
  (ak (av (dZ (aa (ar ax (pv 2) aj (fun _ _=>rfl)) (aa (az C_rnum hr (by decide) rfl (aa (ar ax (pv 2) aj (fun _ _=>rfl)) ae)) (aa (az C_rrule hr (by decide) rfl (aa (ar ax (pv 2) aj (fun _ _=>rfl)) ae)) (aa (aX ck rfl B.tuple_ PyProof.Rows.boot_tuple (aa (pv 3) ae)) ae)))))))))),?_⟩
 refine ⟨_,rfl,rfl,z," ",rfl,rfl,(by decide +kernel),by omega,fun l hl=>?_⟩
 have s1:=ao hl (.lst ((Txt.split z " ").map V.str))
 have hL:(upd H l (.lst ((Txt.split z " ").map V.str))) l=some (.lst ((Txt.split z " ").map V.str)):=ah
 have hsh:∀ a∈Txt.split z " ",a.length≤z.length:=fun a h=>PyProof.Rows.part_short h
 have hle:=PyProof.Rows.split_le z " "
 unfold fH at q
 generalize upd H l (.lst ((Txt.split z " ").map V.str))=H1 at s1 hL ⊢
 generalize Txt.split z " "=ws at *
 refine ⟨_,rfl,l,_,rfl,.inl (SqL.of hL),_,_,rfl,rfl,_,rfl,du (fun c=>?_) (fun c=>?_)⟩
 ·have c':ws.length<4:=by
   have:=of_decide_eq_true c
   rw [List.length_map] at this
   omega
  rw [if_pos c'] at q
  exact q H1 .non s1 rfl
 have h4:4≤ws.length:=by
  refine Classical.byContradiction fun no=>c (decide_eq_true ?_)
  rw [List.length_map]
  omega
 rw [if_neg (by omega)] at q
 refine ⟨_,rfl,_,rfl,l,_,rfl,SqL.of hL,fun l2 hl2=>?_⟩
 rw [rF ws (by omega)]
 have s2:=ao hl2 (.lst ((ws.drop 3).map V.str))
 have hL2:(upd H1 l2 (.lst ((ws.drop 3).map V.str))) l2=some (.lst ((ws.drop 3).map V.str)):=ah
 generalize upd H1 l2 (.lst ((ws.drop 3).map V.str))=H2 at s2 hL2 ⊢
 refine ⟨l2,rfl,⟨_,SqL.of hL2⟩,fun D hD=>?_⟩
 refine cX (K:=K) (a:=l2) (xs:=(ws.drop 3).map V.str) (fun i ys H3=>Same H2 H3∧ThsAt H3 (((ws.drop 3).take i).map (pL names)) ys) ⟨ao hD _,rfl⟩ (fun i ys H3 _ ⟨s,_⟩=>SqL.of (s _ _ hL2)) ?_ ?_
 ·rintro i x ys H3 hx ⟨s3,hy⟩ hD3
  rw [List.getElem?_map] at hx
  obtain ⟨a,ha,rfl⟩:∃ a,(ws.drop 3)[i]?=some a∧V.str a=x:=by
   cases e:(ws.drop 3)[i]? with
   | none=>rw [e] at hx; cases hx
   | some a=>rw [e] at hx; exact ⟨a,rfl,Option.some.inj hx⟩
  have ham:a∈ws:=List.mem_of_mem_drop (List.mem_of_getElem? ha)
  have hal:=hsh a ham
  have hil:=(List.getElem?_eq_some_iff.mp ha).1
  rw [List.length_drop] at hil
  refine ⟨rfl,bo ?_⟩
  have s03:=(s1.trans s2).trans s3
  refine ⟨_,rfl,_,rfl,a,nl,names,rfl,by omega,s03 _ _ hnl,hn,fun H4 v s4 ht=>?_⟩
  have hyl:=hy.len
  rw [List.length_map,List.length_take] at hyl
  refine ⟨_,s4 _ _ hD3,aW (by omega),_,⟨(s3.trans s4).upd hD _,?_⟩,ah⟩
  rw [take_snoc ha,List.map_append]
  exact ThsAt.snoc (ThsAt.kin ((Same.kin s4).trans (kr (s4 _ _ hD3))) _ hy) (ThAt.kin (kr (s4 _ _ hD3)) _ ht)
 rintro ys H3 ⟨s3,hy⟩ hD3
 rw [List.length_map,List.take_length] at hy
 have hyl:=hy.len
 rw [List.length_map,List.length_drop] at hyl
 have s13:=s2.trans s3
 have hl3:=s13 _ _ hL
 refine ⟨_,rfl,l,_,_,_,rfl,rfl,SqL.of hl3,bj (j:=0) (getD_at (by omega)),?_⟩
 refine ⟨_,rfl,l,_,_,_,rfl,rfl,SqL.of hl3,bj (j:=1) (getD_at (by omega)),_,rfl,(by have:=hsh _ (getD_mem (i:=1) (show 1<ws.length by omega)); omega),fun H4 v4 s4 ht4=>?_⟩
 refine ⟨_,rfl,l,_,_,_,rfl,rfl,SqL.of (s4 _ _ hl3),bj (j:=2) (getD_at (by omega)),_,rfl,(by have:=hsh _ (getD_mem (i:=2) (show 2<ws.length by omega)); omega),fun H5 v5 s5 ht5=>?_⟩
 refine ⟨_,rfl,D,_,rfl,.inl ⟨SqL.of ((s4.trans s5) _ _ hD3),fun t ht=>?_⟩⟩
 refine ⟨(by show 4≤sizeLine; decide),fun r hr'=>?_⟩
 have v1:=ao ht (.tup ys)
 have v2:=ao hr' (.tup [.str (ws.getD 0 Str.empty),v4,v5,.ref t])
 have s35:=(s4.trans s5).trans (v1.trans v2)
 refine q _ _ (((s1.trans s13).trans s35)) (rY ah (th4 ⟨rfl,?_⟩ (ThAt.same (s5.trans (v1.trans v2)) _ ht4) (ThAt.same (v1.trans v2) _ ht5) (rY (v2 _ _ ah) (ThsAt.same s35 _ hy))))
 have:=hsh _ (getD_mem (i:=0) (show 0<ws.length by omega))
 omega
theorem vo {X:Cx} {K:PySem.W.Frag} (n:String) (hK:X.K=K):cW X (.builtin "isinstance") (C6 K n):=hK▸bU n
def lD:Sp:=fun vs H Q _=>∃ (l:Addr) (zs:List Str),vs=[.ref l]∧H l=some (.lst (zs.map V.str))∧1≤zs.length∧zs.length≤6∧∀ H',Same H H'→Q (.bl true) H'
theorem AR (K:PySem.W.Frag):PySem.W.kitOne K (.type "list") (.type "list")=some true:=by kernel_rfl
theorem vX:FnScope ["thing"] ["thing"] (aq iJ):=⟨rfl,rfl,rfl,by decide +kernel,rfl,by decide +kernel,by decide +kernel⟩
theorem xc {tO:Tok} (F:Fun K "are_rows" "are_rows" iJ f fd) (B:Blt mg) (mO:mg "MOST_BELLS"=some (.int 6 tO)):FnOk P w K mg base CX0 1 f fd ["thing"] lD:=by
 refine F.ok vX (fun vs H Q E h=>?_) (fun cdv A outer s H vs Q E hr h=>?_)
 ·obtain ⟨l,zs,rfl,_⟩:=h
  rfl
 obtain ⟨l,zs,rfl,hl,z1,z6,q⟩:=h
 refine ⟨_,(af (aU (PW.pt (eC (bw (bG (ay (bU "list") rfl B.isinstance_ PyProof.Rows.boot_isinstance (aa (pv 0) (aa (cE (v:=.ty "list") rfl B.list_ PyProof.Rows.boot_list rfl) ae))))) (cT (bw (da dr dr aj (ay aM rfl B.len_ PySem.boot_len (aa (pv 0) ae)) (cv (v:=.int 6) rfl mO ⟨tO,rfl⟩))))))
  (ak (av eQ))
  aw)
  (ak (av (ay (i3 rfl) rfl B.all_ PyProof.Rows.boot_all (aa (cJ ["row"] [] [] rfl (dG (pv 0)) (fun _ _ _ _ _=>(aI (i:=0) (show List.Nodup [("row":Str)] by decide +kernel) rfl (Or.inl rfl))) (fun _ _ _ _ _=>bV) (fun _ _ _ _ _=>(ay (vo (K:=K) "str" rfl) rfl B.isinstance_ PyProof.Rows.boot_isinstance (aa (pv 0) (aa (cE (v:=.ty "str") rfl B.str_ PyProof.Rows.boot_str rfl) ae))))) ae))))),?_⟩
 refine ⟨_,rfl,_,_,_,rfl,.lst hl,AR K,_,rfl,bh ?_⟩
 refine ⟨_,rfl,l,_,rfl,.inl (SqL.of hl),_,_,rfl,rfl,_,rfl,?_⟩
 rw [List.length_map,decide_eq_true (show (1:Int)≤((zs.length:Nat):Int) by omega)]
 refine bf ⟨_,_,rfl,rfl,_,rfl,?_⟩
 rw [decide_eq_true (show ((zs.length:Nat):Int)≤6 by omega)]
 refine bh ?_
 refine ⟨_,rfl,l,rfl,⟨_,SqL.of hl⟩,fun D hD=>?_⟩
 refine cX (K:=K) (a:=l) (xs:=zs.map V.str) (fun i ys H3=>Same H H3∧ys=((zs.take i).map (fun _=>true)).map V.bl) ⟨ao hD _,rfl⟩ (fun i ys H3 _ ⟨z,_⟩=>SqL.of (z _ _ hl)) ?_ ?_
 ·rintro i x ys H3 hx ⟨s3,rfl⟩ hD3
  obtain ⟨a,ha,rfl⟩:∃ a,zs[i]?=some a∧V.str a=x:=by
   rw [List.getElem?_map] at hx
   cases e:zs[i]? with
   | none=>rw [e] at hx; cases hx
   | some a=>rw [e] at hx; exact ⟨a,rfl,Option.some.inj hx⟩
  refine ⟨rfl,bo ?_⟩
  refine ⟨_,rfl,_,_,_,rfl,.str a,gE K,_,hD3,?_,_,⟨s3.upd hD _,rfl⟩,?_⟩
  ·rw [List.length_map,List.length_map,List.length_take]
   exact aW (by omega)
  ·rw [take_snoc ha,List.map_append,List.map_append]
   exact ah
 rintro ys H3 ⟨s3,rfl⟩ hD3
 rw [List.length_map,List.take_length] at hD3
 refine ⟨D,_,rfl,SqL.of hD3,?_⟩
 rw [all_map]
 have e:(zs.all fun _=>true)=true:=List.all_eq_true.mpr fun _ _=>rfl
 rw [e]
 exact q H3 s3
def d8 (z:Str):Str:=(Txt.split z " ").getD 0 Str.empty
def ot:Sp:=fun vs H Q _=>∃ (l:Addr) (zs:List Str),vs=[.ref l]∧H l=some (.lst (zs.map V.str))∧1≤zs.length∧zs.length≤6∧(∀ z∈zs,z.length≤900)∧(∀ i z,zs[i]?=some z→iR (fH (zs.map d8) z) ((zs.map d8).take i) zs.length=true)∧
 ∀ (H':Hp) (v:V),Same H H'→ThAt H' (.tup (zs.map (fH (zs.map d8)))) v→Q v H'
theorem h7:FnScope ["rows","names","bells","number","row","bell"] ["rows"] (aq fX):=⟨rfl,rfl,rfl,by decide +kernel,rfl,by decide +kernel,by decide +kernel⟩
theorem ze (F:Fun K "read_choir" "read_choir" fX f fd) (B:Blt mg) (C_arows:Cal P w K mg base 1 "are_rows" ["thing"] lD) (C_rbell:Cal P w K mg base 4 "read_bell" ["row","names"] k7) (C_isbell:Cal P w K mg base 7 "is_bell" ["thing","ahead","bells"] ic):FnOk P w K mg base CX0 8 f fd ["rows"] ot:=by
 refine F.ok h7 (fun vs H Q E h=>?_) (fun cdv A outer s H vs Q E hr h=>?_)
 ·obtain ⟨l,zs,rfl,_⟩:=h
  rfl
 obtain ⟨l,zs,rfl,hl,z1,z6,hz,hb,q⟩:=h
 refine ⟨_,(af (aU (bw (bG (az C_arows hr (by decide) rfl (aa (pv 0) ae))))
  aH
  aw)
  (af (dw (i:=1) ["row"] [] [] rfl h7.nd rfl (Or.inl rfl) (dG (pv 0)) (fun _ _ _ _ _=>(aI (i:=0) (show List.Nodup [("row":Str)] by decide +kernel) rfl (Or.inl rfl))) (fun _ _ _ _ _=>bV) (fun _ _ _ _ _=>(ar (wj (K:=K) rfl) (vQ (K:=K) rfl PySem.F.plainAttrs_str PySem.F.slot_str_split PySem.F.type_str_split i9 (pv 0) (aa aB ae)) aj (fun _ _=>rfl))))
  (af (aJ (i:=2) h7.nd rfl (Or.inl rfl) (cD ae))
  (af (cL PassesOwn.never rfl (yU rfl B.enumerate_ (aa (pv 0) ae)) (fV rfl (bg (aI (i:=3) h7.nd rfl (Or.inl rfl)) (bg (aI (i:=4) h7.nd rfl (Or.inl rfl)) d9)))
  (af (aJ (i:=5) h7.nd rfl (Or.inl rfl) (az C_rbell hr (by decide) rfl (aa (pv 4) (aa (pv 1) ae))))
  (af (aU (bw (bG (az C_isbell hr (by decide) rfl (aa (pv 5) (aa (eI kn (pv 1) gg (fK (pv 3))) (aa (ay aM rfl B.len_ PySem.boot_len (aa (pv 0) ae)) ae))))))
  aH
  aw)
  (ak (bp (dh PySem.F.plainAttrs_list PySem.F.slot_list_append PySem.F.type_list_append cz (pv 2) (aa (pv 5) ae)))))))
  (ak (av (aX ck rfl B.tuple_ PyProof.Rows.boot_tuple (aa (pv 2) ae)))))))),?_⟩
 refine ⟨_,rfl,l,zs,rfl,hl,z1,z6,fun H1 s1=>⟨_,rfl,bh ?_⟩⟩
 have hl1:=s1 _ _ hl
 refine ⟨_,rfl,l,rfl,⟨_,SqL.of hl1⟩,fun D hD=>?_⟩
 refine cX (K:=K) (a:=l) (xs:=zs.map V.str) (fun i ys H3=>Same H1 H3∧ys=((zs.take i).map d8).map V.str) ⟨ao hD _,rfl⟩ (fun i ys H3 _ ⟨z,_⟩=>SqL.of (z _ _ hl1)) ?_ ?_
 ·rintro i x ys H3 hx ⟨s3,rfl⟩ hD3
  obtain ⟨a,ha,rfl⟩:∃ a,zs[i]?=some a∧V.str a=x:=by
   rw [List.getElem?_map] at hx
   cases e:zs[i]? with
   | none=>rw [e] at hx; cases hx
   | some a=>rw [e] at hx; exact ⟨a,rfl,Option.some.inj hx⟩
  have hal:=hz a (List.mem_of_getElem? ha)
  refine ⟨rfl,bo ?_⟩
  have hp0:=PyProof.Rows.split_pos a " "
  refine ⟨_,rfl,rfl,a," ",rfl,rfl,(by decide +kernel),by omega,fun p hp=>?_⟩
  have v1:=ao hp (.lst ((Txt.split a " ").map V.str))
  refine ⟨p,_,_,_,rfl,rfl,SqL.of ah,bj (j:=0) (getD_at (by omega)),_,v1 _ _ hD3,?_,_,⟨(s3.trans v1).upd hD _,rfl⟩,?_⟩
  ·rw [List.length_map,List.length_map,List.length_take]
   exact aW (by omega)
  ·rw [take_snoc ha,List.map_append,List.map_append]
   exact ah
 rintro ys H2 ⟨s2,rfl⟩ hD2
 rw [List.length_map,List.take_length] at hD2
 have s02:=s1.trans s2
 have hlen:(zs.map d8).length=zs.length:=List.length_map _
 generalize zs.map d8=names at *
 refine ⟨(by show 0≤sizeLine; decide),fun bl hbl=>?_⟩
 have v0:=ao hbl (.lst [])
 refine ⟨_,rfl,l,rfl,⟨_,SqL.of ((s02.trans v0) _ _ hl)⟩,vJ (K:=K) (a:=l) (xs:=zs.map V.str) (fun i σ H3=>∃ (vs:List V) (o3 o4 o5:Option V),σ=[some (.ref l),some (.ref D),some (.ref bl),o3,o4,o5]∧Same H2 H3∧H3 bl=some (.lst vs)∧ThsAt H3 ((zs.take i).map (fH names)) vs)
  ⟨[],none,none,none,rfl,v0,ah,rfl⟩ (fun i σ H3 _ ⟨_,_,_,_,_,s3,_⟩=>SqL.of ((s02.trans s3) _ _ hl)) ?_ ?_⟩
 ·rintro i x σ H3 T hx ⟨vs,o3,o4,o5,rfl,s3,hbl3,hv⟩ hT
  obtain ⟨a,ha,rfl⟩:∃ a,zs[i]?=some a∧V.str a=x:=by
   rw [List.getElem?_map] at hx
   cases e:zs[i]? with
   | none=>rw [e] at hx; cases hx
   | some a=>rw [e] at hx; exact ⟨a,rfl,Option.some.inj hx⟩
  have hal:=hz a (List.mem_of_getElem? ha)
  have hil:=(List.getElem?_eq_some_iff.mp ha).1
  have hbi:=hb i a ha
  have vT:=ao hT (.tup [.int (i:Int),.str a])
  refine ⟨T,_,rfl,SqT.of ah,rfl,_,_,rfl,_,_,rfl,rfl,?_⟩
  have s4:=s3.trans vT
  refine ⟨_,rfl,_,rfl,a,D,names,rfl,hal,s4 _ _ hD2,by omega,fun H5 bv s5 hbv=>?_⟩
  have s25:=s4.trans s5
  refine ⟨_,rfl,_,rfl,_,rfl,_,rfl,D,_,rfl,SqL.of (s25 _ _ hD2),fun p hp=>?_⟩
  rw [yw names i (by omega)]
  have v6:=ao hp (.lst ((names.take i).map V.str))
  refine ⟨_,rfl,l,_,rfl,.inl (SqL.of (v6 _ _ (s25 _ _ (s02 _ _ hl)))),bv,fH names a,p,names.take i,_,rfl,ThAt.same v6 _ hbv,ah,fun H7 s7=>⟨_,rfl,?_⟩⟩
  rw [List.length_map,hbi]
  refine bh ?_
  have v57:=v6.trans s7
  have hbl7:=(vT.trans (s5.trans v57)) _ _ hbl3
  have hvl:=hv.len
  rw [List.length_map,List.length_take] at hvl
  refine ⟨_,rfl,.inl ⟨rfl,_,SqL.of hbl7⟩,_,rfl,bl,vs,_,rfl,rfl,hbl7,aW (by omega),?_⟩
  refine ⟨_,_,_,_,rfl,?_,ah,?_⟩
  ·have hb2:H2 bl=none:=hbl
   exact (s25.trans v57).upd hb2 _
  ·rw [take_snoc ha,List.map_append]
   exact ThsAt.snoc (ThsAt.kin ((Same.kin (vT.trans (s5.trans v57))).trans (kr hbl7)) _ hv) (ThAt.kin ((Same.kin v57).trans (kr hbl7)) _ hbv)
 rintro σ H3 ⟨vs,o3,o4,o5,rfl,s3,hbl3,hv⟩
 rw [List.length_map,List.take_length] at hv
 refine ⟨_,rfl,bl,_,rfl,.inl ⟨SqL.of hbl3,fun t ht=>?_⟩⟩
 have v1:=ao ht (.tup vs)
 exact q _ _ ((s02.trans s3).trans v1) (rY ah (ThsAt.same v1 _ hv))
end
end K83
namespace K83
open PySem L2
section
variable {P:Program} {w:World} {K:PySem.W.Frag} {mg:Str→Option Value} {base:Heap} {f:Addr} {fd:FuncData}
def eP:Sp:=fun vs H Q _=>∃ (ch:V) (c:List Bell),vs=[ch]∧ChoirAt H ch c∧c.length≤6∧∀ (H':Hp) (p:Addr),Same H H'→H p=none→H' p=some (.lst ((c.map (·.name)).map V.str))→Q (.ref p) H'
theorem qe:FnScope ["choir"] ["choir"] (aq ir):=⟨rfl,rfl,rfl,by decide +kernel,rfl,by decide +kernel,by decide +kernel⟩
theorem pE (F:Fun K "names_of" "names_of" ir f fd):FnOk P w K mg base CX0 1 f fd ["choir"] eP:=by
 refine F.ok qe (fun vs H Q E h=>?_) (fun cdv A outer s H vs Q E hr h=>?_)
 ·obtain ⟨ch,c,rfl,_⟩:=h
  rfl
 obtain ⟨ch,c,rfl,⟨a,bs,rfl,ha,prb⟩,h6,q⟩:=h
 refine ⟨_,(ak (av (cJ ["bell"] [] [] rfl (eL (pv 0)) (fun _ _ _ _ _=>(aI (i:=0) (show List.Nodup [("bell":Str)] by decide +kernel) rfl (Or.inl rfl))) (fun _ _ _ _ _=>bV) (fun _ _ _ _ _=>(ar (dF (K:=K) rfl) (pv 0) aj (fun _ _=>rfl)))))),?_⟩
 have hbl:=aE prb
 refine ⟨_,rfl,a,rfl,⟨_,SqT.of ha⟩,fun D hD=>?_⟩
 refine dX (K:=K) (a:=a) (xs:=bs) (fun j ys H2=>Same H H2∧ys=((c.take j).map (·.name)).map V.str) ⟨ao hD _,rfl⟩ (fun j ys H2 _ ⟨z,_⟩=>SqT.of (z _ _ ha)) ?_ ?_
 ·rintro j y ys H2 hj ⟨s2,rfl⟩ hD2
  obtain ⟨b,hb,⟨x,t,ls,rfl,hx,ht,prl⟩⟩:=aZ prb hj
  have hj6:j<c.length:=(List.getElem?_eq_some_iff.mp hb).1
  refine ⟨rfl,bo ?_⟩
  refine ⟨_,rfl,x,_,_,_,rfl,rfl,SqT.of (s2 _ _ hx),rfl,?_⟩
  refine ⟨_,hD2,?_,_,⟨s2.upd hD _,rfl⟩,?_⟩
  ·rw [List.length_map,List.length_map,List.length_take]
   exact aW (by omega)
  ·rw [qG hb,List.map_append,List.map_append]
   exact ah
 ·rintro ys H2 ⟨s2,rfl⟩ hD2
  rw [hbl,List.take_length] at hD2
  exact q H2 D s2 hD hD2
end
end K83
namespace K83
open PySem L2
def iF (b:Bell):Int:=match b.rule with
 | .all=>b.lis.length
 | .any=>1
 | .num n=>n
def Ar (b:Bell):Str:=if iF b=b.lis.length then "all" else if iF b=1 then "any" else aK (iF b)
def fB (l:Lis):Str:=if l.back then "" else "="
def dO (names:List Str) (l:Lis):Str:=Str.empty++names.getD l.whom Str.empty++"+"++aK l.beats++fB l
def BW (names:List Str) (b:Bell):List Str:=[b.name,aK b.start,Ar b]++b.lis.map (dO names)
def EN (names:List Str) (b:Bell):Str:=Txt.join " " (BW names b)
def i6 (names:List Str) (b:Bell) (w:Str):Str:=Txt.join " " ([b.name,aK b.start,w]++b.lis.map (dO names))
theorem hX {n:Int} (h0:0≤n) (h1:n≤1000):1≤(aK n).length∧(aK n).length≤4:=by
 obtain ⟨m,rfl⟩:∃ m:Nat,n=m:=⟨n.toNat,by omega⟩
 exact bZ (by omega)
theorem jJ {n:Int} (h0:0≤n) (h1:n≤1000):n.natAbs.log2<1920:=by
 have h:n.natAbs<2 ^ 10:=by omega
 by_cases hz:n.natAbs=0
 ·rw [hz]
  decide
 ·exact Nat.lt_of_lt_of_le (Nat.log2_lt hz |>.mpr h) (by decide)
theorem sd (l:Lis):(fB l).length≤1:=by
 unfold fB
 split <;> decide +kernel
theorem sM {names:List Str} {l:Lis} (hn:∀ x∈names,x.length≤8) (h0:1≤l.beats) (h1:l.beats≤1000) (hw:l.whom<names.length):(dO names l).length≤14:=by
 have h8:(names.getD l.whom Str.empty).length≤8:=by
  rw [List.getD_eq_getElem?_getD,List.getElem?_eq_getElem hw]
  exact hn _ (List.getElem_mem hw)
 have h4:=(hX (n:=l.beats) (by omega) h1).2
 have h2:=sd l
 unfold dO
 rw [aT,aT,aT,aT]
 have e0:Str.empty.length=0:=rfl
 have e1:("+":Str).length=1:=by decide +kernel
 omega
end K83
namespace K83
open PySem L2
def RuleAt (K:PySem.W.Frag) (fw:Addr) (H:Hp) (x:Addr) (n:Int):Prop:=∃ C dx,H x=some (.ins C dx [("need",.int n)])∧Cls K C∧NoAttr K C "need"∧Meth K C "wants" fw
structure OwnW (K:PySem.W.Frag) (C fw:Addr):Prop where
 cl:Cls K C
 nN:NoAttr K C "need"
 w:Meth K C "wants" fw
section
variable {P:Program} {w:World} {K:PySem.W.Frag} {mg:Str→Option Value} {base:Heap} {f:Addr} {fd:FuncData}
def nu (K:PySem.W.Frag):Sp:=fun vs H Q _=>∃ (x C dx:Addr) (n:Int),vs=[.ref x]∧H x=some (.ins C dx [("need",.int n)])∧Cls K C∧NoAttr K C "need"∧Q (.int n) H
theorem uU:FnScope ["self"] ["self"] (aq kN):=⟨rfl,rfl,rfl,by decide +kernel,rfl,by decide +kernel,by decide +kernel⟩
theorem vw (F:Fun K "wants" "Rule.wants" kN f fd):FnOk P w K mg base CX0 1 f fd ["self"] (nu K):=by
 refine F.ok uU (fun vs H Q E h=>?_) (fun cdv A outer s H vs Q E hr h=>?_)
 ·obtain ⟨x,C,dx,n,rfl,_⟩:=h
  rfl
 obtain ⟨x,C,dx,n,rfl,hx,cl,na,q⟩:=h
 refine ⟨_,(ak (av (iK (pv 0) rfl))),?_⟩
 exact ⟨_,rfl,x,C,dx,_,_,rfl,hx,cl,na,rfl,q⟩
def Dj (K:PySem.W.Frag) (fw:Addr):Sp:=fun vs H Q _=>∃ (v:V) (b:Bell) (m:Nat),vs=[v]∧BellAt H v b∧GoodB m 0 true b∧∀ x H',Same H H'→RuleAt K fw H' x (iF b)→Q (.ref x) H'
def CJ:Sp:=fun vs H Q _=>∃ (v:V) (b:Bell) (m:Nat),vs=[v]∧BellAt H v b∧GoodB m 0 true b∧∀ H',Same H H'→Q (.str (Ar b)) H'
def Di:Sp:=fun vs H Q _=>∃ (v:V) (l:Lis) (nl:Addr) (names:List Str),vs=[v,.ref nl]∧LisAt H v l∧H nl=some (.lst (names.map V.str))∧(∀ x∈names,x.length≤8)∧l.whom<names.length∧1≤l.beats∧l.beats≤1000∧Q (.str (dO names l)) H
end
end K83
namespace K83
open PySem L2
def gX (l:Lis):Th:=.tup [.int l.whom,.int l.beats,.int (if l.back then 1 else 0)]
def rwT:RW→Th
 | .all=>.str "all"
 | .any=>.str "any"
 | .num n=>.int n
def eO (b:Bell):Th:=.tup [.str b.name,.int b.start,rwT b.rule,.tup (b.lis.map gX)]
theorem ui {H:Hp} {v:V} {l:Lis} (h:ThAt H (gX l) v):LisAt H v l:=by
 obtain ⟨a,vs,rfl,ha,v1,r1,rfl,e1,v2,r2,rfl,e2,v3,r3,rfl,e3,e4⟩:=h
 cases e1; cases e2; cases e3; cases e4
 exact ⟨a,rfl,ha⟩
theorem lY {H:Hp}:∀ {ls:List Lis} {vs:List V},ThsAt H (ls.map gX) vs→Paired (LisAt H) vs ls
 | [],_,h=>by cases h; exact .nil
 | _::_,_,⟨_,_,e,h1,h2⟩=>by subst e; exact .cons (ui h1) (lY h2)
theorem yj {H:Hp} {r:RW} {v:V} (h:ThAt H (rwT r) v):v=rwV r:=by
 cases r with
 | all=>exact h.1
 | any=>exact h.1
 | num n=>exact h
theorem qD {H:Hp} {v:V} {b:Bell} (h:ThAt H (eO b) v):BellAt H v b:=by
 obtain ⟨a,vs,rfl,ha,v1,r1,rfl,⟨e1,_⟩,v2,r2,rfl,e2,v3,r3,rfl,e3,v4,r4,rfl,⟨t,ls,e4,ht,hl⟩,e5⟩:=h
 have e3':=yj e3
 cases e1; cases e2; cases e3'; cases e4; cases e5
 exact ⟨a,t,ls,rfl,ha,ht,lY hl⟩
theorem jW {H:Hp}:∀ {c:List Bell} {vs:List V},ThsAt H (c.map eO) vs→Paired (BellAt H) vs c
 | [],_,h=>by cases h; exact .nil
 | _::_,_,⟨_,_,e,h1,h2⟩=>by subst e; exact .cons (qD h1) (jW h2)
theorem pI {H:Hp} {v:V} {c:List Bell} (h:ThAt H (.tup (c.map eO)) v):ChoirAt H v c:=by
 obtain ⟨a,vs,rfl,ha,hb⟩:=h
 exact ⟨a,vs,rfl,ha,jW hb⟩
def rwS:RW→Str
 | .all=>"all"
 | .any=>"any"
 | .num n=>aK n
def EC (b:Bell):RW:=if iF b=b.lis.length then .all else if iF b=1 then .any else .num (iF b)
def kO (b:Bell) (r:RW):Bell:=⟨b.name,b.start,r,b.lis⟩
theorem yW {c:Nat} (h:gP c=true):97≤c∧c≤122:=by
 unfold gP at h
 rcases StrLaws.occ_head dP ⟨#[c]⟩ 1 (Nat.le_refl _) with ⟨e,_⟩ | ⟨i,r,_,h2,_⟩
 ·rw [e] at h
  cases h
 ·have hm:=List.mem_of_getElem? ((StrLaws.subAt_one dP c i).mp h2)
  have all:∀ c∈dP.cps.toList,97≤c∧c≤122:=by decide +kernel
  exact all c hm
theorem dC {z:Str} (h:a9 z=true):∀ c∈z.cps.toList,97≤c∧c≤122:=fun c hc=>by
 have h':(decide (1≤z.length) && decide (z.length≤8) && z.cps.toList.all gP)=true:=h
 rw [Bool.and_eq_true] at h'
 exact yW (List.all_eq_true.mp h'.2 c hc)
theorem c7 {n:Int} (h0:0≤n) (h1:n≤1000):∀ c∈(aK n).cps.toList,48≤c∧c≤57:=by
 obtain ⟨m,rfl⟩:∃ m:Nat,n=m:=⟨n.toNat,by omega⟩
 exact iT (by omega)
theorem pM {m:Nat} (h:m<1001):d5 (aK (m:Int)) 9=true:=by
 obtain ⟨l1,l4⟩:=bZ h
 unfold d5
 have ha:(aK (m:Int)).cps.toList.all jb=true:=List.all_eq_true.mpr fun c hc=>uK (iT h c hc).1 (iT h c hc).2
 rw [decide_eq_true l1,decide_eq_true (show ((aK (m:Int)).length:Int)≤9 by omega),ha]
 show (decide (aK (m:Int)="0") || decide ((aK (m:Int)).cps.toList[0]?≠some 48))=true
 rcases (tm m h).2.2.2 with e | e
 ·rw [decide_eq_true (show aK (m:Int)="0" from cQ (by rw [jc,e,pV]))]
  rfl
 ·rw [decide_eq_true (show (aK (m:Int)).cps.toList[0]?≠some 48 by rw [jc]; exact e),Bool.or_true]
theorem jx {n:Int} (h0:0≤n) (h1:n≤1000):kf (aK n)=.int n:=by
 obtain ⟨m,rfl⟩:∃ m:Nat,n=m:=⟨n.toNat,by omega⟩
 have h:m<1001:=by omega
 have hw:=pM h
 obtain ⟨d1,d2,d3⟩:=jY hw
 have e:=PySem.intText_digits d1 d2 (by omega)
 rw [cV h] at e
 unfold kf
 rw [if_pos hw]
 exact congrArg Th.int (Option.some.inj e).symm
theorem jF:∀ c∈("all":Str).cps.toList,97≤c:=by decide +kernel
theorem jE:∀ c∈("any":Str).cps.toList,97≤c:=by decide +kernel
theorem qy {n:Int} (h0:0≤n) (h1:n≤1000) {z:Str} (hz:∀ c∈z.cps.toList,97≤c):aK n≠z:=fun e=>by
 have hl:=(hX h0 h1).1
 have hne:(aK n).cps.toList≠[]:=fun q=>by
  rw [← bq,q] at hl
  exact absurd hl (by decide)
 obtain ⟨c,hc⟩:=List.exists_mem_of_ne_nil _ hne
 have a:=c7 h0 h1 c hc
 rw [e] at hc
 have b:=hz c hc
 omega
theorem uf {n:Nat} {r:RW} (g:GoodR n r) (h:n≤1000):kD (rwS r)=rwT r:=by
 cases r with
 | all=>exact if_pos (.inl rfl)
 | any=>exact if_pos (.inr rfl)
 | num i =>
  have g':1≤i∧i≤(n:Int):=g
  unfold kD rwS
  rw [if_neg (fun q=>q.elim (qy (by omega) (by omega) jF) (qy (by omega) (by omega) jE))]
  exact jx (by omega) (by omega)
theorem lL (names:List Str) (l:Lis):(dO names l).cps.toList=(names.getD l.whom Str.empty).cps.toList++43::(aK l.beats++fB l).cps.toList:=by
 unfold dO
 simp only [br,qf,List.append_assoc]
 rfl
theorem rA {names:List Str} {i:Nat} {z:Str} (nd:names.Nodup) (h:names[i]?=some z):names.findIdx (fun x=>decide (x=z))=i:=by
 obtain ⟨f1,_⟩:=sO (List.mem_of_getElem? h)
 exact (List.getElem?_inj (List.getElem?_eq_some_iff.mp f1).1 nd).mp (f1.trans h.symm)
theorem Cm {n:Int} (h0:0≤n) (h1:n≤1000):61∉(aK n).cps.toList:=fun h=>by
 have:=c7 h0 h1 _ h
 omega
theorem uW {n:Int} (h0:0≤n) (h1:n≤1000) (l:Lis):Txt.endswith (aK n++fB l) "="=!l.back∧(l.back=true→aK n++fB l=aK n)∧(l.back=false→(aK n++fB l).cps.toList=(aK n).cps.toList++[61]):=by
 unfold fB
 rw [eq_str]
 cases l.back with
 | true =>
  have e:aK n++(if true=true then ("":Str) else ⟨#[61]⟩)=aK n:=cQ (by rw [br]; exact List.append_nil _)
  refine ⟨?_,fun _=>e,(fun h=>by cases h)⟩
  rw [e]
  exact xI (Cm h0 h1)
 | false =>
  have e:(aK n++(if false=true then ("":Str) else ⟨#[61]⟩)).cps.toList=(aK n).cps.toList++[61]:=by rw [br]; rfl
  exact ⟨ug e,(fun h=>by cases h),fun _=>e⟩
theorem ql {n:Int} (h0:0≤n) (h1:n≤1000) (l:Lis):gQ (aK n++fB l)=aK n∧qm (aK n++fB l)=if l.back then 1 else 0:=by
 obtain ⟨e1,e2,e3⟩:=uW h0 h1 l
 unfold gQ qm
 rw [e1]
 cases hb:l.back with
 | true=>exact ⟨e2 hb,rfl⟩
 | false=>exact ⟨qv (e3 hb),rfl⟩
theorem uj {names:List Str} {l:Lis} {nm:Str} (nd:names.Nodup) (hw:names[l.whom]?=some nm) (hn:eN (.str nm)=true) (h1:1≤l.beats) (h2:l.beats≤1000):pL names (dO names l)=gX l:=by
 have hg:names.getD l.whom Str.empty=nm:=by rw [List.getD_eq_getElem?_getD,hw]; rfl
 have hwd:a9 nm=true:=by
  have h':(a9 nm && !decide (nm∈d7))=true:=hn
  rw [Bool.and_eq_true] at h'
  exact h'.1
 have hp:Txt.partition (dO names l) "+"=(nm,⟨#[43]⟩,aK l.beats++fB l):=by
  rw [qf]
  refine mr (by rw [lL,hg]) fun h=>?_
  have:=dC hwd _ h
  omega
 obtain ⟨b1,b2⟩:=ql (n:=l.beats) (by omega) h2 l
 unfold pL
 rw [hp]
 dsimp only
 rw [if_pos ⟨hn,List.mem_of_getElem? hw⟩,rA nd hw,b1,b2,jx (by omega) h2]
 rfl
theorem wq {names:List Str} {l:Lis} {nm:Str} (hw:names[l.whom]?=some nm) (hn:a9 nm=true) (h1:1≤l.beats) (h2:l.beats≤1000):32∉(dO names l).cps.toList:=fun h=>by
 have hg:names.getD l.whom Str.empty=nm:=by rw [List.getD_eq_getElem?_getD,hw]; rfl
 rw [lL,hg,br] at h
 rcases List.mem_append.mp h with h | h
 ·have:=dC hn _ h
  omega
 rcases List.mem_cons.mp h with h | h
 ·cases h
 rcases List.mem_append.mp h with h | h
 ·have:=c7 (by omega) h2 _ h
  omega
 ·unfold fB at h
  rw [eq_str] at h
  split at h
  ·cases h
  ·rcases List.mem_cons.mp h with h | h <;> cases h
theorem xi {n:Nat} {r:RW} (g:GoodR n r) (h:n≤1000):32∉(rwS r).cps.toList:=fun q=>by
 cases r with
 | all=>have:=jF _ q; omega
 | any=>have:=jE _ q; omega
 | num i =>
  have g':1≤i∧i≤(n:Int):=g
  have:=c7 (n:=i) (by omega) (by omega) _ q
  omega
def sQ (names:List Str) (b:Bell):Prop:=∀ l∈b.lis,∃ nm,names[l.whom]?=some nm∧eN (.str nm)=true
theorem nk {z:Str} (h:eN (.str z)=true):a9 z=true:=by
 have h':(a9 z && !decide (z∈d7))=true:=h
 rw [Bool.and_eq_true] at h'
 exact h'.1
theorem mH {m:Nat} {names:List Str} {b:Bell} {r:RW} (hd:sQ names b) (hw:a9 b.name=true) (g:GoodB m 0 true b) (gr:GoodR b.lis.length r):Txt.split (i6 names b (rwS r)) " "=[b.name,aK b.start,rwS r]++b.lis.map (dO names):=by
 have n6:=g.n6
 rw [tD]
 refine dB (by unfold i6; rw [tD,nB]) (by simp) fun p hp=>?_
 rcases List.mem_append.mp hp with hp | hp
 ·rcases List.mem_cons.mp hp with rfl | hp
  ·intro h
   have:=dC hw _ h
   omega
  rcases List.mem_cons.mp hp with rfl | hp
  ·intro h
   have:=c7 g.s0 g.s1 _ h
   omega
  rcases List.mem_cons.mp hp with rfl | hp
  ·exact xi gr (by omega)
  ·cases hp
 ·obtain ⟨l,hl,rfl⟩:=List.mem_map.mp hp
  obtain ⟨nm,h1,h2⟩:=hd l hl
  exact wq h1 (nk h2) (g.l l hl).2.1 (g.l l hl).2.2.1
theorem tY {m:Nat} {names:List Str} {b:Bell} {r:RW} (nd:names.Nodup) (hd:sQ names b) (hw:a9 b.name=true) (g:GoodB m 0 true b) (gr:GoodR b.lis.length r):fH names (i6 names b (rwS r))=eO (kO b r):=by
 have n1:=g.n1
 have n6:=g.n6
 unfold fH
 rw [mH hd hw g gr,if_neg (by rw [List.length_append,List.length_map]; show ¬ 3+b.lis.length<4; omega)]
 show Th.tup [.str b.name,kf (aK b.start),kD (rwS r),.tup ((b.lis.map (dO names)).map (pL names))]=.tup [.str b.name,.int b.start,rwT r,.tup (b.lis.map gX)]
 rw [jx g.s0 g.s1,uf gr (by omega),List.map_map]
 have e:b.lis.map (pL names ∘ dO names)=b.lis.map gX:=List.map_congr_left fun l hl=>by
  obtain ⟨nm,h1,h2⟩:=hd l hl
  exact uj nd h1 h2 (g.l l hl).2.1 (g.l l hl).2.2.1
 rw [e]
theorem wD {m:Nat} {names:List Str} {b:Bell} {r:RW} (hd:sQ names b) (hw:a9 b.name=true) (g:GoodB m 0 true b) (gr:GoodR b.lis.length r):d8 (i6 names b (rwS r))=b.name:=by
 unfold d8
 rw [mH hd hw g gr]
 rfl
theorem jN {i lo hi:Int} (h1:lo≤i) (h2:i≤hi):inT (.int i) lo hi=true:=by
 show (decide (lo≤i) && decide (i≤hi))=true
 rw [decide_eq_true h1,decide_eq_true h2]
 rfl
theorem xj {m:Nat} {l:Lis} (g:Ay m 0 true l):lg (gX l) m=true:=by
 show (inT (.int l.whom) 0 ((m:Int) - 1) && (inT (.int l.beats) 1 1000 && inT (.int (if l.back then 1 else 0)) 0 1))=true
 have g1:=g.1
 rw [jN (by omega) (by omega),jN g.2.1 g.2.2.1,jN (by split <;> omega) (by split <;> omega)]
 rfl
theorem mT {m:Nat} {b:Bell} {ahead:List Str} (g:GoodB m 0 true b) (hw:a9 b.name=true) (h4:b.name∉d7) (ha:b.name∉ahead):iR (eO b) ahead m=true:=by
 show (eN (.str b.name) && !inA (.str b.name) ahead && inT (.int b.start) 0 1000 && (ji (.tup (b.lis.map gX)) m && md (rwT b.rule) (((b.lis.map gX).length:Nat):Int)))=true
 have e1:eN (.str b.name)=true:=by
  show (a9 b.name && !decide (b.name∈d7))=true
  rw [hw,decide_eq_false h4]
  rfl
 have e2:inA (.str b.name) ahead=false:=decide_eq_false ha
 have e3:ji (.tup (b.lis.map gX)) m=true:=by
  show (decide (1≤(b.lis.map gX).length) && decide ((b.lis.map gX).length≤6) && (b.lis.map gX).all (fun t=>lg t m))=true
  rw [List.length_map,decide_eq_true g.n1,decide_eq_true g.n6]
  show (b.lis.map gX).all (fun t=>lg t m)=true
  rw [List.all_eq_true]
  intro t ht
  obtain ⟨l,hl,rfl⟩:=List.mem_map.mp ht
  exact xj (g.l l hl)
 have e4:md (rwT b.rule) (((b.lis.map gX).length:Nat):Int)=true:=by
  rw [List.length_map]
  have gr:=g.r
  cases er:b.rule with
  | all=>rfl
  | any=>show (decide (("any":Str)="all") || decide (("any":Str)="any"))=true; decide +kernel
  | num n =>
   rw [er] at gr
   show (decide (1≤n) && decide (n≤((b.lis.length:Nat):Int)))=true
   rw [decide_eq_true gr.1,decide_eq_true gr.2]
   rfl
 rw [e1,e2,jN g.s0 g.s1,e3,e4]
 rfl
structure GoodC (c:List Bell):Prop where
 c1:1≤c.length
 c6:c.length≤6
 gb:∀ b∈c,GoodB c.length 0 true b
 wd:∀ b∈c,a9 b.name=true
 f4:∀ b∈c,b.name∉d7
 nd:(c.map (·.name)).Nodup
theorem GoodC.len {c:List Bell} (g:GoodC c):∀ b∈c,b.name.length≤8:=fun b hb=>by
 have h:=g.wd b hb
 have h':(decide (1≤b.name.length) && decide (b.name.length≤8) && b.name.cps.toList.all gP)=true:=h
 rw [Bool.and_eq_true,Bool.and_eq_true] at h'
 exact of_decide_eq_true h'.1.2
theorem GoodC.heard {c:List Bell} (g:GoodC c) {b:Bell} (hb:b∈c):sQ (c.map (·.name)) b:=fun l hl=>by
 have hw:=((g.gb b hb).l l hl).1
 refine ⟨c[l.whom].name,by rw [List.getElem?_map,List.getElem?_eq_getElem hw]; rfl,?_⟩
 show (a9 c[l.whom].name && !decide (c[l.whom].name∈d7))=true
 rw [g.wd _ (List.getElem_mem hw),decide_eq_false (g.f4 _ (List.getElem_mem hw))]
 rfl
theorem GoodC.fresh {c:List Bell} (g:GoodC c) {i:Nat} {b:Bell} (h:c[i]?=some b):b.name∉(c.map (·.name)).take i:=fun hin=>by
 obtain ⟨j,hj⟩:=List.getElem?_of_mem hin
 have hji:j<i:=by
  have:=(List.getElem?_eq_some_iff.mp hj).1
  rw [List.length_take] at this
  omega
 rw [List.getElem?_take_of_lt hji] at hj
 have e2:(c.map (·.name))[i]?=some b.name:=by rw [List.getElem?_map,h]; rfl
 have:=(List.getElem?_inj (List.getElem?_eq_some_iff.mp hj).1 g.nd).mp (hj.trans e2.symm)
 omega
theorem vq {c:List Bell} (g:GoodC c) (rs:Bell→RW) (hr:∀ b∈c,GoodR b.lis.length (rs b)) {zs:List Str} (hz:zs=c.map fun b=>i6 (c.map (·.name)) b (rwS (rs b))) :
  zs.map d8=c.map (·.name)∧zs.map (fH (zs.map d8))=(c.map fun b=>kO b (rs b)).map eO∧∀ i z,zs[i]?=some z→iR (fH (zs.map d8) z) ((zs.map d8).take i) zs.length=true:=by
 have h1:zs.map d8=c.map (·.name):=by
  rw [hz,List.map_map]
  exact List.map_congr_left fun b hb=>wD (g.heard hb) (g.wd b hb) (g.gb b hb) (hr b hb)
 have h2:∀ b∈c,fH (c.map (·.name)) (i6 (c.map (·.name)) b (rwS (rs b)))=eO (kO b (rs b)):=fun b hb=>tY g.nd (g.heard hb) (g.wd b hb) (g.gb b hb) (hr b hb)
 refine ⟨h1,?_,fun i z hi=>?_⟩
 ·rw [h1,hz,List.map_map,List.map_map]
  exact List.map_congr_left h2
 ·rw [hz,List.getElem?_map] at hi
  cases e:c[i]? with
  | none=>rw [e] at hi; cases hi
  | some b =>
   rw [e] at hi
   have hb:=List.mem_of_getElem? e
   have e2:z=i6 (c.map (·.name)) b (rwS (rs b)):=(Option.some.inj hi).symm
   rw [h1,e2,h2 b hb,hz,List.length_map]
   have gb:=g.gb b hb
   exact mT (b:=kO b (rs b)) ⟨gb.n1,gb.n6,gb.s0,gb.s1,hr b hb,gb.l⟩ (g.wd b hb) (g.f4 b hb) (show b.name∉_ from g.fresh e)
end K83
namespace K83
open PySem L2
theorem r9 {names:List Str} {m:Nat} {b:Bell} {w:Str} (hw:w.length≤4) (g:GoodB m 0 true b) (hm:m≤names.length) (h8:∀ x∈names,x.length≤8) (hb:b.name.length≤8):(i6 names b w).length≤140:=by
 have h1:∀ y∈[b.name,aK b.start,w]++b.lis.map (dO names),y.length≤14:=by
  intro y hy
  rcases List.mem_append.mp hy with h | h
  ·rcases List.mem_cons.mp h with rfl | h
   ·omega
   rcases List.mem_cons.mp h with rfl | h
   ·have:=(hX g.s0 g.s1).2
    omega
   ·rw [List.mem_singleton.mp h]
    omega
  ·obtain ⟨l,hl,rfl⟩:=List.mem_map.mp h
   obtain ⟨g1,g2,g3,_⟩:=g.l l hl
   exact sM h8 g2 g3 (by omega)
 have h2:=StrLaws.sumLen_le _ h1
 have h3:([b.name,aK b.start,w]++b.lis.map (dO names)).length≤9:=by
  rw [List.length_append,List.length_map]
  have:=g.n6
  show 3+b.lis.length≤9
  omega
 have h4:=StrLaws.join_length_le " " ([b.name,aK b.start,w]++b.lis.map (dO names))
 have e1:(" ":Str).length=1:=by decide +kernel
 have e2:i6 names b w=Str.join " " ([b.name,aK b.start,w]++b.lis.map (dO names)):=StrLaws.glued_eq_join _ _
 rw [e2]
 rw [e1] at h4
 omega
theorem rh {n:Nat} {r:RW} (g:GoodR n r) (h:n≤1000):(rwS r).length≤4:=by
 cases r with
 | all=>decide +kernel
 | any=>decide +kernel
 | num i =>
  have g':1≤i∧i≤(n:Int):=g
  exact (hX (by omega) (by omega)).2
end K83
namespace K83.S
open PySem L2
def leO (o:Option Int) (v:Int):Bool:=match o with
 | some d=>decide (d≤v)
 | none=>false
def cnt (bs:List (Option Int)) (v:Int):Nat:=bs.countP (fun o=>leO o v)
def tot (bs:List (Option Int)):Nat:=bs.countP (fun o=>o.isSome)
def Due (bs:List (Option Int)) (n:Int):Option Int→Prop
 | none=>(tot bs:Int)<n
 | some v=>n≤(cnt bs v:Int)∧(cnt bs (v - 1):Int)<n
theorem oZ {o:Option Int} {v v':Int} (h:v≤v') (e:leO o v=true):leO o v'=true:=by
 cases o with
 | none=>cases e
 | some d=>exact decide_eq_true (by have:=of_decide_eq_true e; omega)
theorem gZ (bs:List (Option Int)) {v v':Int} (h:v≤v'):cnt bs v≤cnt bs v':=List.countP_mono_left fun _ _ e=>oZ h e
theorem kA (bs:List (Option Int)) (v:Int):cnt bs v≤tot bs:=List.countP_mono_left fun o _ e=>by
 cases o with
 | none=>cases e
 | some d=>rfl
theorem eK {bs:List (Option Int)} {n:Int} {o o':Option Int} (h:Due bs n o) (h':Due bs n o'):o=o':=by
 cases o with
 | none =>
  cases o' with
  | none=>rfl
  | some v =>
   have h1:(tot bs:Int)<n:=h
   obtain ⟨h2,_⟩:=h'
   have:=kA bs v
   omega
 | some v =>
  cases o' with
  | none =>
   have h1:(tot bs:Int)<n:=h'
   obtain ⟨h2,_⟩:=h
   have:=kA bs v
   omega
  | some v' =>
   obtain ⟨a1,a2⟩:=h
   obtain ⟨b1,b2⟩:=h'
   rcases Int.lt_trichotomy v v' with c | c | c
   ·have:=gZ bs (show v≤v' - 1 by omega)
    omega
   ·rw [c]
   ·have:=gZ bs (show v'≤v - 1 by omega)
    omega
def wants (b:Bell):Int:=match b.rule with
 | .all=>b.lis.length
 | .any=>1
 | .num n=>n
def gm (before now:List (Option Int)) (l:Lis):Option Int:=((if l.back then before else now)[l.whom]?).join.map (·+l.beats)
def aQ (b:Bell) (before now:List (Option Int)):List (Option Int):=b.lis.map (gm before now)
def Fix (c:List Bell) (before now:List (Option Int)):Prop:=now.length=c.length∧∀ (k:Nat) b,c[k]?=some b→∃ o,now[k]?=some o∧Due (aQ b before now) (wants b) o
def iU (c:List Bell):Prop:=∀ (k:Nat) b,c[k]?=some b→∀ l∈b.lis,1≤l.beats
theorem ia {α:Type} (l:List α) (f:α→Option Int) (v:Int):cnt (l.map f) v=l.countP (fun x=>leO (f x) v):=by
 unfold cnt
 rw [List.countP_map]
 rfl
theorem eh {b:Bell} {before now now':List (Option Int)} {t:Int} (hs:∀ l∈b.lis,1≤l.beats) (h:∀ (k:Nat) u,u<t→now[k]?=some (some u)→now'[k]?=some (some u)):cnt (aQ b before now) t≤cnt (aQ b before now') t:=by
 unfold aQ
 rw [ia,ia]
 refine List.countP_mono_left fun l hl e=>?_
 unfold gm at e ⊢
 cases hb:l.back with
 | true=>rw [hb] at e; exact e
 | false =>
  rw [hb] at e
  simp only [Bool.false_eq_true,if_false] at e ⊢
  cases hn:now[l.whom]? with
  | none=>rw [hn] at e; cases e
  | some o =>
   cases o with
   | none=>rw [hn] at e; cases e
   | some u =>
    rw [hn] at e
    have e1:u+l.beats≤t:=of_decide_eq_true e
    have:=hs l hl
    rw [h l.whom u (by omega) hn]
    exact decide_eq_true e1
theorem low (l:List (Option Int)):∃ B:Int,∀ v,some v∈l→B≤v:=by
 induction l with
 | nil=>exact ⟨0,fun v h=>by cases h⟩
 | cons o r ih =>
  obtain ⟨B,hB⟩:=ih
  cases o with
  | none=>exact ⟨B,fun v h=>by
    rcases List.mem_cons.mp h with z | z
    ·cases z
    ·exact hB v z⟩
  | some d=>exact ⟨min B d,fun v h=>by
    rcases List.mem_cons.mp h with z | z
    ·have:=Option.some.inj z
     omega
    ·have:=hB v z
     omega⟩
theorem uw {c:List Bell} (hc:iU c) {before now now':List (Option Int)} (f:Fix c before now) (f':Fix c before now') {B:Int} (hB:∀ v,some v∈now→B≤v) (hB':∀ v,some v∈now'→B≤v) :
  ∀ (n:Nat) (k:Nat) v,v<B+n→(now[k]?=some (some v)↔now'[k]?=some (some v)):=by
 intro n
 induction n with
 | zero =>
  intro k v hv
  refine ⟨fun e=>?_,fun e=>?_⟩
  ·have:=hB v (List.mem_of_getElem? e); omega
  ·have:=hB' v (List.mem_of_getElem? e); omega
 | succ n ih =>
  have one:∀ {x y:List (Option Int)},Fix c before x→Fix c before y→(∀ (k:Nat) v,v<B+n→(x[k]?=some (some v)↔y[k]?=some (some v)))→∀ (k:Nat) v,v<B+(n+1:Nat)→x[k]?=some (some v)→y[k]?=some (some v):=by
   intro x y fx fy ih k v hv e
   have hk:k<c.length:=by
    rw [← fx.1]
    exact (List.getElem?_eq_some_iff.mp e).1
   have hb:=List.getElem?_eq_getElem hk
   obtain ⟨o,ho,hd⟩:=fx.2 k _ hb
   rw [e] at ho
   cases ho
   obtain ⟨o',ho',hd'⟩:=fy.2 k _ hb
   have hs:=hc k _ hb
   have a1:=eh (before:=before) (now:=x) (now':=y) (t:=v) hs fun k u hu z=>(ih k u (by omega)).mp z
   have a2:=eh (before:=before) (now:=y) (now':=x) (t:=v) hs fun k u hu z=>(ih k u (by omega)).mpr z
   have b1:=eh (before:=before) (now:=x) (now':=y) (t:=v - 1) hs fun k u hu z=>(ih k u (by omega)).mp z
   have b2:=eh (before:=before) (now:=y) (now':=x) (t:=v - 1) hs fun k u hu z=>(ih k u (by omega)).mpr z
   obtain ⟨d1,d2⟩:=hd
   have hd2:Due (aQ c[k] before y) (wants c[k]) (some v):=⟨by omega,by omega⟩
   rw [ho',eK hd' hd2]
  intro k v hv
  exact ⟨one f f' ih k v hv,one f' f (fun k v h=>(ih k v h).symm) k v hv⟩
theorem qR {c:List Bell} (hc:iU c) {before now now':List (Option Int)} (f:Fix c before now) (f':Fix c before now'):now=now':=by
 obtain ⟨B1,h1⟩:=low now
 obtain ⟨B2,h2⟩:=low now'
 have ag:=uw hc f f' (B:=min B1 B2) (fun v h=>by have:=h1 v h; omega) (fun v h=>by have:=h2 v h; omega)
 have all:∀ (k:Nat) v,now[k]?=some (some v)↔now'[k]?=some (some v):=fun k v=>ag (v - min B1 B2+1).toNat k v (by omega)
 refine List.ext_getElem? fun k=>?_
 by_cases hk:k<c.length
 ·have e1:=List.getElem?_eq_getElem (show k<now.length by rw [f.1]; exact hk)
  have e2:=List.getElem?_eq_getElem (show k<now'.length by rw [f'.1]; exact hk)
  cases o1:now[k]'(by rw [f.1]; exact hk) with
  | some v =>
   rw [o1] at e1
   rw [e1,(all k v).mp e1]
  | none =>
   rw [o1] at e1
   cases o2:now'[k]'(by rw [f'.1]; exact hk) with
   | none=>rw [o2] at e2; rw [e1,e2]
   | some v =>
    rw [o2] at e2
    have:=(all k v).mpr e2
    rw [e1] at this
    cases this
 ·rw [List.getElem?_eq_none (by rw [f.1]; omega),List.getElem?_eq_none (by rw [f'.1]; omega)]
structure Going (c:List Bell) (before now:List (Option Int)):Prop where
 len:now.length=c.length
 found:∀ (k:Nat) b v,c[k]?=some b→now[k]?=some (some v)→Due (aQ b before now) (wants b) (some v)
 least:∀ (j:Nat) u (k:Nat) b v,now[j]?=some (some u)→c[k]?=some b→now[k]?=some none→Due (aQ b before now) (wants b) (some v)→u≤v
theorem pX (c:List Bell) (before:List (Option Int)):Going c before (c.map fun _=>none) where
 len:=List.length_map _
 found:=fun k b v hb e=>by
  rw [List.getElem?_map,hb] at e
  cases e
 least:=fun j u k b v e _ _ _=>by
  rw [List.getElem?_map] at e
  cases h:c[j]? with
  | none=>rw [h] at e; cases e
  | some x=>rw [h] at e; cases e
theorem wJ {c:List Bell} (hc:iU c) {before now:List (Option Int)} (g:Going c before now) {k:Nat} {b:Bell} {beat:Int} (hb:c[k]?=some b) (hn:now[k]?=some none) (hd:Due (aQ b before now) (wants b) (some beat))
  (hl:∀ (j:Nat) b' v,c[j]?=some b'→now[j]?=some none→Due (aQ b' before now) (wants b') (some v)→beat≤v):Going c before (now.set k (some beat)):=by
 have hk:k<now.length:=(List.getElem?_eq_some_iff.mp hn).1
 have old:∀ (j:Nat) u,u<beat→((now.set k (some beat))[j]?=some (some u)→now[j]?=some (some u)):=fun j u hu e=>by
  by_cases hj:j=k
  ·subst hj
   rw [List.getElem?_set_self hk] at e
   have:=Option.some.inj (Option.some.inj e)
   omega
  ·rw [List.getElem?_set_ne (Ne.symm hj)] at e
   exact e
 have new:∀ (j:Nat) u,(now[j]?=some (some u)→(now.set k (some beat))[j]?=some (some u)):=fun j u e=>by
  by_cases hj:j=k
  ·subst hj
   rw [hn] at e
   cases e
  ·rw [List.getElem?_set_ne (Ne.symm hj)]
   exact e
 have same:∀ (j:Nat) b',c[j]?=some b'→∀ t,t≤beat→cnt (aQ b' before (now.set k (some beat))) t=cnt (aQ b' before now) t:=fun j b' hj t ht=>by
  have a1:=eh (before:=before) (now:=now.set k (some beat)) (now':=now) (t:=t) (hc j b' hj) fun i u hu z=>old i u (by omega) z
  have a2:=eh (before:=before) (now:=now) (now':=now.set k (some beat)) (t:=t) (hc j b' hj) fun i u hu z=>new i u z
  omega
 refine ⟨by rw [List.length_set]; exact g.len,fun j b' v hj e=>?_,fun j u i b' v e hi ei hd'=>?_⟩
 ·by_cases hjk:j=k
  ·subst hjk
   rw [List.getElem?_set_self hk] at e
   obtain rfl:beat=v:=Option.some.inj (Option.some.inj e)
   rw [hb] at hj
   cases hj
   exact ⟨by rw [same j b hb beat (by omega)]; exact hd.1,by rw [same j b hb (beat - 1) (by omega)]; exact hd.2⟩
  ·rw [List.getElem?_set_ne (Ne.symm hjk)] at e
   have h1:=g.found j b' v hj e
   have h2:=g.least j v k b beat e hb hn hd
   exact ⟨by rw [same j b' hj v (by omega)]; exact h1.1,by rw [same j b' hj (v - 1) (by omega)]; exact h1.2⟩
 ·have hik:i≠k:=fun z=>by
   subst z
   rw [List.getElem?_set_self hk] at ei
   cases ei
  rw [List.getElem?_set_ne (Ne.symm hik)] at ei
  have hbv:beat≤v:=by
   refine Classical.byContradiction fun no=>?_
   have h1:Due (aQ b' before now) (wants b') (some v):=⟨by rw [← same i b' hi v (by omega)]; exact hd'.1,by rw [← same i b' hi (v - 1) (by omega)]; exact hd'.2⟩
   have:=hl i b' v hi ei h1
   omega
  by_cases hjk:j=k
  ·subst hjk
   rw [List.getElem?_set_self hk] at e
   have:=Option.some.inj (Option.some.inj e)
   omega
  ·rw [List.getElem?_set_ne (Ne.symm hjk)] at e
   have:=g.least j u k b beat e hb hn hd
   omega
theorem tR {c:List Bell} {before now:List (Option Int)} (g:Going c before now) (h:∀ (k:Nat) b,c[k]?=some b→now[k]?=some none→Due (aQ b before now) (wants b) none):Fix c before now:=by
 refine ⟨g.len,fun k b hb=>?_⟩
 have hk:k<now.length:=by rw [g.len]; exact (List.getElem?_eq_some_iff.mp hb).1
 have e:=List.getElem?_eq_getElem hk
 cases o:now[k] with
 | none=>rw [o] at e; exact ⟨none,e,h k b hb e⟩
 | some v=>rw [o] at e; exact ⟨some v,e,g.found k b v hb e⟩
def cK (bs:List (Option Int)):List Int:=bs.filterMap id
theorem tW (bs:List (Option Int)):(cK bs).length=tot bs:=by
 induction bs with
 | nil=>rfl
 | cons o r ih =>
  cases o with
  | none=>exact ih
  | some d =>
   show (cK r).length+1=(some d::r).countP _
   rw [List.countP_cons,ih]
   rfl
theorem mQ (bs:List (Option Int)) (v:Int):((cK bs).filter fun d=>decide (d≤v)).length=cnt bs v:=by
 induction bs with
 | nil=>rfl
 | cons o r ih =>
  unfold cnt at ih ⊢
  cases o with
  | none=>rw [List.countP_cons]; exact ih
  | some d =>
   show ((d::cK r).filter fun d=>decide (d≤v)).length=_
   rw [List.countP_cons,List.filter_cons]
   by_cases hd:d≤v
   ·rw [if_pos (decide_eq_true hd),List.length_cons,ih]
    simp [leO,hd]
   ·rw [if_neg (by simpa using hd),ih]
    simp [leO,hd]
theorem mC {ns:List Int} (o:ns.Pairwise (·≤·)) {i j:Nat} (hi:i≤j) (hj:j<ns.length):ns[i]'(by omega)≤ns[j]:=by
 rcases Nat.lt_or_ge i j with h | h
 ·exact List.pairwise_iff_getElem.mp o i j (by omega) hj h
 ·have e:i=j:=by omega
  subst e
  exact Int.le_refl _
theorem y9 {ns:List Int} (o:ns.Pairwise (·≤·)) {k:Nat} (hk:k<ns.length):k+1≤(ns.filter fun d=>decide (d≤ns[k])).length:=by
 have h1:((ns.take (k+1)).filter fun d=>decide (d≤ns[k]))=ns.take (k+1):=by
  rw [List.filter_eq_self]
  intro a ha
  obtain ⟨i,hi,rfl⟩:=List.getElem_of_mem ha
  rw [List.length_take] at hi
  rw [List.getElem_take]
  exact decide_eq_true (mC o (by omega) hk)
 have h2:((ns.take (k+1)++ns.drop (k+1)).filter fun d=>decide (d≤ns[k])).length=(ns.filter fun d=>decide (d≤ns[k])).length:=by
  rw [List.take_append_drop]
 rw [← h2,List.filter_append,h1,List.length_append,List.length_take]
 omega
theorem yT {ns:List Int} (o:ns.Pairwise (·≤·)) {k:Nat} (hk:k<ns.length) {c:Int} (hc:c<ns[k]):(ns.filter fun d=>decide (d≤c)).length≤k:=by
 have h1:((ns.drop k).filter fun d=>decide (d≤c))=[]:=by
  rw [List.filter_eq_nil_iff]
  intro a ha h
  obtain ⟨i,hi,rfl⟩:=List.getElem_of_mem ha
  rw [List.length_drop] at hi
  rw [List.getElem_drop] at h
  have h3:=mC o (i:=k) (j:=k+i) (by omega) (by omega)
  have h4:=of_decide_eq_true h
  omega
 have h2:((ns.take k++ns.drop k).filter fun d=>decide (d≤c)).length=(ns.filter fun d=>decide (d≤c)).length:=by
  rw [List.take_append_drop]
 rw [← h2,List.filter_append,h1,List.append_nil]
 exact Nat.le_trans (List.length_filter_le _ _) (by rw [List.length_take]; omega)
theorem yE {bs:List (Option Int)} {ns:List Int} {n:Int} (p:ns.Perm (cK bs)) (h:(ns.length:Int)<n):Due bs n none:=by
 show (tot bs:Int)<n
 rw [← tW,← p.length_eq]
 exact h
theorem xx {bs:List (Option Int)} {ns:List Int} {n v:Int} (p:ns.Perm (cK bs)) (o:ns.Pairwise (·≤·)) (h1:1≤n) (hv:ns[(n - 1).toNat]?=some v):Due bs n (some v):=by
 obtain ⟨hk,e⟩:=List.getElem?_eq_some_iff.mp hv
 subst e
 have a:=y9 o hk
 have b:=yT o hk (c:=ns[(n - 1).toNat] - 1) (by omega)
 have ea:(ns.filter fun d=>decide (d≤ns[(n - 1).toNat])).length=cnt bs ns[(n - 1).toNat]:=by rw [← mQ]; exact (p.filter _).length_eq
 have eb:(ns.filter fun d=>decide (d≤ns[(n - 1).toNat] - 1)).length=cnt bs (ns[(n - 1).toNat] - 1):=by rw [← mQ]; exact (p.filter _).length_eq
 exact ⟨by omega,by omega⟩
end K83.S
namespace K83.S
open PySem L2
def oV:Option Int→V
 | none=>.non
 | some i=>.int i
theorem D8 {bs:List (Option Int)} {i:Nat} {y:V} (h:(bs.map oV)[i]?=some y):∃ o,y=oV o∧bs[i]?=some o:=by
 rw [List.getElem?_map] at h
 cases e:bs[i]? with
 | none=>rw [e] at h; cases h
 | some z=>rw [e] at h; exact ⟨z,(Option.some.inj h).symm,rfl⟩
theorem oU (l:List (Option Int)):cK (l++[none])=cK l:=by
 unfold cK
 rw [List.filterMap_append]
 simp
theorem qg (l:List (Option Int)) (i:Int):cK (l++[some i])=cK l++[i]:=by
 unfold cK
 rw [List.filterMap_append]
 simp
theorem ng (l:List (Option Int)):(cK l).length≤l.length:=List.length_filterMap_le _ _
def RuleAt (K:PySem.W.Frag) (ff:Addr) (H:Hp) (x:Addr) (n:Int):Prop:=∃ C dx,H x=some (.ins C dx [("need",.int n)])∧Cls K C∧NoAttr K C "need"∧Meth K C "falls" ff
theorem RuleAt.same {K:PySem.W.Frag} {ff:Addr} {H H':Hp} {x:Addr} {n:Int} (r:RuleAt K ff H x n) (s:Same H H'):RuleAt K ff H' x n:=by
 obtain ⟨C,dx,h,r⟩:=r
 exact ⟨C,dx,s _ _ h,r⟩
structure Own (K:PySem.W.Frag) (C fi ff:Addr):Prop where
 cl:Cls K C
 nN:NoAttr K C "need"
 mks:Mk K C fi
 fl:Meth K C "falls" ff
section
variable {P:Program} {w:World} {K:PySem.W.Frag} {mg:Str→Option Value} {base:Heap} {f:Addr} {fd:FuncData}
def dJ:Sp:=fun vs H Q _=>∃ i:Int,vs=[.int i]∧Q (.bl true) H
theorem gC:FnScope ["thing"] ["thing"] (aq eE):=⟨rfl,rfl,rfl,by decide +kernel,rfl,by decide +kernel,by decide +kernel⟩
theorem g7 (F:Fun K "is_whole" "is_whole" eE f fd) (B:Blt mg):FnOk P w K mg base CX0 1 f fd ["thing"] dJ:=by
 refine F.ok gC (fun vs H Q E h=>?_) (fun cdv A outer s H vs Q E hr h=>?_)
 ·obtain ⟨i,rfl,_⟩:=h
  rfl
 obtain ⟨i,rfl,q⟩:=h
 refine ⟨_,(ak (av (iE (ay (bU "int") rfl B.isinstance_ PyProof.Rows.boot_isinstance (aa (pv 0) (aa (cE (v:=.ty "int") rfl B.int_ PyProof.Rows.boot_int rfl) ae))) (gp (w5 (ay (bU "bool") rfl B.isinstance_ PyProof.Rows.boot_isinstance (aa (pv 0) (aa (cE (v:=.ty "bool") rfl B.bool_ PyProof.Rows.boot_bool rfl) ae)))))))),?_⟩
 refine ⟨_,rfl,_,_,_,rfl,.int i,yF K,_,rfl,bf ?_⟩
 refine ⟨_,rfl,_,_,_,rfl,.int i,yA K,_,rfl,?_⟩
 exact q
def bu (K:PySem.W.Frag):Sp:=fun vs H Q _=>∃ (p C dx:Addr) (v:V),vs=[.ref p,v]∧H p=some (.ins C dx [])∧Cls K C∧NoAttr K C "need"∧Q .non (upd H p (.ins C dx [("need",v)]))
def et (K:PySem.W.Frag):Sp:=fun vs H Q _=>∃ (p C dx:Addr),vs=[.ref p]∧H p=some (.ins C dx [])∧Cls K C∧NoAttr K C "need"∧Q .non (upd H p (.ins C dx [("need",.int 1)]))
theorem lC:FnScope ["self","need"] ["self","need"] (aq iV):=⟨rfl,rfl,rfl,by decide +kernel,rfl,by decide +kernel,by decide +kernel⟩
theorem k6 (F:Fun K "__init__" "Rule.__init__" iV f fd):FnOk P w K mg base CX0 1 f fd ["self","need"] (bu K):=by
 refine F.ok lC (fun vs H Q E h=>?_) (fun cdv A outer s H vs Q E hr h=>?_)
 ·obtain ⟨p,C,dx,v,rfl,_⟩:=h
  rfl
 obtain ⟨p,C,dx,v,rfl,hp,cl,na,q⟩:=h
 refine ⟨_,(ak (qM (pv 0) (pv 1) rfl)),?_⟩
 exact ⟨_,rfl,_,rfl,p,C,dx,[],rfl,hp,cl,na,(by show 0<1000; decide),q⟩
theorem l8:FnScope ["self","many"] ["self","many"] (aq i8):=⟨rfl,rfl,rfl,by decide +kernel,rfl,by decide +kernel,by decide +kernel⟩
theorem kX {R g:Addr} {gd:FuncData} (F:Fun K "__init__" "All.__init__" i8 f fd) (mR:mg "Rule"=some (.ref R)) (c:ClsFn K R "__init__" g) (G:FnOk P w K mg base CX0 1 g gd ["self","need"] (bu K)) (b:Binds K gd ["self","need"] []) :
  FnOk P w K mg base CX0 2 f fd ["self","many"] (bu K):=by
 refine F.ok l8 (fun vs H Q E h=>?_) (fun cdv A outer s H vs Q E hr h=>?_)
 ·obtain ⟨p,C,dx,v,rfl,_⟩:=h
  rfl
 obtain ⟨p,C,dx,v,rfl,hp,cl,na,q⟩:=h
 refine ⟨_,(ak (bp (fF rfl mR c G hr b .nil bN (aa (pv 0) (aa (pv 1) ae))))),?_⟩
 exact ⟨_,rfl,_,rfl,p,C,dx,v,rfl,hp,cl,na,q⟩
theorem lS:FnScope ["self","need"] ["self","need"] (aq iX):=⟨rfl,rfl,rfl,by decide +kernel,rfl,by decide +kernel,by decide +kernel⟩
theorem mj {R g:Addr} {gd:FuncData} (F:Fun K "__init__" "Some.__init__" iX f fd) (mR:mg "Rule"=some (.ref R)) (c:ClsFn K R "__init__" g) (G:FnOk P w K mg base CX0 1 g gd ["self","need"] (bu K)) (b:Binds K gd ["self","need"] []) :
  FnOk P w K mg base CX0 2 f fd ["self","need"] (bu K):=by
 refine F.ok lS (fun vs H Q E h=>?_) (fun cdv A outer s H vs Q E hr h=>?_)
 ·obtain ⟨p,C,dx,v,rfl,_⟩:=h
  rfl
 obtain ⟨p,C,dx,v,rfl,hp,cl,na,q⟩:=h
 refine ⟨_,(ak (bp (fF rfl mR c G hr b .nil bN (aa (pv 0) (aa (pv 1) ae))))),?_⟩
 exact ⟨_,rfl,_,rfl,p,C,dx,v,rfl,hp,cl,na,q⟩
theorem mf:FnScope ["self"] ["self"] (aq iZ):=⟨rfl,rfl,rfl,by decide +kernel,rfl,by decide +kernel,by decide +kernel⟩
theorem kZ {R g:Addr} {gd:FuncData} (F:Fun K "__init__" "Any.__init__" iZ f fd) (mR:mg "Rule"=some (.ref R)) (c:ClsFn K R "__init__" g) (G:FnOk P w K mg base CX0 1 g gd ["self","need"] (bu K)) (b:Binds K gd ["self","need"] []) :
  FnOk P w K mg base CX0 2 f fd ["self"] (et K):=by
 refine F.ok mf (fun vs H Q E h=>?_) (fun cdv A outer s H vs Q E hr h=>?_)
 ·obtain ⟨p,C,dx,rfl,_⟩:=h
  rfl
 obtain ⟨p,C,dx,rfl,hp,cl,na,q⟩:=h
 refine ⟨_,(ak (bp (fF rfl mR c G hr b .nil bN (aa (pv 0) (aa aj ae))))),?_⟩
 exact ⟨_,rfl,p,C,dx,.int 1,rfl,hp,cl,na,q⟩
def lP (K:PySem.W.Frag):Sp:=fun vs H Q _=>∃ (x b C dx:Addr) (n:Int) (bs:List (Option Int)),vs=[.ref x,.ref b]∧H x=some (.ins C dx [("need",.int n)])∧Cls K C∧NoAttr K C "need"∧H b=some (.lst (bs.map oV))∧bs.length≤8∧1≤n∧
 ∀ (H':Hp) (o:Option Int),Same H H'→Due bs n o→Q (oV o) H'
theorem pG:FnScope ["self","beats","come"] ["self","beats"] (aq nQ):=⟨rfl,rfl,rfl,by decide +kernel,rfl,by decide +kernel,by decide +kernel⟩
theorem xk (F:Fun K "falls" "Rule.falls" nQ f fd) (B:Blt mg):FnOk P w K mg base CX0 1 f fd ["self","beats"] (lP K):=by
 refine F.ok pG (fun vs H Q E h=>?_) (fun cdv A outer s H vs Q E hr h=>?_)
 ·obtain ⟨x,b,C,dx,n,bs,rfl,_⟩:=h
  rfl
 obtain ⟨x,b,C,dx,n,bs,rfl,hx,cl,na,hb,hl8,h1,q⟩:=h
 refine ⟨_,(af (aJ (i:=2) pG.nd rfl (Or.inl rfl) (ay pT rfl B.sorted_ PyProof.Rows.boot_sorted (aa (cJ ["beat"] [] [] rfl (dG (pv 1)) (fun _ _ _ _ _=>aI (i:=0) (show List.Nodup [("beat":Str)] by decide +kernel) rfl (Or.inl rfl)) (fun _ _ _ _ _=>si (aC nW (pv 0) c9 (aL _))) (fun _ _ _ _ _=>pv 0)) ae)))
  (af (aU (aC nh (ay aM rfl B.len_ PySem.boot_len (aa (pv 2) ae)) (iK (pv 0) rfl) (aL _))
  (ak (av c9))
  aw)
  (ak (av (ar ax (pv 2) (aV iw (iK (pv 0) rfl) aj) (fun _ _=>rfl)))))),?_⟩
 refine ⟨_,rfl,b,rfl,⟨_,SqL.of hb⟩,fun D hD=>?_⟩
 have hlm:(bs.map oV).length=bs.length:=List.length_map _
 refine cX (K:=K) (a:=b) (xs:=bs.map oV) (fun i ys H2=>Same H H2∧ys=(cK (bs.take i)).map V.int) ⟨ao hD _,rfl⟩ (fun i ys H2 _ ⟨s2,_⟩=>SqL.of (s2 _ _ hb)) ?_ ?_
 ·rintro i y ys H2 hi ⟨s2,rfl⟩ hD2
  obtain ⟨o,rfl,ho⟩:=D8 hi
  have hil:i<bs.length:=(List.getElem?_eq_some_iff.mp ho).1
  refine ⟨rfl,_,rfl,rfl,_,rfl,?_⟩
  cases o with
  | none =>
   refine bh ⟨_,⟨s2,rfl⟩,?_⟩
   rw [take_snoc ho,oU]
   exact hD2
  | some z =>
   refine bf ⟨_,rfl,_,hD2,?_,_,⟨s2.upd hD _,rfl⟩,?_⟩
   ·rw [List.length_map]
    have:=ng (bs.take i)
    rw [List.length_take] at this
    exact aW (by omega)
   ·rw [take_snoc ho,qg,List.map_append]
    exact ah
 ·rintro ys H2 ⟨s2,rfl⟩ hD2
  rw [hlm,List.take_length] at hD2
  have hcl:(cK bs).length≤8:=Nat.le_trans (ng bs) hl8
  refine ⟨D,cK bs,rfl,SqL.of hD2,by omega,fun l ns hl p o=>?_⟩
  have s3:Same H (upd H2 l (.lst (ns.map V.int))):=s2.trans (ao hl _)
  have hx3:=s3 _ _ hx
  have hl3:(upd H2 l (.lst (ns.map V.int))) l=some (.lst (ns.map V.int)):=ah
  have hlen:(ns.map V.int).length=ns.length:=List.length_map _
  refine ⟨_,rfl,l,_,rfl,.inl (SqL.of hl3),_,rfl,x,C,dx,_,_,rfl,hx3,cl,na,rfl,_,_,rfl,rfl,_,rfl,?_⟩
  refine du (fun c=>?_) (fun c=>?_)
  ·have c':(((ns.map V.int).length:Nat):Int)<n:=of_decide_eq_true c
   rw [hlen] at c'
   exact q _ none s3 (yE p c')
  ·have c':¬ (((ns.map V.int).length:Nat):Int)<n:=of_decide_eq_false (Bool.eq_false_iff.mpr c)
   rw [hlen] at c'
   have hk:(n - 1).toNat<ns.length:=by omega
   have en:n - 1=(((n - 1).toNat:Nat):Int):=by omega
   have hv:ns[(n - 1).toNat]?=some ns[(n - 1).toNat]:=List.getElem?_eq_getElem hk
   have hat:atI (ns.map V.int) (n - 1)=some (.int ns[(n - 1).toNat]):=by
    have:=w6 hv
    rw [← en] at this
    exact this
   refine ⟨_,rfl,_,rfl,x,C,dx,_,_,rfl,hx3,cl,na,rfl,_,_,rfl,rfl,l,_,_,_,rfl,rfl,SqL.of hl3,hat,?_⟩
   exact q _ (some _) s3 (xx p o h1 hv)
theorem iA:¬ (V.str ("any":Str)=V.str ("all":Str)):=by
 intro h
 injection h with h
 exact absurd h (by decide +kernel)
theorem dz {H:Hp} {x dx C:Addr} {l1 l2:List (Str×V)} (nx:H x=none) (ndx:H dx=none):Same H (upd (upd (upd H dx (.own x)) x (.ins C dx l1)) x (.ins C dx l2)):=fun b o e=>by
 rw [au (aG e nx),au (aG e nx),au (aG e ndx)]
 exact e
def fQ (K:PySem.W.Frag) (ff:Addr):Sp:=fun vs H Q _=>∃ (t:Str) (many n:Int),vs=[.str t,.int many]∧(t="all"∧n=many∨t="any"∧n=1)∧∀ x H',Same H H'→RuleAt K ff H' x n→Q (.ref x) H'
theorem oj:FnScope ["text","many"] ["text","many"] (aq lV):=⟨rfl,rfl,rfl,by decide +kernel,rfl,by decide +kernel,by decide +kernel⟩
theorem n5 {A Y fA fY ff:Addr} {dA dY:FuncData} (F:Fun K "rule_of_text" "rule_of_text" lV f fd) (mA:mg "All"=some (.ref A)) (mY:mg "Any"=some (.ref Y)) (oA:Own K A fA ff) (oY:Own K Y fY ff)
  (GA:FnOk P w K mg base CX0 2 fA dA ["self","many"] (bu K)) (bA:Binds K dA ["self","many"] []) (GY:FnOk P w K mg base CX0 2 fY dY ["self"] (et K)) (bY:Binds K dY ["self"] []) :
  FnOk P w K mg base CX0 4 f fd ["text","many"] (fQ K ff):=by
 refine F.ok oj (fun vs H Q E h=>?_) (fun cdv A' outer s H vs Q E hr h=>?_)
 ·obtain ⟨t,many,n,rfl,_⟩:=h
  rfl
 obtain ⟨t,many,n,rfl,hw,q⟩:=h
 refine ⟨_,(af (aU (aC cF (pv 0) aB (aL _))
  (ak (av (ko oA.mks GA hr rfl mA bA .nil bN (aa (pv 1) ae))))
  aw)
  (af (aU (aC cF (pv 0) aB (aL _))
  (ak (av (mq oY.mks GY hr rfl mY bY .nil bN)))
  aw)
  aH)),?_⟩
 refine ⟨_,rfl,rfl,_,rfl,?_⟩
 rcases hw with ⟨rfl,rfl⟩ | ⟨rfl,rfl⟩
 ·refine du (fun _=>?_) (fun c=>absurd (decide_eq_true rfl) c)
  refine ⟨_,rfl,fun x dx nx ndx ne=>⟨x,A,dx,_,rfl,ah,oA.cl,oA.nN,rfl,?_⟩⟩
  exact q x _ (dz nx ndx) ⟨A,dx,ah,oA.cl,oA.nN,oA.fl⟩
 ·refine du (fun c=>absurd (of_decide_eq_true c) iA) (fun _=>?_)
  refine ⟨_,rfl,rfl,_,rfl,?_⟩
  refine du (fun _=>?_) (fun c=>absurd (decide_eq_true rfl) c)
  refine fun x dx nx ndx ne=>⟨x,Y,dx,rfl,ah,oY.cl,oY.nN,rfl,?_⟩
  exact q x _ (dz nx ndx) ⟨Y,dx,ah,oY.cl,oY.nN,oY.fl⟩
def f7 (K:PySem.W.Frag) (ff:Addr):Sp:=fun vs H Q _=>∃ (wd:V) (many n:Int),vs=[wd,.int many]∧(wd=.str "all"∧n=many∨wd=.str "any"∧n=1∨wd=.int n∧1≤n∧n≤many)∧∀ x H',Same H H'→RuleAt K ff H' x n→Q (.ref x) H'
theorem iG:FnScope ["word","many"] ["word","many"] (aq fo):=⟨rfl,rfl,rfl,by decide +kernel,rfl,by decide +kernel,by decide +kernel⟩
theorem iI {S fS ff:Addr} {dS:FuncData} (F:Fun K "rule_of" "rule_of" fo f fd) (B:Blt mg) (mS:mg "Some"=some (.ref S)) (oS:Own K S fS ff) (GS:FnOk P w K mg base CX0 2 fS dS ["self","need"] (bu K)) (bS:Binds K dS ["self","need"] [])
  (C_text:Cal P w K mg base 4 "rule_of_text" ["text","many"] (fQ K ff)) (C_whole:Cal P w K mg base 1 "is_whole" ["thing"] dJ):FnOk P w K mg base CX0 5 f fd ["word","many"] (f7 K ff):=by
 refine F.ok iG (fun vs H Q E h=>?_) (fun cdv A' outer s H vs Q E hr h=>?_)
 ·obtain ⟨wd,many,n,rfl,_⟩:=h
  rfl
 obtain ⟨wd,many,n,rfl,hw,q⟩:=h
 have hr3:Room 3 _:=hr.mono (by decide)
 refine ⟨_,(af (aU (bG (ay (bU "str") rfl B.isinstance_ PyProof.Rows.boot_isinstance (aa (pv 0) (aa (cE (v:=.ty "str") rfl B.str_ PyProof.Rows.boot_str rfl) ae))))
  (ak (av (az C_text hr (by decide) rfl (aa (pv 0) (aa (pv 1) ae)))))
  aw)
  (af (aU (PW.pt (ou (bG (az C_whole hr (by decide) rfl (aa (pv 0) ae))) (kz (da dr dr aj (pv 0) (pv 1)))))
  (ak (av (ko oS.mks GS hr3 rfl mS bS .nil bN (aa (pv 0) ae))))
  aw)
  aH)),?_⟩
 rcases hw with ⟨rfl,rfl⟩ | ⟨rfl,rfl⟩ | ⟨rfl,h1,h2⟩
 ·refine ⟨_,rfl,_,_,_,rfl,.str _,gE K,_,rfl,bf ?_⟩
  exact ⟨_,rfl,_,rfl,"all",_,_,rfl,.inl ⟨rfl,rfl⟩,q⟩
 ·refine ⟨_,rfl,_,_,_,rfl,.str _,gE K,_,rfl,bf ?_⟩
  exact ⟨_,rfl,_,rfl,"any",_,_,rfl,.inr ⟨rfl,rfl⟩,q⟩
 ·refine ⟨_,rfl,_,_,_,rfl,.int _,nC K,_,rfl,bh ?_⟩
  refine ⟨_,rfl,_,rfl,_,rfl,bf ?_⟩
  refine ⟨_,rfl,_,_,rfl,rfl,_,rfl,?_⟩
  rw [decide_eq_true h1]
  refine bf ⟨_,rfl,_,_,rfl,rfl,_,rfl,?_⟩
  rw [decide_eq_true h2]
  refine bf ?_
  refine ⟨_,rfl,fun x dx nx ndx ne=>⟨x,S,dx,_,rfl,ah,oS.cl,oS.nN,rfl,?_⟩⟩
  exact q x _ (dz nx ndx) ⟨S,dx,ah,oS.cl,oS.nN,oS.fl⟩
end
end K83.S
namespace K83.S
open PySem L2
section
variable {P:Program} {w:World} {K:PySem.W.Frag} {mg:Str→Option Value} {base:Heap} {f:Addr} {fd:FuncData}
def gB (K:PySem.W.Frag) (ff:Addr):Sp:=fun vs H Q _=>∃ (v:V) (b:Bell),vs=[v]∧BellAt H v b∧GoodR b.lis.length b.rule∧∀ x H',Same H H'→RuleAt K ff H' x (wants b)→Q (.ref x) H'
theorem kg:FnScope ["bell"] ["bell"] (aq eG):=⟨rfl,rfl,rfl,by decide +kernel,rfl,by decide +kernel,by decide +kernel⟩
theorem ki {ff:Addr} (F:Fun K "rule_of_bell" "rule_of_bell" eG f fd) (B:Blt mg) (C_rule_of:Cal P w K mg base 5 "rule_of" ["word","many"] (f7 K ff)):FnOk P w K mg base CX0 6 f fd ["bell"] (gB K ff):=by
 refine F.ok kg (fun vs H Q E h=>?_) (fun cdv A outer s H vs Q E hr h=>?_)
 ·obtain ⟨v,b,rfl,_⟩:=h
  rfl
 obtain ⟨v,b,rfl,⟨a,t,ls,rfl,ha,ht,pr⟩,gr,q⟩:=h
 refine ⟨_,(ak (av (az C_rule_of hr (by decide) rfl (aa (ar aP (pv 0) aj (fun _ _=>rfl)) (aa (ay aM rfl B.len_ PySem.boot_len (aa (ar aP (pv 0) aj (fun _ _=>rfl)) ae)) ae))))),?_⟩
 refine ⟨_,rfl,a,_,_,_,rfl,rfl,SqT.of ha,rfl,_,rfl,a,_,_,_,rfl,rfl,SqT.of ha,rfl,t,_,rfl,.inr (SqT.of ht),rwV b.rule,_,wants b,rfl,?_,q⟩
 have hl:=aE pr
 rw [hl]
 unfold wants
 cases hr:b.rule with
 | all=>exact .inl ⟨rfl,rfl⟩
 | any=>exact .inr (.inl ⟨rfl,rfl⟩)
 | num n =>
  rw [hr] at gr
  exact .inr (.inr ⟨rfl,gr.1,gr.2⟩)
def lM:Sp:=fun vs H Q _=>∃ (v:V) (l:Lis) (p r:Addr) (before now:List (Option Int)),vs=[v,.ref p,.ref r]∧LisAt H v l∧H p=some (.lst (before.map oV))∧H r=some (.lst (now.map oV))∧l.whom<before.length∧l.whom<now.length∧Q (oV (gm before now l)) H
theorem v7 {bs:List (Option Int)} {i:Nat} {o:Option Int} (h:bs[i]?=some o):atI (bs.map oV) (i:Int)=some (oV o):=bj (by rw [List.getElem?_map,h]; rfl)
theorem pO:FnScope ["listening","before","now","stroke"] ["listening","before","now"] (aq oa):=⟨rfl,rfl,rfl,by decide +kernel,rfl,by decide +kernel,by decide +kernel⟩
theorem vV (F:Fun K "listening_comes" "listening_comes" oa f fd):FnOk P w K mg base CX0 1 f fd ["listening","before","now"] lM:=by
 refine F.ok pO (fun vs H Q E h=>?_) (fun cdv A outer s H vs Q E hr h=>?_)
 ·obtain ⟨v,l,p,r,before,now,rfl,_⟩:=h
  rfl
 obtain ⟨v,l,p,r,before,now,rfl,⟨a,rfl,ha⟩,hp,hr',h1,h2,q⟩:=h
 refine ⟨_,(af (aJ (i:=3) pO.nd rfl (Or.inl rfl) (jk (aC cF (ar aP (pv 0) aj (fun _ _=>rfl)) aj (aL _)) (ar ax (pv 1) (ar aP (pv 0) aj (fun _ _=>rfl)) (fun _ _=>rfl)) (ar ax (pv 2) (ar aP (pv 0) aj (fun _ _=>rfl)) (fun _ _=>rfl))))
  (ak (av (jk (aC om (pv 3) c9 (aL _)) c9 (aV cm (pv 3) (ar aP (pv 0) aj (fun _ _=>rfl))))))),?_⟩
 refine ⟨_,rfl,a,_,_,_,rfl,rfl,SqT.of ha,rfl,rfl,_,rfl,?_⟩
 have e1:=List.getElem?_eq_getElem h1
 have e2:=List.getElem?_eq_getElem h2
 have hx:=SqT.of (K:=K) ha
 cases hb:l.back with
 | true =>
  refine du (fun _=>?_) (fun c=>absurd rfl c)
  refine ⟨_,rfl,_,rfl,a,_,_,_,rfl,rfl,hx,rfl,p,_,_,_,rfl,rfl,SqL.of hp,v7 e1,?_⟩
  have hc:gm before now l=(before[l.whom]).map (·+l.beats):=by
   unfold gm
   rw [hb,if_pos rfl,e1]
   rfl
  rw [hc] at q
  cases ho:before[l.whom] with
  | none =>
   rw [ho] at q
   exact ⟨_,rfl,rfl,_,rfl,bf q⟩
  | some i =>
   rw [ho] at q
   exact ⟨_,rfl,rfl,_,rfl,bh ⟨_,rfl,_,rfl,a,_,_,_,rfl,rfl,hx,rfl,_,_,rfl,rfl,q⟩⟩
 | false =>
  refine du (fun c=>absurd c (by decide)) (fun _=>?_)
  refine ⟨_,rfl,_,rfl,a,_,_,_,rfl,rfl,hx,rfl,r,_,_,_,rfl,rfl,SqL.of hr',v7 e2,?_⟩
  have hc:gm before now l=(now[l.whom]).map (·+l.beats):=by
   unfold gm
   rw [hb,if_neg (by decide),e2]
   rfl
  rw [hc] at q
  cases ho:now[l.whom] with
  | none =>
   rw [ho] at q
   exact ⟨_,rfl,rfl,_,rfl,bf q⟩
  | some i =>
   rw [ho] at q
   exact ⟨_,rfl,rfl,_,rfl,bh ⟨_,rfl,_,rfl,a,_,_,_,rfl,rfl,hx,rfl,_,_,rfl,rfl,q⟩⟩
end
end K83.S
namespace K83.S
open PySem L2
def RuleV (K:PySem.W.Frag) (ff:Addr) (H:Hp) (v:V) (b:Bell):Prop:=∃ x,v=.ref x∧RuleAt K ff H x (wants b)
def RulesAt (K:PySem.W.Frag) (ff:Addr) (H:Hp) (r:Addr) (c:List Bell):Prop:=∃ rs,H r=some (.lst rs)∧Paired (RuleV K ff H) rs c
theorem RuleV.same {K:PySem.W.Frag} {ff:Addr} {H H':Hp} {v:V} {b:Bell} (s:Same H H') (h:RuleV K ff H v b):RuleV K ff H' v b:=by
 obtain ⟨x,e,q⟩:=h
 exact ⟨x,e,q.same s⟩
theorem RulesAt.same {K:PySem.W.Frag} {ff:Addr} {H H':Hp} {r:Addr} {c:List Bell} (s:Same H H') (h:RulesAt K ff H r c):RulesAt K ff H' r c:=by
 obtain ⟨rs,e,q⟩:=h
 exact ⟨rs,s _ _ e,aO (fun _ _ z=>z.same s) q⟩
def Fine (c:List Bell):Prop:=c.length≤6∧∀ (k:Nat) b,c[k]?=some b→1≤b.lis.length∧b.lis.length≤8∧GoodR b.lis.length b.rule∧∀ l∈b.lis,l.whom<c.length∧1≤l.beats
theorem Fine.slow {c:List Bell} (h:Fine c):iU c:=fun k b hb l hl=>((h.2 k b hb).2.2.2 l hl).2
theorem uS {b:Bell} (h1:1≤b.lis.length) (h:GoodR b.lis.length b.rule):1≤wants b:=by
 unfold wants
 cases hr:b.rule with
 | all=>show (1:Int)≤(b.lis.length:Int); omega
 | any=>exact Int.le_refl 1
 | num n=>rw [hr] at h; exact h.1
def Best (c:List Bell) (before now:List (Option Int)) (H:Hp) (i:Nat) (v:V):Prop :=
 (v=.non∧∀ (k:Nat) b,k<i→c[k]?=some b→now[k]?=some none→Due (aQ b before now) (wants b) none)∨
 ∃ (T:Addr) (beat:Int) (k:Nat) (b:Bell),v=.ref T∧H T=some (.tup [.int beat,.int (k:Int)])∧c[k]?=some b∧now[k]?=some none∧Due (aQ b before now) (wants b) (some beat)∧
  ∀ (j:Nat) b' u,j<i→c[j]?=some b'→now[j]?=some none→Due (aQ b' before now) (wants b') (some u)→beat≤u
theorem Best.same {c:List Bell} {before now:List (Option Int)} {H H':Hp} {i:Nat} {v:V} (s:Same H H') (h:Best c before now H i v):Best c before now H' i v:=by
 rcases h with h | ⟨T,beat,k,b,e,hT,r⟩
 ·exact .inl h
 ·exact .inr ⟨T,beat,k,b,e,s _ _ hT,r⟩
theorem Best.skip {c:List Bell} {before now:List (Option Int)} {H:Hp} {i:Nat} {v:V} {u:Int} (h:Best c before now H i v) (hn:now[i]?=some (some u)):Best c before now H (i+1) v:=by
 rcases h with ⟨e,h⟩ | ⟨T,beat,k,b,e,hT,h1,h2,h3,h4⟩
 ·refine .inl ⟨e,fun k b hk hb hz=>?_⟩
  rcases Nat.lt_or_ge k i with c1 | c1
  ·exact h k b c1 hb hz
  ·have ek:k=i:=by omega
   rw [ek,hn] at hz
   cases hz
 ·refine .inr ⟨T,beat,k,b,e,hT,h1,h2,h3,fun j b' u' hj hb hz hd=>?_⟩
  rcases Nat.lt_or_ge j i with c1 | c1
  ·exact h4 j b' u' c1 hb hz hd
  ·have ek:j=i:=by omega
   rw [ek,hn] at hz
   cases hz
theorem Best.late {c:List Bell} {before now:List (Option Int)} {H:Hp} {i:Nat} {v:V} {b:Bell} (h:Best c before now H i v) (hb:c[i]?=some b) (hd:Due (aQ b before now) (wants b) none):Best c before now H (i+1) v:=by
 rcases h with ⟨e,h⟩ | ⟨T,beat,k,b1,e,hT,h1,h2,h3,h4⟩
 ·refine .inl ⟨e,fun k b1 hk hb1 hz=>?_⟩
  rcases Nat.lt_or_ge k i with c1 | c1
  ·exact h k b1 c1 hb1 hz
  ·obtain rfl:k=i:=by omega
   rw [hb] at hb1
   cases hb1
   exact hd
 ·refine .inr ⟨T,beat,k,b1,e,hT,h1,h2,h3,fun j b' u' hj hb1 hz hd1=>?_⟩
  rcases Nat.lt_or_ge j i with c1 | c1
  ·exact h4 j b' u' c1 hb1 hz hd1
  ·obtain rfl:j=i:=by omega
   rw [hb] at hb1
   cases hb1
   cases eK hd hd1
theorem Best.take {c:List Bell} {before now:List (Option Int)} {H:Hp} {i:Nat} {b:Bell} {u:Int} {T:Addr} (h:∀ (j:Nat) b' v,j<i→c[j]?=some b'→now[j]?=some none→Due (aQ b' before now) (wants b') (some v)→u≤v) (hT:H T=some (.tup [.int u,.int (i:Int)]))
  (hb:c[i]?=some b) (hn:now[i]?=some none) (hd:Due (aQ b before now) (wants b) (some u)):Best c before now H (i+1) (.ref T):=by
 refine .inr ⟨T,u,i,b,rfl,hT,hb,hn,hd,fun j b' v hj hb' hz hd'=>?_⟩
 rcases Nat.lt_or_ge j i with c1 | c1
 ·exact h j b' v c1 hb' hz hd'
 ·obtain rfl:j=i:=by omega
  rw [hb] at hb'
  cases hb'
  have:=Option.some.inj (eK hd hd')
  omega
section
variable {P:Program} {w:World} {K:PySem.W.Frag} {mg:Str→Option Value} {base:Heap} {f:Addr} {fd:FuncData}
def kI (K:PySem.W.Frag) (ff:Addr):Sp:=fun vs H Q _=>∃ (ch:V) (c:List Bell) (r p n:Addr) (before now:List (Option Int)),vs=[ch,.ref r,.ref p,.ref n]∧ChoirAt H ch c∧Fine c∧RulesAt K ff H r c∧H p=some (.lst (before.map oV))∧H n=some (.lst (now.map oV))∧before.length=c.length∧now.length=c.length∧
 ∀ (H':Hp) (v:V),Same H H'→Best c before now H' c.length v→Q v H'
theorem fb:FnScope ["choir","rules","before","now","best","number","bell","beat"] ["choir","rules","before","now"] (aq ow):=⟨rfl,rfl,rfl,by decide +kernel,rfl,by decide +kernel,by decide +kernel⟩
theorem vH {ff:Addr} {df:FuncData} (F:Fun K "next_found" "next_found" ow f fd) (B:Blt mg) (C_comes:Cal P w K mg base 1 "listening_comes" ["listening","before","now"] lM) (GF:FnOk P w K mg base CX0 1 ff df ["self","beats"] (lP K)) (bF:Binds K df ["self","beats"] []):FnOk P w K mg base CX0 2 f fd ["choir","rules","before","now"] (kI K ff):=by
 refine F.ok fb (fun vs H Q E h=>?_) (fun cdv A outer s H vs Q E hr h=>?_)
 ·obtain ⟨ch,c,r,p,n,before,now,rfl,_⟩:=h
  rfl
 obtain ⟨ch,c,r,p,n,before,now,rfl,⟨a,bs,rfl,ha,prb⟩,fc,⟨rs,hR,prr⟩,hp,hn,lb,ln,q⟩:=h
 have hr1:Room 1 _:=hr.mono (by decide)
 refine ⟨_,(af (aJ (i:=4) fb.nd rfl (Or.inl rfl) c9)
  (af (cL PassesOwn.never rfl (kT rfl B.enumerate_ (aa (pv 0) ae)) (fV rfl (bg (aI (i:=5) fb.nd rfl (Or.inl rfl)) (bg (aI (i:=6) fb.nd rfl (Or.inl rfl)) d9)))
  (ak (aU (aC om (ar ax (pv 3) (pv 5) (fun _ _=>rfl)) c9 (aL _))
  (af (aJ (i:=7) fb.nd rfl (Or.inl rfl) (bM (ar ax (pv 1) (pv 5) (fun _ _=>rfl)) GF hr1 bF .nil bN (aa (cJ ["listening"] ["before","now"] [2,3] rfl (eL (ar aP (pv 6) aj (fun _ _=>rfl))) (fun _ _ _ _ _=>(aI (i:=0) (show List.Nodup [("listening":Str),("before":Str),("now":Str)] by decide +kernel) rfl (Or.inl rfl))) (fun _ _ _ _ _=>bV) (fun _ _ _ _ _=>(az C_comes hr (by decide) rfl (aa (pv 0) (aa (pv 1) (aa (pv 2) ae)))))) ae)))
  (ak (aU (PW.pt (ou (aC nW (pv 7) c9 (aL _)) (kz (PW.pt (eC (aC om (pv 4) c9 (aL _)) (cT (aC nh (pv 7) (ar aP (pv 4) aj (fun _ _=>rfl)) (aL _))))))))
  (ak (aJ (i:=4) fb.nd rfl (Or.inl rfl) (dZ (aa (pv 7) (aa (pv 5) ae)))))
  aw)))
  aw)))
  (ak (av (pv 4))))),?_⟩
 have hbl:=aE prb
 refine ⟨_,rfl,a,rfl,⟨_,SqT.of ha⟩,js (K:=K) (a:=a) (xs:=bs) (fun i σ H2=>∃ (v:V) (o5 o6 o7:Option V),σ=[some (.ref a),some (.ref r),some (.ref p),some (.ref n),some v,o5,o6,o7]∧Same H H2∧Best c before now H2 i v)
  ⟨.non,none,none,none,rfl,.refl H,.inl ⟨rfl,fun k b hk=>absurd hk (Nat.not_lt_zero k)⟩⟩ (fun i σ H2 _ ⟨_,_,_,_,_,s2,_⟩=>SqT.of (s2 _ _ ha)) ?_ ?_⟩
 ·rintro i y σ H2 T hi ⟨v,o5,o6,o7,rfl,s2,hbest⟩ hT
  obtain ⟨b,hb,⟨x,t,ls,rfl,hx,ht,prl⟩⟩:=aZ prb hi
  have hic:i<c.length:=(List.getElem?_eq_some_iff.mp hb).1
  obtain ⟨rv,hrv,⟨ro,rfl,hro⟩⟩:=dE prr hb
  have s3:Same H2 (upd H2 T (.tup [.int (i:Int),.ref x])):=ao hT _
  have s23:=s2.trans s3
  have eT:(upd H2 T (.tup [.int (i:Int),.ref x])) T=some (.tup [.int (i:Int),.ref x]):=ah
  refine ⟨T,_,rfl,SqT.of eT,rfl,_,_,rfl,_,_,rfl,rfl,?_⟩
  have hbest3:=hbest.same s3
  generalize upd H2 T (.tup [.int (i:Int),.ref x])=H3 at s3 s23 eT hbest3 ⊢
  have en:=List.getElem?_eq_getElem (show i<now.length by omega)
  refine ⟨_,rfl,_,rfl,n,_,_,_,rfl,rfl,SqL.of (s23 _ _ hn),v7 en,rfl,_,rfl,?_⟩
  cases ho:now[i]'(by omega) with
  | some u =>
   rw [ho] at en
   exact bh ⟨v,_,_,_,rfl,s23,hbest3.skip en⟩
  | none =>
   rw [ho] at en
   refine bf ?_
   obtain ⟨C,dx,hro',cl,na,mt⟩:=hro.same s23
   obtain ⟨g1,g8,gr,gl⟩:=fc.2 i b hb
   refine ⟨_,rfl,_,rfl,r,_,_,_,rfl,rfl,SqL.of (s23 _ _ hR),bj hrv,C,ro,dx,_,rfl,hro',cl,mt,rfl,?_⟩
   refine ⟨_,rfl,x,_,_,_,rfl,rfl,SqT.of (s23 _ _ hx),rfl,t,rfl,⟨_,SqT.of (s23 _ _ ht)⟩,fun D hD=>?_⟩
   have hll:=aE prl
   refine dX (K:=K) (a:=t) (xs:=ls) (fun j ys H4=>Same H3 H4∧ys=((b.lis.take j).map (gm before now)).map oV) ⟨ao hD _,rfl⟩ (fun j ys H4 _ ⟨z,_⟩=>SqT.of (z _ _ (s23 _ _ ht))) ?_ ?_
   ·rintro j y ys H4 hj ⟨s4,rfl⟩ hD4
    obtain ⟨l,hl,hla⟩:=aZ prl hj
    have s04:=s23.trans s4
    obtain ⟨w1,w2⟩:=gl l (List.mem_of_getElem? hl)
    refine ⟨rfl,bo ?_⟩
    refine ⟨_,rfl,_,rfl,_,rfl,y,l,p,n,before,now,rfl,hla.mono (Same.tup s04),s04 _ _ hp,s04 _ _ hn,by omega,by omega,?_⟩
    refine ⟨_,hD4,?_,_,⟨s4.upd hD _,rfl⟩,?_⟩
    ·rw [List.length_map,List.length_map,List.length_take]
     exact aW (by omega)
    ·rw [take_snoc hl,List.map_append,List.map_append]
     exact ah
   ·rintro ys H4 ⟨s4,rfl⟩ hD4
    rw [hll,List.take_length] at hD4
    have s04:=s23.trans s4
    refine ⟨ro,D,C,dx,wants b,b.lis.map (gm before now),rfl,s4 _ _ hro',cl,na,hD4,by rw [List.length_map]; exact g8,uS g1 gr,fun H5 o s5 hd=>?_⟩
    have s35:=s4.trans s5
    have s05:=s23.trans s35
    have hbest5:=hbest3.same s35
    cases o with
    | none=>exact ⟨_,rfl,rfl,_,rfl,bh (bh ⟨v,_,_,_,rfl,s05,hbest5.late hb hd⟩)⟩
    | some u =>
     refine ⟨_,rfl,rfl,_,rfl,bf ?_⟩
     rcases hbest5 with ⟨rfl,hno⟩ | ⟨T2,beat,k,b2,rfl,hT2,h1,h2,h3,h4⟩
     ·refine ⟨_,rfl,rfl,_,rfl,bf (bf ?_)⟩
      refine ⟨_,rfl,_,rfl,(by show 2≤sizeLine; decide),fun l hl=>?_⟩
      refine ⟨_,_,_,_,rfl,s05.trans (ao hl _),Best.take (fun j b' z hj hb' hz hd'=>?_) ah hb en hd⟩
      cases eK (hno j b' hj hb' hz) hd'
     ·refine ⟨_,rfl,rfl,_,rfl,bh ?_⟩
      refine ⟨_,rfl,_,rfl,T2,_,_,_,rfl,rfl,SqT.of hT2,rfl,_,_,rfl,rfl,_,rfl,?_⟩
      refine du (fun cc=>?_) (fun cc=>?_)
      ·have hlt:u<beat:=of_decide_eq_true cc
       refine ⟨_,rfl,_,rfl,(by show 2≤sizeLine; decide),fun l hl=>?_⟩
       refine ⟨_,_,_,_,rfl,s05.trans (ao hl _),Best.take (fun j b' z hj hb' hz hd'=>?_) ah hb en hd⟩
       have:=h4 j b' z hj hb' hz hd'
       omega
      ·have hge:¬ u<beat:=of_decide_eq_false (Bool.eq_false_iff.mpr cc)
       refine ⟨_,_,_,_,rfl,s05,.inr ⟨T2,beat,k,b2,rfl,hT2,h1,h2,h3,fun j b' z hj hb' hz hd'=>?_⟩⟩
       rcases Nat.lt_or_ge j i with c1 | c1
       ·exact h4 j b' z c1 hb' hz hd'
       ·obtain rfl:j=i:=by omega
        rw [hb] at hb'
        cases hb'
        have:=Option.some.inj (eK hd hd')
        omega
 ·rintro σ H2 ⟨v,o5,o6,o7,rfl,s2,hbest⟩
  rw [hbl] at hbest
  exact ⟨_,rfl,q H2 v s2 hbest⟩
end
end K83.S
namespace K83.S
open PySem L2
def An:V→Bool
 | .non=>true
 | _=>false
theorem xM (now:List (Option Int)):(now.map oV).countP An=now.countP (·.isNone):=by
 rw [List.countP_map]
 refine List.countP_congr fun o _=>?_
 cases o <;> rfl
theorem count_set {now:List (Option Int)} {k:Nat} {u:Int} (h:now[k]?=some none):(now.set k (some u)).countP (·.isNone)<now.countP (·.isNone):=by
 induction now generalizing k with
 | nil=>cases h
 | cons o r ih =>
  cases k with
  | zero =>
   have e:o=none:=by simpa using h
   subst e
   simp
  | succ k =>
   have:=ih (k:=k) (by simpa using h)
   simp only [List.set_cons_succ,List.countP_cons]
   omega
theorem BA (now:List (Option Int)) (k:Nat) (u:Int):(now.map oV).set k (.int u)=(now.set k (some u)).map oV:=by
 rw [List.map_set]
 rfl
def left (n:Addr) (H:Hp):Nat:=match H n with
 | some (.lst xs)=>xs.countP An
 | _=>0
theorem sx {n:Addr} {H:Hp} {now:List (Option Int)} (h:H n=some (.lst (now.map oV))):left n H=now.countP (·.isNone):=by
 unfold left
 rw [h]
 exact xM now
section
variable {P:Program} {w:World} {K:PySem.W.Frag} {mg:Str→Option Value} {base:Heap} {f:Addr} {fd:FuncData}
def jH (K:PySem.W.Frag) (ff:Addr):Sp:=fun vs H Q _=>∃ (ch:V) (c:List Bell) (r p:Addr) (before:List (Option Int)),vs=[ch,.ref r,.ref p]∧ChoirAt H ch c∧Fine c∧RulesAt K ff H r c∧H p=some (.lst (before.map oV))∧before.length=c.length∧
 ∀ (H':Hp) (n:Addr) (now:List (Option Int)),Same H H'→H n=none→H' n=some (.lst (now.map oV))→Fix c before now→Q (.ref n) H'
theorem hG:FnScope ["choir","rules","before","now","found"] ["choir","rules","before"] (aq lR):=⟨rfl,rfl,rfl,by decide +kernel,rfl,by decide +kernel,by decide +kernel⟩
theorem uG {ff:Addr} (F:Fun K "strokes_behind" "strokes_behind" lR f fd) (C_found:Cal P w K mg base 2 "next_found" ["choir","rules","before","now"] (kI K ff)):FnOk P w K mg base CX0 3 f fd ["choir","rules","before"] (jH K ff):=by
 refine F.ok hG (fun vs H Q E h=>?_) (fun cdv A outer s H vs Q E hr h=>?_)
 ·obtain ⟨ch,c,r,p,before,rfl,_⟩:=h
  rfl
 obtain ⟨ch,c,r,p,before,rfl,hch,fc,hru,hp,lb,q⟩:=h
 obtain ⟨a,bs,rfl,ha,prb⟩:=id hch
 refine ⟨_,(af (dw (i:=3) ["bell"] [] [] rfl hG.nd rfl (Or.inl rfl) (eL (pv 0)) (fun _ _ _ _ _=>(aI (i:=0) (show List.Nodup [("bell":Str)] by decide +kernel) rfl (Or.inl rfl))) (fun _ _ _ _ _=>bV) (fun _ _ _ _ _=>c9))
  (af (aJ (i:=4) hG.nd rfl (Or.inl rfl) (az C_found hr (by decide) rfl (aa (pv 0) (aa (pv 1) (aa (pv 2) (aa (pv 3) ae))))))
  (af (wy PassesOwn.never (aC nW (pv 4) c9 (aL _))
  (af (rp (ar aP (pv 4) aj (fun _ _=>rfl)) (rJ (pv 3) (ar aP (pv 4) aj (fun _ _=>rfl)) set_list))
  (ak (aJ (i:=4) hG.nd rfl (Or.inl rfl) (az C_found hr (by decide) rfl (aa (pv 0) (aa (pv 1) (aa (pv 2) (aa (pv 3) ae)))))))))
  (ak (av (pv 3)))))),?_⟩
 have hbl:=aE prb
 refine ⟨_,rfl,a,rfl,⟨_,SqT.of ha⟩,fun n hn=>?_⟩
 refine dX (K:=K) (a:=a) (xs:=bs) (fun j ys H2=>Same H H2∧ys=((c.take j).map fun _=>none).map oV) ⟨ao hn _,rfl⟩ (fun j ys H2 _ ⟨z,_⟩=>SqT.of (z _ _ ha)) ?_ ?_
 ·rintro j y ys H2 hj ⟨s2,rfl⟩ hD
  obtain ⟨b,hb,_⟩:=aZ prb hj
  have hj6:j<c.length:=(List.getElem?_eq_some_iff.mp hb).1
  have:=fc.1
  refine ⟨rfl,bo ?_⟩
  refine ⟨_,hD,?_,_,⟨s2.upd hn _,rfl⟩,?_⟩
  ·rw [List.length_map,List.length_map,List.length_take]
   exact aW (by omega)
  ·rw [take_snoc hb,List.map_append,List.map_append]
   exact ah
 ·rintro ys H2 ⟨s2,rfl⟩ hD
  rw [hbl,List.take_length] at hD
  refine ⟨_,rfl,_,rfl,_,rfl,_,rfl,.ref a,c,r,p,n,before,c.map fun _=>none,rfl,hch.mono (Same.tup s2),fc,hru.same s2,s2 _ _ hp,hD,lb,List.length_map _,fun H3 v s3 hbest=>?_⟩
  refine xC (fun σ H4=>∃ (v:V) (now:List (Option Int)),σ=[some (.ref a),some (.ref r),some (.ref p),some (.ref n),some v]∧Same H H4∧H4 n=some (.lst (now.map oV))∧Going c before now∧Best c before now H4 c.length v) (fun _ H4=>left n H4) ⟨v,_,rfl,s2.trans s3,s3 _ _ hD,pX c before,hbest⟩ ?_ ?_
  ·rintro σ H4 ⟨v,now,rfl,s4,hn4,go,hbest⟩
   rcases hbest with ⟨rfl,hno⟩ | ⟨T,beat,k,b,rfl,hT,hb,hk,hd,hl⟩
   ·refine ⟨_,rfl,rfl,_,rfl,bh ?_⟩
    exact ⟨_,rfl,q H4 n now s4 hn hn4 (tR go fun k b hb hz=>hno k b (List.getElem?_eq_some_iff.mp hb).1 hb hz)⟩
   ·have hkc:k<c.length:=(List.getElem?_eq_some_iff.mp hb).1
    have hkn:k<now.length:=(List.getElem?_eq_some_iff.mp hk).1
    refine ⟨_,rfl,rfl,_,rfl,bf ?_⟩
    refine ⟨_,rfl,T,_,_,_,rfl,rfl,SqT.of hT,rfl,_,rfl,_,rfl,T,_,_,_,rfl,rfl,SqT.of hT,rfl,n,_,_,k,rfl,rfl,hn4,?_,?_⟩
    ·unfold ixN
     rw [if_pos (by omega),List.length_map,if_pos (by omega),Int.toNat_natCast]
    rw [BA]
    have s5:=s4.upd hn (.lst ((now.set k (some beat)).map oV))
    have hn5:=ah (H:=H4) (a:=n) (o:=.lst ((now.set k (some beat)).map oV))
    have go5:=wJ fc.slow go hb hk hd fun j b' u hj hz hd'=>hl j b' u (List.getElem?_eq_some_iff.mp hj).1 hj hz hd'
    have l4:=sx hn4
    generalize upd H4 n (.lst ((now.set k (some beat)).map oV))=H5 at s5 hn5 ⊢
    refine ⟨_,rfl,_,rfl,_,rfl,_,rfl,.ref a,c,r,p,n,before,now.set k (some beat),rfl,hch.mono (Same.tup s5),fc,hru.same s5,s5 _ _ hp,hn5,lb,by rw [List.length_set]; exact go.len,fun H6 v6 s6 hbest6=>?_⟩
    refine ⟨⟨v6,_,rfl,s5.trans s6,s6 _ _ hn5,go5,hbest6⟩,?_⟩
    show left n H6<left n H4
    rw [l4,sx (s6 _ _ hn5)]
    exact count_set hk
  ·rintro σ H4 Q1 Q2 hq ⟨z1,e1,e2,z2,e3,h⟩
   exact ⟨z1,e1,e2,z2,e3,hq _ _ h⟩
end
end K83.S
namespace K83.S
open PySem L2
structure Rows (c:List Bell) (rows:List (List (Option Int))):Prop where
 first:∀ row,rows[0]?=some row→row=c.map fun b=>some b.start
 next:∀ (n:Nat) x y,rows[n]?=some x→rows[n+1]?=some y→Fix c x y
theorem Rows.len {c:List Bell} {rows:List (List (Option Int))} (h:Rows c rows):∀ (n:Nat) x,rows[n]?=some x→x.length=c.length
 | 0,x,e=>by rw [h.first x e,List.length_map]
 | n+1,x,e=>by
  have hn:n<rows.length:=by have:=(List.getElem?_eq_some_iff.mp e).1; omega
  exact (h.next n _ x (List.getElem?_eq_getElem hn) e).1
theorem Rows.unique {c:List Bell} (hc:iU c) {rows rows':List (List (Option Int))} (h:Rows c rows) (h':Rows c rows') (hl:rows.length=rows'.length):rows=rows':=by
 have all:∀ (n:Nat) x y,rows[n]?=some x→rows'[n]?=some y→x=y:=by
  intro n
  induction n with
  | zero=>intro x y e e'; rw [h.first x e,h'.first y e']
  | succ n ih =>
   intro x y e e'
   have hn:n<rows.length:=by have:=(List.getElem?_eq_some_iff.mp e).1; omega
   have hn':n<rows'.length:=by omega
   have a:=h.next n _ x (List.getElem?_eq_getElem hn) e
   have a':=h'.next n _ y (List.getElem?_eq_getElem hn') e'
   rw [ih _ _ (List.getElem?_eq_getElem hn) (List.getElem?_eq_getElem hn')] at a
   exact qR hc a a'
 refine List.ext_getElem hl fun n h1 h2=>?_
 exact all n _ _ (List.getElem?_eq_getElem h1) (List.getElem?_eq_getElem h2)
theorem Rows.snoc {c:List Bell} {rows:List (List (Option Int))} {row:List (Option Int)} (h:Rows c rows) (h0:rows=[]→row=c.map fun b=>some b.start) (h1:∀ x,rows[rows.length - 1]?=some x→0<rows.length→Fix c x row):Rows c (rows++[row]) where
 first:=fun r e=>by
  by_cases hn:rows=[]
  ·subst hn
   have:row=r:=by simpa using e
   rw [← this]
   exact h0 rfl
  ·have hp:0<rows.length:=List.length_pos_iff.mpr hn
   rw [List.getElem?_append_left hp] at e
   exact h.first r e
 next:=fun n x y ex ey=>by
  have hlt:=(List.getElem?_eq_some_iff.mp ey).1
  rw [List.length_append] at hlt
  have hlt':n+1<rows.length+1:=hlt
  have hn:n<rows.length:=by omega
  rw [List.getElem?_append_left hn] at ex
  by_cases hn1:n+1<rows.length
  ·rw [List.getElem?_append_left hn1] at ey
   exact h.next n x y ex ey
  ·have e:n+1=rows.length:=by omega
   rw [e,List.getElem?_concat_length] at ey
   cases ey
   exact h1 x (by rw [← e]; exact ex) (by omega)
def RowAt (N:Addr→Prop) (H:Hp) (v:V) (row:List (Option Int)):Prop:=∃ a,v=.ref a∧N a∧H a=some (.lst (row.map oV))
section
variable {P:Program} {w:World} {K:PySem.W.Frag} {mg:Str→Option Value} {base:Heap} {f:Addr} {fd:FuncData}
def iM:Sp:=fun vs H Q _=>∃ (ch:V) (c:List Bell) (many:Nat),vs=[ch,.int many]∧ChoirAt H ch c∧Fine c∧many≤100000∧
 ∀ (H':Hp) (t:Addr) (told:List V) (rows:List (List (Option Int))),Same H H'→H t=none→H' t=some (.lst told)→Paired (RowAt (fun a=>H a=none∧a≠t) H') told rows→rows.length=many+1→Rows c rows→Q (.ref t) H'
theorem f9:FnScope ["choir","many","rules","told","n"] ["choir","many"] (aq jA):=⟨rfl,rfl,rfl,by decide +kernel,rfl,by decide +kernel,by decide +kernel⟩
theorem RowAt.same {N:Addr→Prop} {H H':Hp} {v:V} {row:List (Option Int)} (s:Same H H') (h:RowAt N H v row):RowAt N H' v row:=by
 obtain ⟨a,e,n,q⟩:=h
 exact ⟨a,e,n,s _ _ q⟩
theorem wM {n:Nat} (h:n≤100002):n<sizeLine:=Nat.lt_of_le_of_lt h (by decide)
theorem ra {ff:Addr} (F:Fun K "strokes" "strokes" jA f fd) (B:Blt mg) (C_rule_of_bell:Cal P w K mg base 6 "rule_of_bell" ["bell"] (gB K ff)) (C_behind:Cal P w K mg base 3 "strokes_behind" ["choir","rules","before"] (jH K ff)):FnOk P w K mg base CX0 7 f fd ["choir","many"] iM:=by
 refine F.ok f9 (fun vs H Q E h=>?_) (fun cdv A outer s H vs Q E hr h=>?_)
 ·obtain ⟨ch,c,many,rfl,_⟩:=h
  rfl
 obtain ⟨ch,c,many,rfl,hch,fc,hm,q⟩:=h
 obtain ⟨a,bs,rfl,ha,prb⟩:=id hch
 refine ⟨_,(af (dw (i:=2) ["bell"] [] [] rfl f9.nd rfl (Or.inl rfl) (eL (pv 0)) (fun _ _ _ _ _=>(aI (i:=0) (show List.Nodup [("bell":Str)] by decide +kernel) rfl (Or.inl rfl))) (fun _ _ _ _ _=>bV) (fun _ _ _ _ _=>(az C_rule_of_bell hr (by decide) rfl (aa (pv 0) ae))))
  (af (aJ (i:=3) f9.nd rfl (Or.inl rfl) (cD ae))
  (af (cL PassesOwn.never rfl (fz rfl B.range_ (aa (aV cm (pv 1) aj) ae)) (aI (i:=4) f9.nd rfl (Or.inl rfl))
  (ak (aU (aC cF (pv 4) aj (aL _))
  (ak (bp (dh PySem.F.plainAttrs_list PySem.F.slot_list_append PySem.F.type_list_append cz (pv 3) (aa (cJ ["bell"] [] [] rfl (eL (pv 0)) (fun _ _ _ _ _=>(aI (i:=0) (show List.Nodup [("bell":Str)] by decide +kernel) rfl (Or.inl rfl))) (fun _ _ _ _ _=>bV) (fun _ _ _ _ _=>(ar (dF (K:=K) rfl) (pv 0) aj (fun _ _=>rfl)))) ae))))
  (ak (bp (dh PySem.F.plainAttrs_list PySem.F.slot_list_append PySem.F.type_list_append cz (pv 3) (aa (az C_behind hr (by decide) rfl (aa (pv 0) (aa (pv 2) (aa (ar ax (pv 3) (aV iw (pv 4) aj) (fun _ _=>rfl)) ae)))) ae)))))))
  (ak (av (pv 3)))))),?_⟩
 have hbl:=aE prb
 have h6:=fc.1
 refine ⟨_,rfl,a,rfl,⟨_,SqT.of ha⟩,fun r hr0=>?_⟩
 refine dX (K:=K) (a:=a) (xs:=bs) (fun j ys H2=>Same H H2∧Paired (RuleV K ff H2) ys (c.take j)) ⟨ao hr0 _,.nil⟩ (fun j ys H2 _ ⟨z,_⟩=>SqT.of (z _ _ ha)) ?_ ?_
 ·rintro j y ys H2 hj ⟨s2,pr2⟩ hD
  obtain ⟨b,hb,hbv⟩:=aZ prb hj
  have hj6:j<c.length:=(List.getElem?_eq_some_iff.mp hb).1
  refine ⟨rfl,bo ?_⟩
  refine ⟨_,rfl,y,b,rfl,hbv.mono (Same.tup s2),(fc.2 j b hb).2.2.1,fun x H3 s3 hx=>?_⟩
  have hD3:=s3 _ _ hD
  refine ⟨_,hD3,?_,_,⟨(s2.trans s3).upd hr0 _,?_⟩,ah⟩
  ·rw [aE pr2,List.length_take]
   exact aW (by omega)
  ·have up:∀ (v:V) (b:Bell),RuleV K ff H3 v b→RuleV K ff (upd H3 r (.lst (ys++[.ref x]))) v b:=by
    rintro v b ⟨x,rfl,C,dx,hx,z⟩
    refine ⟨x,rfl,C,dx,?_,z⟩
    rw [au (d6 hx hD3 (by intro z; cases z))]
    exact hx
   rw [take_snoc hb]
   exact b8 (up _ _ ⟨x,rfl,hx⟩) (aO (fun _ _ z=>up _ _ (z.same s3)) pr2)
 ·rintro ys H2 ⟨s2,pr2⟩ hD
  rw [hbl,List.take_length] at pr2
  refine ⟨(by show 0≤sizeLine; decide),fun t ht=>?_⟩
  have nt:H t=none:=s2.free ht
  have hru2:RulesAt K ff H2 r c:=⟨ys,hD,pr2⟩
  have s3:Same H2 (upd H2 t (.lst [])):=ao ht _
  have hrt:r≠t:=aG hD ht
  refine ⟨_,rfl,_,_,rfl,rfl,((many+1:Nat):Int),?_,by omega,by omega,?_⟩
  ·rfl
  refine hV (lo:=0) (n:=(((many+1:Nat):Int)).toNat) (fun i σ H3=>∃ (told:List V) (rows:List (List (Option Int))) (o4:Option V),σ=[some (.ref a),some (.int many),some (.ref r),some (.ref t),o4]∧Same H H3∧RulesAt K ff H3 r c∧H3 t=some (.lst told)∧
    Paired (RowAt (fun a=>H a=none∧a≠t) H3) told rows∧rows.length=i∧Rows c rows)
   ⟨[],[],none,rfl,s2.trans s3,hru2.same s3,ah,.nil,rfl,⟨fun _ e=>(nomatch e),fun _ _ _ e=>(nomatch e)⟩⟩ ?_ ?_
  ·rintro i σ H3 hi ⟨told,rows,o4,rfl,s03,hru,ht3,prt,hri,hrows⟩
   have hti:=(aE prt).trans hri
   rw [Int.zero_add]
   have step:∀ (H4:Hp) (n:Addr) (now:List (Option Int)),Same H3 H4→H3 n=none→H4 n=some (.lst (now.map oV))→Rows c (rows++[now])→Same H (upd H4 t (.lst (told++[.ref n])))∧RulesAt K ff (upd H4 t (.lst (told++[.ref n]))) r c∧Paired (RowAt (fun a=>H a=none∧a≠t) (upd H4 t (.lst (told++[.ref n])))) (told++[.ref n]) (rows++[now]):=fun H4 n now s4 hn hn4 hrn=>by
    have hnt:n≠t:=fun e=>by rw [e,ht3] at hn; cases hn
    have ht4:=s4 _ _ ht3
    have up:∀ (v:V) (row:List (Option Int)),RowAt (fun a=>H a=none∧a≠t) H4 v row→RowAt (fun a=>H a=none∧a≠t) (upd H4 t (.lst (told++[.ref n]))) v row:=by
     rintro v row ⟨x,e,⟨x1,x2⟩,x3⟩
     exact ⟨x,e,⟨x1,x2⟩,by rw [au x2]; exact x3⟩
    refine ⟨(s03.trans s4).upd nt _,?_,b8 (up _ _ ⟨n,rfl,⟨s03.free hn,hnt⟩,hn4⟩) (aO (fun _ _ z=>up _ _ (z.same s4)) prt)⟩
    obtain ⟨rs,e,pr⟩:=hru.same s4
    refine ⟨rs,by rw [au hrt]; exact e,aO ?_ pr⟩
    rintro v b ⟨x,rfl,C,dx,hx,z⟩
    refine ⟨x,rfl,C,dx,?_,z⟩
    rw [au (d6 hx ht4 (by intro z; cases z))]
    exact hx
   refine ⟨_,rfl,rfl,_,rfl,?_⟩
   refine du (fun cc=>?_) (fun cc=>?_)
   ·have hi0:i=0:=by
     have e:V.int (i:Int)=V.int 0:=of_decide_eq_true cc
     injection e with e
     omega
    refine ⟨_,rfl,.inl ⟨rfl,_,SqL.of ht3⟩,_,rfl,a,rfl,⟨_,SqT.of (s03 _ _ ha)⟩,fun D hD=>?_⟩
    refine dX (K:=K) (a:=a) (xs:=bs) (fun j ys H4=>Same H3 H4∧ys=((c.take j).map fun b=>some b.start).map oV) ⟨ao hD _,rfl⟩ (fun j ys H4 _ ⟨z,_⟩=>SqT.of ((s03.trans z) _ _ ha)) ?_ ?_
    ·rintro j y ys H4 hj ⟨s4,rfl⟩ hD4
     obtain ⟨b,hb,⟨x,tt,ls,rfl,hx,_⟩⟩:=aZ prb hj
     have hj6:j<c.length:=(List.getElem?_eq_some_iff.mp hb).1
     refine ⟨rfl,bo ?_⟩
     refine ⟨_,rfl,x,_,_,_,rfl,rfl,SqT.of ((s03.trans s4) _ _ hx),rfl,_,hD4,?_,_,⟨s4.upd hD _,rfl⟩,?_⟩
     ·rw [List.length_map,List.length_map,List.length_take]
      exact aW (by omega)
     ·rw [take_snoc hb,List.map_append,List.map_append]
      exact ah
    ·rintro ys H4 ⟨s4,rfl⟩ hD4
     rw [hbl,List.take_length] at hD4
     have hr0:rows=[]:=List.eq_nil_of_length_eq_zero (by omega)
     have hrn:Rows c (rows++[c.map fun b=>some b.start]):=hrows.snoc (fun _=>rfl) (fun x _ h=>by rw [hr0] at h; cases h)
     obtain ⟨z1,z2,z3⟩:=step H4 D _ s4 hD hD4 hrn
     exact ⟨t,_,_,rfl,rfl,s4 _ _ ht3,by rw [hti]; exact wM (by omega),_,_,_,rfl,z1,z2,ah,z3,by rw [List.length_append,hri]; rfl,hrn⟩
   ·have hi1:1≤i:=by
     rcases Nat.eq_zero_or_pos i with e | e
     ·exact absurd (by rw [e]; rfl) cc
     ·exact e
    have hv:=List.getElem?_eq_getElem (show i - 1<told.length by omega)
    obtain ⟨row,hrow,⟨p,ep,_,hp3⟩⟩:=aZ prt hv
    have hat:atI told ((i:Int) - 1)=some (.ref p):=by
     have e:(i:Int) - 1=((i - 1:Nat):Int):=by omega
     rw [e,← ep]
     exact bj hv
    refine ⟨_,rfl,.inl ⟨rfl,_,SqL.of ht3⟩,_,rfl,_,rfl,_,rfl,_,rfl,_,_,rfl,rfl,t,_,_,_,rfl,rfl,SqL.of ht3,hat,.ref a,c,r,p,row,rfl,hch.mono (Same.tup s03),fc,hru,hp3,hrows.len _ _ hrow,fun H4 n now s4 hn hn4 hfix=>?_⟩
    have hrn:Rows c (rows++[now]):=hrows.snoc (fun e=>by rw [e] at hri; exact absurd hri.symm (by show ¬ i=0; omega)) (fun x hx _=>by rw [hri,hrow] at hx; cases hx; exact hfix)
    obtain ⟨z1,z2,z3⟩:=step H4 n now s4 hn hn4 hrn
    exact ⟨t,_,_,rfl,rfl,s4 _ _ ht3,by rw [hti]; exact wM (by omega),_,_,_,rfl,z1,z2,ah,z3,by rw [List.length_append,hri]; rfl,hrn⟩
  ·rintro σ H3 ⟨told,rows,o4,rfl,s03,hru,ht3,prt,hri,hrows⟩
   exact ⟨_,rfl,q H3 t told rows s03 nt ht3 prt (by rw [hri]; omega) hrows⟩
end
end K83.S
namespace K83.S
open PySem L2
def LQ (l0 l1:Lis):Prop:=l0.whom=l1.whom∧l0.back=l1.back∧l0.beats≤l1.beats
def AD (c0 c1:List Bell):Prop:=∀ (k:Nat) b1,c1[k]?=some b1→∃ b0,c0[k]?=some b0∧wants b0=wants b1∧Paired LQ b0.lis b1.lis
theorem gA {α:Type} {F:α→α→Prop} (h:∀ x,F x x):∀ xs:List α,Paired F xs xs
 | []=>.nil
 | x::r=>.cons (h x) (gA h r)
theorem fN {α β:Type} {F:α→β→Prop} {p:α→Bool} {q:β→Bool}:∀ {xs:List α} {ys:List β},Paired F xs ys→(∀ x y,x∈xs→y∈ys→F x y→q y=true→p x=true)→ys.countP q≤xs.countP p
 | _,_,.nil,_=>Nat.le_refl _
 | x::xs,y::ys,.cons r t,h=>by
  have ih:=fN t fun a b ha hb=>h a b (List.mem_cons_of_mem _ ha) (List.mem_cons_of_mem _ hb)
  rw [List.countP_cons,List.countP_cons]
  have h1:=h x y (by simp) (by simp) r
  by_cases hq:q y=true
  ·rw [if_pos hq,if_pos (h1 hq)]
   omega
  ·rw [if_neg hq]
   split <;> omega
theorem kH {o:Option Int} {v:Int} (h:leO o v=true):∃ u,o=some u∧u≤v:=by
 cases o with
 | none=>cases h
 | some u=>exact ⟨u,rfl,of_decide_eq_true h⟩
theorem jB {before now:List (Option Int)} {l:Lis} {u:Int} (h:gm before now l=some u):∃ w,(if l.back then before else now)[l.whom]?=some (some w)∧u=w+l.beats:=by
 unfold gm at h
 cases e:(if l.back then before else now)[l.whom]? with
 | none=>rw [e] at h; cases h
 | some o =>
  rw [e] at h
  cases o with
  | none=>cases h
  | some w=>exact ⟨w,rfl,(Option.some.inj h).symm⟩
theorem sW {before now:List (Option Int)} {l:Lis} {w:Int} (h:(if l.back then before else now)[l.whom]?=some (some w)):gm before now l=some (w+l.beats):=by
 unfold gm
 rw [h]
 rfl
theorem BE {c0 c1:List Bell} (hc:iU c1) (qk:AD c0 c1) {b0 b1 n0 n1:List (Option Int)} (h:∀ (k:Nat) u,b1[k]?=some (some u)→∃ u',b0[k]?=some (some u')∧u'≤u) (f0:Fix c0 b0 n0) (f1:Fix c1 b1 n1) :
  ∀ (k:Nat) v,n1[k]?=some (some v)→∃ v',n0[k]?=some (some v')∧v'≤v:=by
 obtain ⟨B,hB⟩:=low n1
 have all:∀ (n:Nat) (k:Nat) v,v<B+n→n1[k]?=some (some v)→∃ v',n0[k]?=some (some v')∧v'≤v:=by
  intro n
  induction n with
  | zero=>intro k v hv e; have:=hB v (List.mem_of_getElem? e); omega
  | succ n ih =>
   intro k v hv e
   have hk:k<c1.length:=by rw [← f1.1]; exact (List.getElem?_eq_some_iff.mp e).1
   have hb:=List.getElem?_eq_getElem hk
   obtain ⟨o,ho,hd⟩:=f1.2 k _ hb
   rw [e] at ho
   cases ho
   obtain ⟨bb,hb0,hw,hp⟩:=qk k _ hb
   obtain ⟨o',ho',hd'⟩:=f0.2 k _ hb0
   have cn:cnt (aQ c1[k] b1 n1) v≤cnt (aQ bb b0 n0) v:=by
    unfold aQ
    rw [ia,ia]
    refine fN hp fun l0 l1 _ hl1 r hq=>?_
    obtain ⟨r1,r2,r3⟩:=r
    obtain ⟨u,eu,hu⟩:=kH hq
    obtain ⟨w,hw',ew⟩:=jB eu
    have hs:=hc k _ hb l1 hl1
    have:∃ w',(if l0.back then b0 else n0)[l0.whom]?=some (some w')∧w'≤w:=by
     rw [r2,r1]
     cases hbk:l1.back with
     | true=>rw [hbk] at hw'; exact h _ _ hw'
     | false=>rw [hbk] at hw'; exact ih l1.whom w (by omega) hw'
    obtain ⟨w',e',l'⟩:=this
    rw [sW e']
    exact decide_eq_true (by omega)
   rw [hw] at hd'
   obtain ⟨d1,d2⟩:=hd
   cases o' with
   | none =>
    have h1:(tot (aQ bb b0 n0):Int)<wants c1[k]:=hd'
    have:=kA (aQ bb b0 n0) v
    omega
   | some v' =>
    refine ⟨v',ho',?_⟩
    refine Classical.byContradiction fun no=>?_
    have:=gZ (aQ bb b0 n0) (show v≤v' - 1 by omega)
    have:=hd'.2
    omega
 intro k v e
 exact all (v - B+1).toNat k v (by have:=hB v (List.mem_of_getElem? e); omega) e
def later (d:Int) (r:List (Option Int)):List (Option Int):=r.map (Option.map (·+d))
structure Btw (lo hi:Int) (r r':List (Option Int)):Prop where
 len:r.length=r'.length
 le:∀ (k:Nat) v,r'[k]?=some (some v)→∃ u,r[k]?=some (some u)∧u+lo≤v
 ge:∀ (k:Nat) u,r[k]?=some (some u)→∃ v,r'[k]?=some (some v)∧v≤u+hi
end K83.S
namespace K83.S
open PySem L2
theorem A8 {bs:List (Option Int)} {n v:Int} (h:Due bs n (some v)):some v∈bs:=by
 obtain ⟨h1,h2⟩:=h
 refine Classical.byContradiction fun no=>?_
 have:cnt bs v≤cnt bs (v - 1):=List.countP_mono_left fun o ho e=>by
  obtain ⟨u,rfl,hu⟩:=kH e
  have ne:u≠v:=fun z=>no (z▸ho)
  exact decide_eq_true (by omega)
 omega
theorem gD {u v:Int} (h:u<v):∀ {bs:List (Option Int)},some v∈bs→cnt bs u+1≤cnt bs v
 | [],hv=>(nomatch hv)
 | o::r,hv=>by
  have e:∀ x:Int,cnt (o::r) x=cnt r x+if leO o x=true then 1 else 0:=fun x=>List.countP_cons ..
  rw [e u,e v]
  rcases List.mem_cons.mp hv with hv | hv
  ·have a1:leO o v=true:=by rw [← hv]; exact decide_eq_true (Int.le_refl v)
   have a2:¬ leO o u=true:=by
    rw [← hv]
    intro z
    have:=of_decide_eq_true z
    omega
   rw [if_pos a1,if_neg a2]
   have:=gZ r (show u≤v by omega)
   omega
  ·have ih:=gD h hv
   by_cases a:leO o u=true
   ·rw [if_pos a,if_pos (oZ (by omega) a)]
    omega
   ·rw [if_neg a]
    omega
theorem lJ {c:List Bell} {before now:List (Option Int)} (f:Fix c before now) {v:Int} (hv:some v∈now):∃ (b:Bell) (l:Lis) (w:Int),b∈c∧l∈b.lis∧(if l.back then before else now)[l.whom]?=some (some w)∧v=w+l.beats:=by
 obtain ⟨k,hk⟩:=List.getElem?_of_mem hv
 have hkc:k<c.length:=by
  rw [← f.1]
  exact (List.getElem?_eq_some_iff.mp hk).1
 have hb:=List.getElem?_eq_getElem hkc
 obtain ⟨o,ho,hd⟩:=f.2 k _ hb
 rw [hk] at ho
 cases ho
 obtain ⟨l,hl,e⟩:=List.mem_map.mp (A8 hd)
 obtain ⟨w,h1,h2⟩:=jB e
 exact ⟨_,l,w,List.getElem_mem hkc,hl,h1,h2⟩
theorem xu {c:List Bell} {before now:List (Option Int)} (f:Fix c before now) {M:Int} (hM:∀ u,some u∈before→u≤M) (hb:∀ b∈c,∀ l∈b.lis,1≤l.beats∧l.beats≤1000):∀ v,some v∈now→v≤M+1000 * (c.length:Int):=by
 have P:∀ (j:Nat) v,some v∈now→M+1000 * (j:Int)<v→j+1≤cnt now v:=by
  intro j
  induction j with
  | zero=>intro v hv _; have:=gD (u:=v - 1) (by omega) hv; omega
  | succ j ih =>
   intro v hv hlt
   obtain ⟨b,l,w,h1,h2,h3,h4⟩:=lJ f hv
   have h5:=hb b h1 l h2
   cases e:l.back with
   | true =>
    rw [e] at h3
    have:=hM w (List.mem_of_getElem? h3)
    omega
   | false =>
    rw [e] at h3
    have i1:=ih w (List.mem_of_getElem? h3) (by omega)
    have i2:=gD (u:=w) (v:=v) (by omega) hv
    omega
 intro v hv
 refine Classical.byContradiction fun no=>?_
 have a:=P c.length v hv (by omega)
 have b:cnt now v≤now.length:=List.countP_le_length
 have d:=f.1
 omega
theorem tI {c:List Bell} {before now:List (Option Int)} (f:Fix c before now) {L:Int} (hL:∀ u,some u∈before→L≤u) (hb:∀ b∈c,∀ l∈b.lis,1≤l.beats∧l.beats≤1000):∀ v,some v∈now→L≤v:=by
 obtain ⟨B,hB⟩:=low now
 have P:∀ (n:Nat) v,some v∈now→v<B+(n:Int)→L≤v:=by
  intro n
  induction n with
  | zero=>intro v hv h; have:=hB v hv; omega
  | succ n ih =>
   intro v hv h
   obtain ⟨b,l,w,h1,h2,h3,h4⟩:=lJ f hv
   have h5:=hb b h1 l h2
   cases e:l.back with
   | true =>
    rw [e] at h3
    have:=hL w (List.mem_of_getElem? h3)
    omega
   | false =>
    rw [e] at h3
    have:=ih w (List.mem_of_getElem? h3) (by omega)
    omega
 intro v hv
 exact P (v - B+1).toNat v hv (by omega)
theorem lj {c:List Bell} {rows:List (List (Option Int))} (h:Rows c rows) (c6:c.length≤6) (hs:∀ b∈c,0≤b.start∧b.start≤1000) (hb:∀ b∈c,∀ l∈b.lis,1≤l.beats∧l.beats≤1000):∀ (n:Nat) row,rows[n]?=some row→∀ v,some v∈row→0≤v∧v≤1000+6000 * (n:Int)
 | 0,row,e,v,hv=>by
  rw [h.first row e] at hv
  obtain ⟨b,hm,q⟩:=List.mem_map.mp hv
  have:=hs b hm
  have e2:=Option.some.inj q
  omega
 | n+1,row,e,v,hv=>by
  have hn:n<rows.length:=by
   have:=(List.getElem?_eq_some_iff.mp e).1
   omega
  have hr:=List.getElem?_eq_getElem hn
  have f:=h.next n _ row hr e
  have ih:=lj h c6 hs hb n _ hr
  have a:=tI f (L:=0) (fun u hu=>(ih u hu).1) hb v hv
  have b:=xu f (M:=1000+6000 * (n:Int)) (fun u hu=>(ih u hu).2) hb v hv
  omega
theorem hU {n:Int} (h:n.natAbs<2 ^ 64):n.natAbs.log2<1920:=by
 by_cases e:n.natAbs=0
 ·rw [e]
  decide
 ·exact Nat.lt_of_lt_of_le (Nat.log2_lt e |>.mpr h) (by decide)
end K83.S
namespace K83.S
open PySem L2
def qO:List (Str×Str):=[("drop","c"),("show","c"),("stroke","cbn"),("waits","c"),("pace","cb"),("ring","cb"),("round","cn"),("alike","ccnb"),("slow","cbnn"),("join","ccc")]
def jC:List (Key×V):=qO.map fun z=>((Sum.inr z.1:Key),V.str z.2)
theorem AG:("n":Str)=⟨#[110]⟩:=by decide +kernel
section
variable {P:Program} {w:World} {K:PySem.W.Frag} {mg:Str→Option Value} {base:Heap} {f:Addr} {fd:FuncData}
def i4:Sp:=fun vs H Q _=>∃ (ch:V) (c:List Bell) (i:Nat) (b:Bell),vs=[ch,.str b.name]∧ChoirAt H ch c∧c.length≤6∧c[i]?=some b∧(c.map (·.name)).Nodup∧∀ H',Same H H'→Q (.int (i:Int)) H'
theorem lu:FnScope ["choir","name","number","bell"] ["choir","name"] (aq iL):=⟨rfl,rfl,rfl,by decide +kernel,rfl,by decide +kernel,by decide +kernel⟩
theorem yG (F:Fun K "place_of" "place_of" iL f fd) (B:Blt mg):FnOk P w K mg base CX0 1 f fd ["choir","name"] i4:=by
 refine F.ok lu (fun vs H Q E h=>?_) (fun cdv A outer s H vs Q E hr h=>?_)
 ·obtain ⟨ch,c,i,b,rfl,_⟩:=h
  rfl
 obtain ⟨ch,c,i0,b0,rfl,⟨a,bs,rfl,ha,prb⟩,h6,hi0,nd,q⟩:=h
 refine ⟨_,(af (cL PassesOwn.never rfl (kT rfl B.enumerate_ (aa (pv 0) ae)) (fV rfl (bg (aI (i:=2) lu.nd rfl (Or.inl rfl)) (bg (aI (i:=3) lu.nd rfl (Or.inl rfl)) d9)))
  (ak (aU (aC cF (ar aP (pv 3) aj (fun _ _=>rfl)) (pv 1) (aL _))
  (ak (av (pv 2)))
  aw)))
  aH),?_⟩
 have hbl:=aE prb
 have at0:(c.map (·.name))[i0]?=some b0.name:=by rw [List.getElem?_map,hi0]; rfl
 refine ⟨_,rfl,a,rfl,⟨_,SqT.of ha⟩,js (K:=K) (a:=a) (xs:=bs) (fun i σ H2=>∃ (o2 o3:Option V),σ=[some (.ref a),some (.str b0.name),o2,o3]∧Same H H2∧∀ (j:Nat) b',j<i→c[j]?=some b'→b'.name≠b0.name)
  ⟨none,none,rfl,.refl H,fun j b' hj=>absurd hj (Nat.not_lt_zero j)⟩ (fun i σ H2 _ ⟨_,_,_,s2,_⟩=>SqT.of (s2 _ _ ha)) ?_ ?_⟩
 ·rintro i y σ H2 T hi ⟨o2,o3,rfl,s2,no⟩ hT
  obtain ⟨b,hb,⟨x,t,ls,rfl,hx,ht,prl⟩⟩:=aZ prb hi
  have s3:Same H2 (upd H2 T (.tup [.int (i:Int),.ref x])):=ao hT _
  have s23:=s2.trans s3
  have eT:(upd H2 T (.tup [.int (i:Int),.ref x])) T=some (.tup [.int (i:Int),.ref x]):=ah
  refine ⟨T,_,rfl,SqT.of eT,rfl,_,_,rfl,_,_,rfl,rfl,?_⟩
  refine ⟨_,rfl,x,_,_,_,rfl,rfl,SqT.of (s23 _ _ hx),rfl,?_⟩
  refine ⟨_,rfl,rfl,_,rfl,?_⟩
  refine du (fun cc=>?_) (fun cc=>?_)
  ·have e:V.str b.name=V.str b0.name:=of_decide_eq_true cc
   injection e with e
   have ai:(c.map (·.name))[i]?=some b0.name:=by rw [List.getElem?_map,hb,← e]; rfl
   have ei:i=i0:=(List.getElem?_inj (List.getElem?_eq_some_iff.mp ai).1 nd).mp (ai.trans at0.symm)
   subst ei
   exact ⟨_,rfl,q _ s23⟩
  ·refine ⟨_,_,rfl,s23,fun j b' hj hb'=>?_⟩
   rcases Nat.lt_succ_iff_lt_or_eq.mp hj with hlt | rfl
   ·exact no j b' hlt hb'
   ·rw [hb] at hb'
    cases hb'
    exact fun e=>cc (decide_eq_true (congrArg V.str e))
 ·rintro σ H2 ⟨o2,o3,rfl,s2,no⟩
  exact absurd rfl (no i0 b0 (by rw [hbl]; exact (List.getElem?_eq_some_iff.mp hi0).1) hi0)
def oh:Sp:=fun vs H Q _=>∃ (l:Addr) (ws:List Str) (h0 fm:Str),vs=[.ref l]∧H l=some (.lst (ws.map V.str))∧ws[0]?=some h0∧bQ jC (Sum.inr h0)=some (.str fm)∧h0≠"alike"∧Q (.str fm) H
theorem tw:FnScope ["words","form"] ["words"] (aq jP):=⟨rfl,rfl,rfl,by decide +kernel,rfl,by decide +kernel,by decide +kernel⟩
theorem bO {ws:List Str} {h0:Str} (h:ws[0]?=some h0):atI (ws.map V.str) 0=some (.str h0):=bj (j:=0) (by rw [List.getElem?_map,h]; rfl)
theorem y8 {aF:Addr} (F:Fun K "form_of" "form_of" jP f fd) (mF:mg "FORMS"=some (.ref aF)) (kF:qQ P w K aF jC):FnOk P w K mg base CX0 1 f fd ["words"] oh:=by
 refine F.ok tw (fun vs H Q E h=>?_) (fun cdv A outer s H vs Q E hr h=>?_)
 ·obtain ⟨l,ws,h0,fm,rfl,_⟩:=h
  rfl
 obtain ⟨l,ws,h0,fm,rfl,hl,e0,hv,na,q⟩:=h
 refine ⟨_,(af (aU (xW (uy kF (ar ax (pv 0) aj (fun _ _=>rfl)) (cv (v:=.ref aF) rfl mF rfl)))
  aH
  aw)
  (af (aJ (i:=1) tw.nd rfl (Or.inl rfl) (zC kF (cv (v:=.ref aF) rfl mF rfl) (ar ax (pv 0) aj (fun _ _=>rfl)) (fun _ _=>rfl)))
  (af (aU (aC cF (ar ax (pv 0) aj (fun _ _=>rfl)) aB (aL _))
  aH
  aw)
  (ak (av (pv 1)))))),?_⟩
 have T0:SqL K H l (ws.map V.str):=SqL.of hl
 refine ⟨_,rfl,l,_,_,_,rfl,rfl,T0,bO e0,Sum.inr h0,rfl,rfl,_,rfl,?_⟩
 rw [hv]
 refine bh ?_
 refine ⟨_,rfl,l,_,_,_,rfl,rfl,T0,bO e0,Sum.inr h0,_,rfl,rfl,hv,?_⟩
 refine ⟨_,rfl,l,_,_,_,rfl,rfl,T0,bO e0,rfl,_,rfl,?_⟩
 rw [decide_eq_false (show ¬ (V.str h0=V.str "alike") from fun z=>na (by injection z))]
 exact bh ⟨_,rfl,q⟩
def sv (fm:Str) (ws:List Str):Prop:=ws.length=fm.length+1∧fm.cps.all (·<128)=true∧∀ (i:Nat) c z,fm.cps[i]?=some c→ws[i+1]?=some z→z.length≤1000∧(c=110→d5 z 4=true)∧(c≠110→a9 z=true)
def rD:Sp:=fun vs H Q _=>∃ (l:Addr) (ws:List Str) (h0 fm:Str),vs=[.ref l]∧H l=some (.lst (ws.map V.str))∧ws[0]?=some h0∧bQ jC (Sum.inr h0)=some (.str fm)∧h0≠"alike"∧sv fm ws∧ws.length≤100∧∀ H',Same H H'→Q .non H'
theorem kK:FnScope ["words","form","sort","word","good"] ["words"] (aq cH):=⟨rfl,rfl,rfl,by decide +kernel,rfl,by decide +kernel,by decide +kernel⟩
theorem zF (ws:List Str) (h:1≤ws.length):eM (ws.map V.str) (some 1) none=(ws.drop 1).map V.str:=by
 unfold eM
 rw [show (1:Int)=((1:Nat):Int) from rfl,HT.i5,HT.fD,List.length_map,Nat.min_eq_left h,← List.map_drop]
 exact List.take_of_length_le (by rw [List.length_map,List.length_drop]; omega)
theorem A0 {tM:Tok} (F:Fun K "refuse_wrong_words" "refuse_wrong_words" cH f fd) (B:Blt mg) (mM:mg "MOST_FIGURES_desk"=some (.int 4 tM)) (C_form:Cal P w K mg base 1 "form_of" ["words"] oh) (C_writ:Cal P w K mg base 1 "is_written_whole" ["text","most_figures"] km) (C_word:Cal P w K mg base 1 "is_word" ["thing"] ja) :
  FnOk P w K mg base CX0 2 f fd ["words"] rD:=by
 refine F.ok kK (fun vs H Q E h=>?_) (fun cdv A outer s H vs Q E hr h=>?_)
 ·obtain ⟨l,ws,h0,fm,rfl,_⟩:=h
  rfl
 obtain ⟨l,ws,h0,fm,rfl,hl,e0,hv,na,⟨wl,asc,wok⟩,w100,q⟩:=h
 refine ⟨_,(af (aJ (i:=1) kK.nd rfl (Or.inl rfl) (az C_form hr (by decide) rfl (aa (pv 0) ae)))
  (af (aU (aC je (aV iw (ay aM rfl B.len_ PySem.boot_len (aa (pv 0) ae)) aj) (ay fP rfl B.len_ PySem.boot_len (aa (pv 1) ae)) (aL _))
  aH
  aw)
  (ak (cL PassesOwn.never rfl (zc rfl B.zip_ (aa (pv 1) (aa (eI kn (pv 0) (fK aj) gg) ae))) (fV rfl (bg (aI (i:=2) kK.nd rfl (Or.inl rfl)) (bg (aI (i:=3) kK.nd rfl (Or.inl rfl)) d9)))
  (af (aJ (i:=4) kK.nd rfl (Or.inl rfl) (jk (aC cF (pv 2) aB (aL _)) (az C_writ hr (by decide) rfl (aa (pv 3) (aa (cv (v:=.int 4) rfl mM ⟨tM,rfl⟩) ae))) (az C_word hr (by decide) rfl (aa (pv 3) ae))))
  (ak (aU (bw (bG (pv 4)))
  aH
  aw))))))),?_⟩
 refine ⟨_,rfl,l,ws,h0,fm,rfl,hl,e0,hv,na,?_⟩
 have fl:fm.length≤100:=by omega
 refine ⟨_,rfl,l,_,rfl,.inl (SqL.of hl),_,_,rfl,rfl,_,rfl,fm,rfl,(by rw [sizeLine_eq]; omega),rfl,_,rfl,du (fun cc=>?_) (fun _=>?_)⟩
 ·have ec:((((ws.map V.str).length:Nat):Int) - 1)=((fm.length:Nat):Int):=by rw [List.length_map]; omega
  have c2:(!decide (V.int ((((ws.map V.str).length:Nat):Int) - 1)=V.int ((fm.length:Nat):Int)))=true:=cc
  rw [ec] at c2
  simp at c2
 refine ⟨_,rfl,_,rfl,_,rfl,l,_,rfl,SqL.of hl,fun p hp=>?_⟩
 rw [zF ws (by omega)]
 have s1:=ao hp (.lst ((ws.drop 1).map V.str))
 have hp1:(upd H p (.lst ((ws.drop 1).map V.str))) p=some (.lst ((ws.drop 1).map V.str)):=ah
 generalize upd H p (.lst ((ws.drop 1).map V.str))=H1 at s1 hp1 ⊢
 have tl:=bq fm
 have zs:fm.cps.size=((ws.drop 1).map V.str).length:=by
  rw [List.length_map,List.length_drop,wl]
  show fm.length=_
  omega
 refine ⟨fm,p,rfl,asc,⟨_,SqL.of hp1⟩,yt (K:=K) (z:=fm) (b:=p) (ys:=(ws.drop 1).map V.str) (fun i σ H2=>∃ (o2 o3 o4:Option V),σ=[some (.ref l),some (.str fm),o2,o3,o4]∧Same H1 H2)
  ⟨none,none,none,rfl,.refl H1⟩ zs (fun i σ H2 _ ⟨_,_,_,_,z⟩=>SqL.of (z _ _ hp1)) ?_ ?_⟩
 ·rintro i c y σ H2 T hc hy ⟨o2,o3,o4,rfl,s2⟩ hT
  rw [List.getElem?_map,List.getElem?_drop] at hy
  obtain ⟨z,hz,rfl⟩:=Option.map_eq_some_iff.mp hy
  rw [Nat.add_comm] at hz
  obtain ⟨z1000,zn,zw⟩:=wok i c z hc hz
  have s3:=ao hT (.tup [sgn c,.str z])
  have eT:(upd H2 T (.tup [sgn c,.str z])) T=some (.tup [sgn c,.str z]):=ah
  generalize upd H2 T (.tup [sgn c,.str z])=H3 at s3 eT ⊢
  have s13:=s2.trans s3
  refine ⟨T,_,rfl,SqT.of eT,rfl,_,_,rfl,_,_,rfl,rfl,?_⟩
  refine ⟨_,rfl,rfl,_,rfl,du (fun cc=>?_) (fun cc=>?_)⟩
  ·have e:V.str ⟨#[c]⟩=V.str "n":=of_decide_eq_true cc
   injection e with e
   rw [AG] at e
   have ec:c=110:=by
    have:=congrArg (fun x:Str=>x.cps.toList) e
    exact List.head_eq_of_cons_eq this
   refine ⟨_,rfl,z,4,rfl,z1000,fun H4 s4=>?_⟩
   rw [zn ec]
   exact ⟨_,rfl,_,rfl,bh ⟨_,_,_,rfl,s13.trans s4⟩⟩
  ·have ec:c≠110:=fun e=>cc (decide_eq_true (by rw [e,AG]; rfl))
   refine ⟨_,rfl,.str z,.str z,rfl,⟨rfl,z1000⟩,fun H4 s4=>?_⟩
   have ew:mV (.str z)=true:=zw ec
   rw [ew]
   exact ⟨_,rfl,_,rfl,bh ⟨_,_,_,rfl,s13.trans s4⟩⟩
 ·rintro σ H2 ⟨o2,o3,o4,rfl,s2⟩
  exact q H2 (s1.trans s2)
def jO:Sp:=fun vs H Q _=>∃ n lo hi:Int,vs=[.int n,.int lo,.int hi]∧lo≤n∧n≤hi∧Q .non H
theorem ur:FnScope ["number","least","most"] ["number","least","most"] (aq d4):=⟨rfl,rfl,rfl,by decide +kernel,rfl,by decide +kernel,by decide +kernel⟩
theorem um (F:Fun K "refuse_beyond" "refuse_beyond" d4 f fd) (C_within:Cal P w K mg base 2 "is_whole_within" ["thing","least","most"] eg):FnOk P w K mg base CX0 3 f fd ["number","least","most"] jO:=by
 refine F.ok ur (fun vs H Q E h=>?_) (fun cdv A outer s H vs Q E hr h=>?_)
 ·obtain ⟨n,lo,hi,rfl,_⟩:=h
  rfl
 obtain ⟨n,lo,hi,rfl,h1,h2,q⟩:=h
 refine ⟨_,(ak (aU (bw (bG (az C_within hr (by decide) rfl (aa (pv 0) (aa (pv 1) (aa (pv 2) ae))))))
  aH
  aw)),?_⟩
 refine ⟨_,rfl,_,rfl,_,rfl,.int n,.int n,lo,hi,rfl,rfl,?_⟩
 rw [jN h1 h2]
 exact ⟨_,rfl,bh q⟩
end
end K83.S
namespace K83.S
open PySem L2
def fE:Option Int→Str
 | none=>"never"
 | some v=>aK v
def c8 (c:List Bell) (n i:Nat) (o:Option Int):Prop:=∃ rows row,Rows c rows∧rows.length=n+1∧rows[n]?=some row∧row[i]?=some o
theorem wB {c:List Bell} (hc:iU c) {n i:Nat} {o o':Option Int} (h:c8 c n i o) (h':c8 c n i o'):o=o':=by
 obtain ⟨rows,row,h1,h2,h3,h4⟩:=h
 obtain ⟨rows',row',g1,g2,g3,g4⟩:=h'
 rw [Rows.unique hc h1 g1 (by omega)] at h3
 rw [h3] at g3
 cases g3
 exact Option.some.inj (h4.symm.trans g4)
theorem hZ {c:List Bell} (g:GoodC c):Fine c:=⟨g.c6,fun k b hb=>by
 have h:=g.gb b (List.mem_of_getElem? hb)
 have:=h.n6
 exact ⟨h.n1,by omega,h.r,fun l hl=>⟨(h.l l hl).1,(h.l l hl).2.1⟩⟩⟩
theorem qA {c:List Bell} (g:GoodC c):∀ b∈c,0≤b.start∧b.start≤1000:=fun b hb=>⟨(g.gb b hb).s0,(g.gb b hb).s1⟩
theorem rP {c:List Bell} (g:GoodC c):∀ b∈c,∀ l∈b.lis,1≤l.beats∧l.beats≤1000:=fun b hb l hl=>⟨((g.gb b hb).l l hl).2.1,((g.gb b hb).l l hl).2.2.1⟩
theorem lq {sep:Str} {ss:List Str} (hs:sep.length≤5) (hl:ss.length≤100) (h:∀ z∈ss,z.length≤1000):JoinOk sep ss=true:=by
 have h2:=StrLaws.sumLen_le _ h
 refine PyProof.Rows.joinOk_of ?_
 have:ss.length * sep.length≤100 * 5:=Nat.mul_le_mul hl hs
 have:ss.length * 1000≤100 * 1000:=Nat.mul_le_mul_right 1000 hl
 omega
theorem nJ:(" ":Str).length=1:=by decide +kernel
section
variable {P:Program} {w:World} {K:PySem.W.Frag} {mg:Str→Option Value} {base:Heap} {f:Addr} {fd:FuncData}
def iB:Sp:=fun vs H Q _=>∃ (ch:V) (c:List Bell) (i n:Nat),vs=[ch,.int (i:Int),.int (n:Int)]∧ChoirAt H ch c∧GoodC c∧i<c.length∧n≤2000∧∀ (H':Hp) (o:Option Int),Same H H'→c8 c n i o→Q (.str (fE o)) H'
theorem k9:FnScope ["choir","bell","n","beat"] ["choir","bell","n"] (aq eX):=⟨rfl,rfl,rfl,by decide +kernel,rfl,by decide +kernel,by decide +kernel⟩
theorem rC {tS:Tok} (F:Fun K "tell_stroke" "tell_stroke" eX f fd) (B:Blt mg) (mS:mg "MOST_STROKES"=some (.int 2000 tS)) (C_beyond:Cal P w K mg base 3 "refuse_beyond_desk" ["number","least","most"] jO) (C_strokes:Cal P w K mg base 7 "strokes" ["choir","many"] iM):FnOk P w K mg base CX0 8 f fd ["choir","bell","n"] iB:=by
 refine F.ok k9 (fun vs H Q E h=>?_) (fun cdv A outer s H vs Q E hr h=>?_)
 ·obtain ⟨ch,c,i,n,rfl,_⟩:=h
  rfl
 obtain ⟨ch,c,i,n,rfl,hch,g,hi,hn,q⟩:=h
 refine ⟨_,(af (bp (az C_beyond hr (by decide) rfl (aa (pv 2) (aa aj (aa (cv (v:=.int 2000) rfl mS ⟨tS,rfl⟩) ae)))))
  (af (aJ (i:=3) k9.nd rfl (Or.inl rfl) (ar ax (ar ax (az C_strokes hr (by decide) rfl (aa (pv 0) (aa (pv 2) ae))) (pv 2) (fun _ _=>rfl)) (pv 1) (fun _ _=>rfl)))
  (ak (av (jk (aC om (pv 3) c9 (aL _)) aB (aX cZ rfl B.str_ PyProof.Rows.boot_str (aa (pv 3) ae))))))),?_⟩
 refine ⟨_,rfl,n,0,2000,rfl,by omega,by omega,?_⟩
 refine ⟨_,rfl,_,rfl,ch,c,n,rfl,hch,hZ g,by omega,fun H1 t told rows s1 t0 ht prt hlr hrows=>?_⟩
 obtain ⟨row,hrow⟩:∃ row,rows[n]?=some row:=⟨_,List.getElem?_eq_getElem (show n<rows.length by omega)⟩
 obtain ⟨v,hv,x,rfl,_,hx⟩:=dE prt hrow
 have hlen:=hrows.len n _ hrow
 obtain ⟨o,hcell⟩:∃ o,row[i]?=some o:=⟨_,List.getElem?_eq_getElem (show i<row.length by omega)⟩
 refine ⟨_,rfl,t,_,_,_,rfl,rfl,SqL.of ht,bj hv,_,rfl,x,_,_,_,rfl,rfl,SqL.of hx,bj (by rw [List.getElem?_map,hcell]; rfl),?_⟩
 refine ⟨_,rfl,rfl,_,rfl,?_⟩
 have hs:c8 c n i o:=⟨rows,row,hrows,hlr,hrow,hcell⟩
 cases o with
 | none=>exact bf (q H1 none s1 hs)
 | some u =>
  have b:=lj hrows g.c6 (qA g) (rP g) n row hrow u (List.mem_of_getElem? hcell)
  exact bh ⟨_,rfl,.inr (.inr ⟨u,rfl,hU (by omega),q H1 (some u) s1 hs⟩)⟩
end
end K83.S
namespace K83.S
open PySem L2
theorem A3 {xs:List V} {p:Nat} (h:p≤xs.length):eM xs none (some (p:Int))=xs.take p:=by
 unfold eM
 rw [HT.fD,HT.i5,Nat.min_eq_left h,List.drop_zero,Nat.sub_zero]
theorem BM {xs:List V} {p:Nat} (h:p≤xs.length):eM xs (some (p:Int)) none=xs.drop p:=by
 unfold eM
 rw [HT.fD,HT.i5,Nat.min_eq_left h]
 exact List.take_of_length_le (by rw [List.length_drop]; omega)
theorem zx {xs:List V} {p:Nat} {x:V} (h:p<xs.length):xs.take p++[x]++xs.drop (p+1)=xs.set p x:=by
 rw [List.set_eq_take_append_cons_drop,if_pos h,List.append_assoc]
 rfl
structure SlowAt (c:List Bell) (b p:Nat) (m:Int) (bl:Bell) (l:Lis):Prop where
 hb:c[b]?=some bl
 hp:bl.lis[p]?=some l
 m0:0≤m
 m1:l.beats+m≤1000
def wG (l:Lis) (m:Int):Lis:=⟨l.whom,l.beats+m,l.back⟩
def xH (bl:Bell) (p:Nat) (l:Lis) (m:Int):Bell:=⟨bl.name,bl.start,bl.rule,bl.lis.set p (wG l m)⟩
def bz (c:List Bell) (b p:Nat) (m:Int) (bl:Bell) (l:Lis):List Bell:=c.set b (xH bl p l m)
theorem iD {α β:Type} {F:α→β→Prop} {x:α} {y:β} (h:F x y):∀ {xs:List α} {ys:List β} (i:Nat),Paired F xs ys→Paired F (xs.set i x) (ys.set i y)
 | _,_,_,.nil=>.nil
 | _,_,0,.cons _ t=>.cons h t
 | _,_,i+1,.cons r t=>.cons r (iD h i t)
section
variable {P:Program} {w:World} {K:PySem.W.Frag} {mg:Str→Option Value} {base:Heap} {f:Addr} {fd:FuncData}
def iC:Sp:=fun vs H Q _=>∃ i hi:Int,vs=[.int i,.int hi]∧0≤i∧i≤hi∧Q .non H
theorem qz:FnScope ["number","most"] ["number","most"] (aq cy):=⟨rfl,rfl,rfl,by decide +kernel,rfl,by decide +kernel,by decide +kernel⟩
theorem qB (F:Fun K "refuse_beyond" "refuse_beyond" cy f fd) (C_within:Cal P w K mg base 2 "is_whole_within" ["thing","least","most"] eg):FnOk P w K mg base CX0 3 f fd ["number","most"] iC:=by
 refine F.ok qz (fun vs H Q E h=>?_) (fun cdv A outer s H vs Q E hr h=>?_)
 ·obtain ⟨i,hi,rfl,_⟩:=h
  rfl
 obtain ⟨i,hi,rfl,h0,h1,q⟩:=h
 refine ⟨_,(ak (aU (bw (bG (az C_within hr (by decide) rfl (aa (pv 0) (aa aj (aa (pv 1) ae))))))
  aH
  aw)),?_⟩
 refine ⟨_,rfl,_,rfl,.int i,.int i,0,hi,rfl,rfl,?_⟩
 rw [jN h0 h1]
 exact ⟨_,rfl,bh q⟩
def lE:Sp:=fun vs H Q _=>∃ (a:Addr) (xs:List V) (p:Nat) (x:V),vs=[.ref a,.int p,x]∧H a=some (.tup xs)∧p<xs.length∧xs.length≤6∧∀ r H',Same H H'→H' r=some (.tup (xs.set p x))→Q (.ref r) H'
theorem v9:FnScope ["things","place","thing"] ["things","place","thing"] (aq gi):=⟨rfl,rfl,rfl,by decide +kernel,rfl,by decide +kernel,by decide +kernel⟩
theorem yz (F:Fun K "with_other" "with_other" gi f fd):FnOk P w K mg base CX0 1 f fd ["things","place","thing"] lE:=by
 refine F.ok v9 (fun vs H Q E h=>?_) (fun cdv A outer s H vs Q E hr h=>?_)
 ·obtain ⟨a,xs,p,x,rfl,_⟩:=h
  rfl
 obtain ⟨a,xs,p,x,rfl,ha,hp,h6,q⟩:=h
 refine ⟨_,(ak (av (aV nH (aV nH (eI sI (pv 0) gg (fK (pv 1))) (dZ (aa (pv 2) ae))) (eI sI (pv 0) (fK (aV cm (pv 1) aj)) gg)))),?_⟩
 refine ⟨_,rfl,_,rfl,_,rfl,a,xs,rfl,ha,fun p1 H1 s1 hp1=>?_⟩
 rw [A3 (Nat.le_of_lt hp)] at hp1
 refine ⟨_,rfl,(by show 1≤sizeLine; decide),fun t1 ht1=>?_⟩
 have v1:=ao ht1 (.tup [x])
 refine ⟨p1,t1,_,_,rfl,rfl,v1 _ _ hp1,ah,(by rw [List.length_take,sizeLine_eq]; show _+1≤_; omega),fun p2 H2 s2 hp2=>?_⟩
 have s02:=s1.trans (v1.trans s2)
 refine ⟨_,rfl,_,rfl,_,_,rfl,rfl,_,rfl,a,xs,rfl,s02 _ _ ha,fun p3 H3 s3 hp3=>?_⟩
 rw [show (p:Int)+1=((p+1:Nat):Int) by omega,BM hp] at hp3
 refine ⟨p2,p3,_,_,rfl,rfl,s3 _ _ hp2,hp3,(by rw [List.length_append,List.length_take,List.length_drop,sizeLine_eq]; show _+1+_≤_; omega),fun p4 H4 s4 hp4=>?_⟩
 rw [zx hp] at hp4
 exact q p4 H4 (s02.trans (s3.trans s4)) hp4
def jq:Sp:=fun vs H Q _=>∃ (ch:V) (c:List Bell) (b p:Nat) (m:Int) (bl:Bell) (l:Lis),vs=[ch,.int b,.int p,.int m]∧ChoirAt H ch c∧c.length≤6∧(∀ bl∈c,bl.lis.length≤6)∧SlowAt c b p m bl l∧∀ v H',Same H H'→ChoirAt H' v (bz c b p m bl l)→Q v H'
theorem hW:FnScope ["choir","bell","place","more","listenings","listening","slower"] ["choir","bell","place","more"] (aq eW):=⟨rfl,rfl,rfl,by decide +kernel,rfl,by decide +kernel,by decide +kernel⟩
theorem uF {tM:Tok} (F:Fun K "made_slower" "made_slower" eW f fd) (B:Blt mg) (mM:mg "MOST_BEATS"=some (.int 1000 tM)) (C_beyond:Cal P w K mg base 3 "refuse_beyond_slower" ["number","most"] iC) (C_other:Cal P w K mg base 1 "with_other" ["things","place","thing"] lE) :
  FnOk P w K mg base CX0 4 f fd ["choir","bell","place","more"] jq:=by
 refine F.ok hW (fun vs H Q E h=>?_) (fun cdv A outer s H vs Q E hr h=>?_)
 ·obtain ⟨ch,c,b,p,m,bl,l,rfl,_⟩:=h
  rfl
 obtain ⟨ch,c,b,p,m,bl,l,rfl,⟨a,vs,rfl,ha,pr⟩,c6,l6,S,q⟩:=h
 refine ⟨_,(af (bp (az C_beyond hr (by decide) rfl (aa (pv 1) (aa (aV iw (ay aM rfl B.len_ PySem.boot_len (aa (pv 0) ae)) aj) ae))))
  (af (aJ (i:=4) hW.nd rfl (Or.inl rfl) (ar aP (ar aP (pv 0) (pv 1) (fun _ _=>rfl)) aj (fun _ _=>rfl)))
  (af (bp (az C_beyond hr (by decide) rfl (aa (pv 2) (aa (aV iw (ay aM rfl B.len_ PySem.boot_len (aa (pv 4) ae)) aj) ae))))
  (af (aJ (i:=5) hW.nd rfl (Or.inl rfl) (ar aP (pv 4) (pv 2) (fun _ _=>rfl)))
  (af (bp (az C_beyond hr (by decide) rfl (aa (pv 3) (aa (aV iw (cv (v:=.int 1000) rfl mM ⟨tM,rfl⟩) (ar aP (pv 5) aj (fun _ _=>rfl))) ae))))
  (af (aJ (i:=6) hW.nd rfl (Or.inl rfl) (dZ (aa (ar aP (pv 5) aj (fun _ _=>rfl)) (aa (aV cm (ar aP (pv 5) aj (fun _ _=>rfl)) (pv 3)) (aa (ar aP (pv 5) aj (fun _ _=>rfl)) ae)))))
  (ak (av (az C_other hr (by decide) rfl (aa (pv 0) (aa (pv 1) (aa (az C_other hr (by decide) rfl (aa (ar aP (pv 0) (pv 1) (fun _ _=>rfl)) (aa aj (aa (az C_other hr (by decide) rfl (aa (pv 4) (aa (pv 2) (aa (pv 6) ae)))) ae)))) ae)))))))))))),?_⟩
 have hvl:=aE pr
 have hb:=S.hb
 have hp:=S.hp
 have m0:=S.m0
 have m1:=S.m1
 have hbc:=(List.getElem?_eq_some_iff.mp hb).1
 have hbv:b<vs.length:=by omega
 obtain ⟨bl',hb',⟨ba,t,ls,ev,hba,ht,prl⟩⟩:=aZ pr (List.getElem?_eq_getElem hbv)
 obtain rfl:bl=bl':=Option.some.inj (hb.symm.trans hb')
 have hv:vs[b]?=some (.ref ba):=by rw [List.getElem?_eq_getElem hbv,ev]
 have hll:=aE prl
 have hbl6:=l6 bl (List.mem_of_getElem? hb)
 have hpl:=(List.getElem?_eq_some_iff.mp hp).1
 have hpv:p<ls.length:=by omega
 obtain ⟨l',hl',⟨la,el,hla⟩⟩:=aZ prl (List.getElem?_eq_getElem hpv)
 obtain rfl:l=l':=Option.some.inj (hp.symm.trans hl')
 have hlv:ls[p]?=some (.ref la):=by rw [List.getElem?_eq_getElem hpv,el]
 refine ⟨_,rfl,_,rfl,a,_,rfl,.inr (SqT.of ha),_,_,rfl,rfl,_,_,rfl,by omega,by omega,?_⟩
 refine ⟨_,rfl,_,rfl,a,_,_,_,rfl,rfl,SqT.of ha,bj hv,ba,_,_,_,rfl,rfl,SqT.of hba,rfl,?_⟩
 refine ⟨_,rfl,_,rfl,t,_,rfl,.inr (SqT.of ht),_,_,rfl,rfl,_,_,rfl,by omega,by omega,?_⟩
 refine ⟨_,rfl,_,rfl,t,_,_,_,rfl,rfl,SqT.of ht,bj hlv,?_⟩
 refine ⟨_,rfl,_,rfl,la,_,_,_,rfl,rfl,SqT.of hla,rfl,_,_,rfl,rfl,_,_,rfl,m0,by omega,?_⟩
 refine ⟨_,rfl,la,_,_,_,rfl,rfl,SqT.of hla,rfl,_,rfl,la,_,_,_,rfl,rfl,SqT.of hla,rfl,_,rfl,_,_,rfl,rfl,_,rfl,la,_,_,_,rfl,rfl,SqT.of hla,rfl,(by show 3≤sizeLine; decide),fun sl hsl=>?_⟩
 have hsl1:(upd H sl (.tup [.int l.whom,.int (l.beats+m),.int (if l.back then 1 else 0)])) sl=some (.tup (AQ (wG l m))):=ah
 have s1:=ao hsl (.tup [.int l.whom,.int (l.beats+m),.int (if l.back then 1 else 0)])
 refine ⟨_,rfl,_,rfl,_,rfl,_,rfl,a,_,_,_,rfl,rfl,SqT.of (s1 _ _ ha),bj hv,_,rfl,_,rfl,_,rfl,t,ls,p,_,rfl,s1 _ _ ht,hpv,by omega,fun r1 H1 s2 hr1=>?_⟩
 have s02:=s1.trans s2
 refine ⟨ba,_,3,_,rfl,s02 _ _ hba,(by show 3<4; decide),(by show 4≤6; decide),fun r2 H2 s3 hr2=>?_⟩
 have s03:=s02.trans s3
 refine ⟨a,vs,b,_,rfl,s03 _ _ ha,hbv,by omega,fun r3 H3 s4 hr3=>?_⟩
 have s04:=s03.trans s4
 refine q _ H3 s04 ⟨r3,vs.set b (.ref r2),rfl,hr3,iD ?_ b (aO (fun _ _ x=>x.mono (Same.tup s04)) pr)⟩
 refine ⟨r2,r1,ls.set p (.ref sl),rfl,s4 _ _ hr2,(s3.trans s4) _ _ hr1,iD ?_ p (aO (fun _ _ x=>x.mono (Same.tup s04)) prl)⟩
 exact ⟨sl,rfl,(s2.trans (s3.trans s4)) _ _ hsl1⟩
end
end K83.S
namespace K83.S
open PySem L2
def LS (b k:Nat) (m:Int) (l1 l0:Lis):Prop:=l1.whom=l0.whom∧l1.back=l0.back∧l0.beats≤l1.beats∧l1.beats≤l0.beats+m∧(k≠b→l1.beats=l0.beats)
theorem A1 {c c':List Bell} (hc:iU c) {b:Nat} {m D:Int} (m0:0≤m) (sl:∀ (k:Nat) b0,c[k]?=some b0→∃ b1,c'[k]?=some b1∧wants b1=wants b0∧Paired (LS b k m) b1.lis b0.lis)
  {b0 b1 n0 n1:List (Option Int)} (h:∀ (k:Nat) u,b0[k]?=some (some u)→∃ v,b1[k]?=some (some v)∧v≤u+D) (f0:Fix c b0 n0) (f1:Fix c' b1 n1) :
  ∀ (k:Nat) u,n0[k]?=some (some u)→∃ v,n1[k]?=some (some v)∧v≤u+D+m:=by
 obtain ⟨B,hB⟩:=low n0
 have all:∀ (n:Nat) (k:Nat) u,u<B+n→n0[k]?=some (some u)→∃ v,n1[k]?=some (some v)∧v≤u+D+m∧(k≠b→(∀ t,n0[b]?=some (some t)→u≤t)→v≤u+D):=by
  intro n
  induction n with
  | zero=>intro k v hv e; have:=hB v (List.mem_of_getElem? e); omega
  | succ n ih =>
   intro k u hu e
   have hk:k<c.length:=by rw [← f0.1]; exact (List.getElem?_eq_some_iff.mp e).1
   have hb:=List.getElem?_eq_getElem hk
   obtain ⟨o,ho,hd⟩:=f0.2 k _ hb
   rw [e] at ho
   cases ho
   obtain ⟨bb,hb1,hw,hp⟩:=sl k _ hb
   obtain ⟨o',ho',hd'⟩:=f1.2 k _ hb1
   rw [hw] at hd'
   obtain ⟨d1,d2⟩:=hd
   have cn:∀ E:Int,(∀ l1 l0,LS b k m l1 l0→∀ w,w+l0.beats≤u→w<u→(l0.back=true→b0[l0.whom]?=some (some w))→(l0.back=false→n0[l0.whom]?=some (some w))→∃ w',(if l1.back then b1 else n1)[l1.whom]?=some (some w')∧w'+l1.beats≤u+E)→cnt (aQ c[k] b0 n0) u≤cnt (aQ bb b1 n1) (u+E):=by
    intro E hE
    unfold aQ
    rw [ia,ia]
    refine fN hp fun l1 l0 _ hl0 r hq=>?_
    obtain ⟨x,ex,hx⟩:=kH hq
    obtain ⟨w,hw',ew⟩:=jB ex
    have hs:=hc k _ hb l0 hl0
    obtain ⟨w',e',l'⟩:=hE l1 l0 r w (by omega) (by omega) (fun z=>by rw [z] at hw'; exact hw') (fun z=>by rw [z] at hw'; exact hw')
    rw [sW e']
    exact decide_eq_true l'
   have fin:∀ E:Int,cnt (aQ c[k] b0 n0) u≤cnt (aQ bb b1 n1) (u+E)→∃ v,o'=some v∧v≤u+E:=by
    intro E hE
    cases o' with
    | none =>
     have h1:(tot (aQ bb b1 n1):Int)<wants c[k]:=hd'
     have:=kA (aQ bb b1 n1) (u+E)
     omega
    | some v =>
     refine ⟨v,rfl,Classical.byContradiction fun no=>?_⟩
     have:=gZ (aQ bb b1 n1) (show u+E≤v - 1 by omega)
     have:=hd'.2
     omega
   have g1:=fin (D+m) (cn (D+m) fun l1 l0 r w hw1 hw2 hy hn=>by
    obtain ⟨r1,r2,r3,r4,r5⟩:=r
    rw [r2,r1]
    cases hbk:l0.back with
    | true =>
     obtain ⟨v,e1,e2⟩:=h _ _ (hy hbk)
     exact ⟨v,e1,by omega⟩
    | false =>
     obtain ⟨v,e1,e2,e3⟩:=ih l0.whom w (by omega) (hn hbk)
     refine ⟨v,e1,?_⟩
     by_cases hkb:k=b
     ·have hwb:l0.whom≠b:=fun z=>by
       have z1:=hn hbk
       rw [z,← hkb,e] at z1
       have:=Option.some.inj (Option.some.inj z1)
       omega
      have:=e3 hwb fun t ht=>by
       rw [← hkb,e] at ht
       have:=Option.some.inj (Option.some.inj ht)
       omega
      omega
     ·have:=r5 hkb
      omega)
   obtain ⟨v,rfl,hv⟩:=g1
   refine ⟨v,ho',by omega,fun hkb ht=>?_⟩
   obtain ⟨v',e',hv'⟩:=fin D (cn D fun l1 l0 r w hw1 hw2 hy hn=>by
    obtain ⟨r1,r2,r3,r4,r5⟩:=r
    have r6:=r5 hkb
    rw [r2,r1]
    cases hbk:l0.back with
    | true =>
     obtain ⟨v,e1,e2⟩:=h _ _ (hy hbk)
     exact ⟨v,e1,by omega⟩
    | false =>
     obtain ⟨v,e1,e2,e3⟩:=ih l0.whom w (by omega) (hn hbk)
     refine ⟨v,e1,?_⟩
     have hwb:l0.whom≠b:=fun z=>by
      have z1:=hn hbk
      rw [z] at z1
      have:=ht w z1
      omega
     have:=e3 hwb fun t htt=>by
      have:=ht t htt
      omega
     omega)
   cases e'
   exact hv'
 intro k u e
 obtain ⟨v,h1,h2,_⟩:=all (u - B+1).toNat k u (by have:=hB u (List.mem_of_getElem? e); omega) e
 exact ⟨v,h1,h2⟩
theorem ke {α:Type} {F:α→α→Prop} (rf:∀ x,F x x) {x y:α} (h:F x y):∀ {xs:List α} (i:Nat),xs[i]?=some y→Paired F (xs.set i x) xs
 | [],_,e=>by cases e
 | z::r,0,e=>by
  cases e
  exact .cons h (gA rf r)
 | z::r,i+1,e=>.cons (rf z) (ke rf h i (by simpa using e))
theorem cw {c:List Bell} {b p:Nat} {m:Int} {bl:Bell} {l:Lis}:(bz c b p m bl l).length=c.length:=List.length_set ..
theorem rn {bl:Bell} {p:Nat} {l:Lis} {m:Int}:wants (xH bl p l m)=wants bl:=by
 unfold wants xH
 cases bl.rule with
 | all=>show ((bl.lis.set p _).length:Int)=bl.lis.length; rw [List.length_set]
 | any=>rfl
 | num n=>rfl
theorem e6 {c:List Bell} {b p:Nat} {m:Int} {bl:Bell} {l:Lis} (S:SlowAt c b p m bl l) (k:Nat) (b0:Bell) (hk:c[k]?=some b0) :
  ∃ b1,(bz c b p m bl l)[k]?=some b1∧wants b1=wants b0∧b1.name=b0.name∧b1.start=b0.start∧b1.rule=b0.rule∧b1.lis.length=b0.lis.length∧Paired (LS b k m) b1.lis b0.lis:=by
 have hm:=S.m0
 have rf:∀ x,LS b k m x x:=fun x=>⟨rfl,rfl,Int.le_refl _,by omega,fun _=>rfl⟩
 unfold bz
 rw [List.getElem?_set]
 by_cases hkb:b=k
 ·subst hkb
  have hb:=(List.getElem?_eq_some_iff.mp hk).1
  rw [if_pos rfl,if_pos hb]
  obtain rfl:bl=b0:=Option.some.inj (S.hb.symm.trans hk)
  refine ⟨_,rfl,rn,rfl,rfl,rfl,List.length_set ..,?_⟩
  exact ke rf (x:=wG l m) (y:=l) ⟨rfl,rfl,by show l.beats≤l.beats+m; omega,Int.le_refl _,fun z=>absurd rfl z⟩ p S.hp
 ·rw [if_neg hkb]
  exact ⟨b0,hk,rfl,rfl,rfl,rfl,rfl,gA rf _⟩
theorem g5 {c:List Bell} {b p:Nat} {m:Int} {bl:Bell} {l:Lis} {k:Nat} {b1:Bell} (hk:(bz c b p m bl l)[k]?=some b1):∃ b0,c[k]?=some b0:=by
 have h:=(List.getElem?_eq_some_iff.mp hk).1
 rw [cw] at h
 exact ⟨_,List.getElem?_eq_getElem h⟩
theorem sY {b k:Nat} {m:Int}:∀ {xs ys:List Lis},Paired (LS b k m) xs ys→Paired LQ ys xs
 | _,_,.nil=>.nil
 | _,_,.cons r t=>.cons ⟨r.1.symm,r.2.1.symm,r.2.2.1⟩ (sY t)
theorem nE {c:List Bell} {b p:Nat} {m:Int} {bl:Bell} {l:Lis} (S:SlowAt c b p m bl l):AD c (bz c b p m bl l):=fun k b1 hk=>by
 obtain ⟨b0,h0⟩:=g5 hk
 obtain ⟨b1',e1,ew,_,_,_,_,pr⟩:=e6 S k b0 h0
 obtain rfl:b1'=b1:=Option.some.inj (e1.symm.trans hk)
 exact ⟨b0,h0,ew.symm,sY pr⟩
theorem kW {c:List Bell} {b p:Nat} {m:Int} {bl:Bell} {l:Lis} (S:SlowAt c b p m bl l) {k:Nat} {b1:Bell} (hk:(bz c b p m bl l)[k]?=some b1) {x:Lis} (hx:x∈b1.lis) :
  ∃ b0 y,c[k]?=some b0∧y∈b0.lis∧x.whom=y.whom∧y.beats≤x.beats∧(x.beats≤1000∨x.beats=y.beats):=by
 obtain ⟨b0,h0⟩:=g5 hk
 have hm:=S.m0
 have hm1:=S.m1
 unfold bz at hk
 rw [List.getElem?_set] at hk
 by_cases hkb:b=k
 ·subst hkb
  rw [if_pos rfl,if_pos (List.getElem?_eq_some_iff.mp h0).1] at hk
  cases hk
  obtain rfl:bl=b0:=Option.some.inj (S.hb.symm.trans h0)
  rcases List.mem_or_eq_of_mem_set hx with z | z
  ·exact ⟨bl,x,h0,z,rfl,Int.le_refl _,.inr rfl⟩
  ·subst z
   exact ⟨bl,l,h0,List.mem_of_getElem? S.hp,rfl,by show l.beats≤l.beats+m; omega,.inl hm1⟩
 ·rw [if_neg hkb] at hk
  exact ⟨b1,x,hk,hx,rfl,Int.le_refl _,.inr rfl⟩
theorem qi {c:List Bell} {b p:Nat} {m:Int} {bl:Bell} {l:Lis} (S:SlowAt c b p m bl l) (hc:iU c):iU (bz c b p m bl l):=fun k b1 hk x hx=>by
 obtain ⟨b0,y,h0,hy,_,h1,_⟩:=kW S hk hx
 have:=hc k b0 h0 y hy
 omega
theorem my {c:List Bell} {b p:Nat} {m:Int} {bl:Bell} {l:Lis} (S:SlowAt c b p m bl l):(bz c b p m bl l).map (fun b=>some b.start)=c.map fun b=>some b.start:=by
 refine List.ext_getElem? fun k=>?_
 rw [List.getElem?_map,List.getElem?_map]
 cases hk:c[k]? with
 | none =>
  have h:=List.getElem?_eq_none_iff.mp hk
  rw [List.getElem?_eq_none (by rw [cw]; exact h)]
 | some b0 =>
  obtain ⟨b1,e1,_,_,es,_⟩:=e6 S k b0 hk
  rw [e1]
  show some (some b1.start)=some (some b0.start)
  rw [es]
theorem uo {c:List Bell} {b p:Nat} {m:Int} {bl:Bell} {l:Lis} (S:SlowAt c b p m bl l) (hc:iU c) {rows rows':List (List (Option Int))} (h:Rows c rows) (h':Rows (bz c b p m bl l) rows') :
  ∀ (n:Nat) x y,rows[n]?=some x→rows'[n]?=some y→Btw 0 (n * m) x y:=by
 intro n
 induction n with
 | zero =>
  intro x y ex ey
  rw [h.first x ex,h'.first y ey,my S]
  exact ⟨rfl,fun k v e=>⟨v,e,by omega⟩,fun k v e=>⟨v,e,by simp⟩⟩
 | succ n ih =>
  intro x y ex ey
  have hn:n<rows.length:=by have:=(List.getElem?_eq_some_iff.mp ex).1; omega
  have hn':n<rows'.length:=by have:=(List.getElem?_eq_some_iff.mp ey).1; omega
  have e1:=List.getElem?_eq_getElem hn
  have e2:=List.getElem?_eq_getElem hn'
  have B:=ih _ _ e1 e2
  have f0:=h.next n _ x e1 ex
  have f1:=h'.next n _ y e2 ey
  have em:((n+1:Nat):Int) * m=n * m+m:=by rw [Int.natCast_add,Int.add_mul]; simp
  refine ⟨by rw [f0.1,f1.1,cw],fun k v e=>?_,fun k u e=>?_⟩
  ·obtain ⟨u,hu,hl⟩:=BE (qi S hc) (nE S) (fun k u hu=>by
    obtain ⟨w,hw,hl⟩:=B.le k u hu
    exact ⟨w,hw,by omega⟩) f0 f1 k v e
   exact ⟨u,hu,by omega⟩
  ·obtain ⟨v,hv,hl⟩:=A1 hc S.m0 (fun k b0 hk=>by
    obtain ⟨b1,g1,g2,_,_,_,_,g3⟩:=e6 S k b0 hk
    exact ⟨b1,g1,g2,g3⟩) (D:=n * m) B.ge f0 f1 k u e
   exact ⟨v,hv,by rw [em]; omega⟩
end K83.S
namespace K83
open PySem L2
def mvL (n:Nat) (l:Lis):Lis:=⟨l.whom+n,l.beats,l.back⟩
def mvB (n:Nat) (b:Bell):Bell:=⟨b.name,b.start,b.rule,b.lis.map (mvL n)⟩
def cf (c1 c2:List Bell):List Bell:=c1++c2.map (mvB c1.length)
theorem zU {H:Hp} {v:V} {l:Lis} (h:LisAt H v l):ThAt H (gX l) v:=by
 obtain ⟨a,rfl,ha⟩:=h
 exact ⟨a,_,rfl,ha,⟨_,_,rfl,rfl,⟨_,_,rfl,rfl,⟨_,_,rfl,rfl,rfl⟩⟩⟩⟩
theorem sr {H:Hp}:∀ {vs:List V} {ls:List Lis},Paired (LisAt H) vs ls→ThsAt H (ls.map gX) vs
 | _,_,.nil=>rfl
 | _,_,.cons r t=>⟨_,_,rfl,zU r,sr t⟩
theorem AK (H:Hp) (r:RW):ThAt H (rwT r) (rwV r):=by
 cases r with
 | all=>exact ⟨rfl,by decide +kernel⟩
 | any=>exact ⟨rfl,by decide +kernel⟩
 | num n=>exact rfl
theorem yi {H:Hp} {v:V} {b:Bell} (hn:b.name.length≤1000) (h:BellAt H v b):ThAt H (eO b) v:=by
 obtain ⟨a,t,ls,rfl,ha,ht,pr⟩:=h
 exact ⟨a,_,rfl,ha,⟨_,_,rfl,⟨rfl,hn⟩,⟨_,_,rfl,rfl,⟨_,_,rfl,AK H b.rule,⟨_,_,rfl,⟨t,ls,rfl,ht,sr pr⟩,rfl⟩⟩⟩⟩⟩
theorem vO {H:Hp}:∀ {vs:List V} {c:List Bell},(∀ b∈c,b.name.length≤1000)→Paired (BellAt H) vs c→ThsAt H (c.map eO) vs
 | _,_,_,.nil=>rfl
 | _,_,h,.cons r t=>⟨_,_,rfl,yi (h _ List.mem_cons_self) r,vO (fun b hb=>h b (List.mem_cons_of_mem _ hb)) t⟩
theorem lX {α β:Type} {F:α→β→Prop}:∀ {xs:List α} {ys:List β} {us:List α} {vs:List β},Paired F xs ys→Paired F us vs→Paired F (xs++us) (ys++vs)
 | _,_,_,_,.nil,k=>k
 | _,_,_,_,.cons r t,k=>.cons r (lX t k)
theorem ip (c1 c2:List Bell):(cf c1 c2).map (·.name)=c1.map (·.name)++c2.map (·.name):=by
 unfold cf
 rw [List.map_append,List.map_map]
 rfl
theorem jj (c1 c2:List Bell):(cf c1 c2).length=c1.length+c2.length:=by
 unfold cf
 rw [List.length_append,List.length_map]
theorem kS {c1 c2:List Bell} (g1:GoodC c1) (g2:GoodC c2) (h6:c1.length+c2.length≤6) (dj:∀ z∈c2.map (·.name),z∉c1.map (·.name)):GoodC (cf c1 c2):=by
 have hl:=jj c1 c2
 have mem:∀ b∈cf c1 c2,b∈c1∨∃ b0∈c2,b=mvB c1.length b0:=fun b hb=>by
  rcases List.mem_append.mp hb with h | h
  ·exact .inl h
  ·obtain ⟨b0,h0,rfl⟩:=List.mem_map.mp h
   exact .inr ⟨b0,h0,rfl⟩
 refine ⟨by rw [hl]; have:=g1.c1; omega,by rw [hl]; exact h6,fun b hb=>?_,fun b hb=>?_,fun b hb=>?_,?_⟩
 ·rw [hl]
  rcases mem b hb with h | ⟨b0,h,rfl⟩
  ·have gb:=g1.gb b h
   exact ⟨gb.n1,gb.n6,gb.s0,gb.s1,gb.r,fun l hl'=>by obtain ⟨a1,a2,a3,a4⟩:=gb.l l hl'; exact ⟨by omega,a2,a3,fun z=>(nomatch z)⟩⟩
  ·have gb:=g2.gb b0 h
   have e:(mvB c1.length b0).lis.length=b0.lis.length:=List.length_map _
   refine ⟨by rw [e]; exact gb.n1,by rw [e]; exact gb.n6,gb.s0,gb.s1,by rw [e]; exact gb.r,fun l hl'=>?_⟩
   obtain ⟨l0,h0,rfl⟩:=List.mem_map.mp hl'
   obtain ⟨a1,a2,a3,a4⟩:=gb.l l0 h0
   exact ⟨by show l0.whom+c1.length<_; omega,a2,a3,fun z=>(nomatch z)⟩
 ·rcases mem b hb with h | ⟨b0,h,rfl⟩
  ·exact g1.wd b h
  ·exact g2.wd b0 h
 ·rcases mem b hb with h | ⟨b0,h,rfl⟩
  ·exact g1.f4 b h
  ·exact g2.f4 b0 h
 ·rw [ip]
  exact List.nodup_append.mpr ⟨g1.nd,g2.nd,fun a ha b hb e=>dj b hb (e▸ha)⟩
theorem Ab {c:List Bell} (g:GoodC c) (i:Nat):yn (c.map eO) i:=fun t ht=>by
 rw [List.getElem?_map] at ht
 obtain ⟨b,hb,rfl⟩:=Option.map_eq_some_iff.mp ht
 have e:((c.map eO).take i).map nameOf=(c.map (·.name)).take i:=by
  rw [← List.map_take,List.map_map,← List.map_take]
  rfl
 have hm:=List.mem_of_getElem? hb
 rw [e,List.length_map]
 exact mT (g.gb b hm) (g.wd b hm) (g.f4 b hm) (g.fresh hb)
section
variable {P:Program} {w:World} {K:PySem.W.Frag} {mg:Str→Option Value} {base:Heap} {f:Addr} {fd:FuncData}
def kJ:Sp:=fun vs H Q _=>∃ (v:V) (b:Bell) (n:Nat),vs=[v,.int n]∧BellAt H v b∧b.lis.length≤6∧∀ H' v',Same H H'→BellAt H' v' (mvB n b)→Q v' H'
theorem qr:FnScope ["bell","by","listenings"] ["bell","by"] (aq og):=⟨rfl,rfl,rfl,by decide +kernel,rfl,by decide +kernel,by decide +kernel⟩
theorem gy {H:Hp} {D:Addr} {ys:List V} (h:H D=some (.lst ys)) (o:List V):iy H (upd H D (.lst o)):=fun a xs e=>by
 rw [au (d6 e h (by intro z; cases z))]
 exact e
theorem yD (F:Fun K "moved" "moved" og f fd) (B:Blt mg):FnOk P w K mg base CX0 1 f fd ["bell","by"] kJ:=by
 refine F.ok qr (fun vs H Q E h=>?_) (fun cdv A outer s H vs Q E hr h=>?_)
 ·obtain ⟨v,b,n,rfl,_⟩:=h
  rfl
 obtain ⟨v,b,n,rfl,⟨a,t,ls,rfl,ha,ht,pr⟩,l6,q⟩:=h
 refine ⟨_,(af (dw (i:=2) ["listening"] ["by"] [1] rfl qr.nd rfl (Or.inl rfl) (eL (ar aP (pv 0) aj (fun _ _=>rfl))) (fun _ _ _ _ _=>(aI (i:=0) (show List.Nodup [("listening":Str),("by":Str)] by decide +kernel) rfl (Or.inl rfl))) (fun _ _ _ _ _=>bV) (fun _ _ _ _ _=>(dZ (aa (aV cm (ar (dF (K:=K) rfl) (pv 0) aj (fun _ _=>rfl)) (pv 1)) (aa (ar (dF (K:=K) rfl) (pv 0) aj (fun _ _=>rfl)) (aa (ar (dF (K:=K) rfl) (pv 0) aj (fun _ _=>rfl)) ae))))))
  (ak (av (dZ (aa (ar aP (pv 0) aj (fun _ _=>rfl)) (aa (ar aP (pv 0) aj (fun _ _=>rfl)) (aa (ar aP (pv 0) aj (fun _ _=>rfl)) (aa (aX ck rfl B.tuple_ PyProof.Rows.boot_tuple (aa (pv 2) ae)) ae)))))))),?_⟩
 have hll:=aE pr
 refine ⟨_,rfl,a,_,_,_,rfl,rfl,SqT.of ha,rfl,t,rfl,⟨_,SqT.of ht⟩,fun D hD=>?_⟩
 refine dX (K:=K) (a:=t) (xs:=ls) (fun i ys H3=>Same H H3∧Paired (LisAt H3) ys ((b.lis.take i).map (mvL n))) ⟨ao hD _,.nil⟩ (fun i ys H3 _ ⟨z,_⟩=>SqT.of (z _ _ ht)) ?_ ?_
 ·rintro i x ys H3 hx ⟨s3,hy⟩ hD3
  obtain ⟨l,hl,⟨la,rfl,hla⟩⟩:=aZ pr hx
  have hla3:=s3 _ _ hla
  have hi:i<b.lis.length:=(List.getElem?_eq_some_iff.mp hl).1
  refine ⟨rfl,bo ?_⟩
  refine ⟨_,rfl,la,_,_,_,rfl,rfl,SqT.of hla3,rfl,_,rfl,_,_,rfl,rfl,_,rfl,la,_,_,_,rfl,rfl,SqT.of hla3,rfl,_,rfl,la,_,_,_,rfl,rfl,SqT.of hla3,rfl,(by show 3≤sizeLine; decide),fun x hx=>?_⟩
  have v1:=ao hx (.tup [.int ((l.whom:Int)+(n:Int)),.int l.beats,.int (if l.back then 1 else 0)])
  have hyl:=aE hy
  rw [List.length_map,List.length_take] at hyl
  have hD4:=v1 _ _ hD3
  refine ⟨_,hD4,aW (by omega),_,⟨(s3.trans v1).upd hD _,?_⟩,ah⟩
  rw [take_snoc hl,List.map_append]
  have nx:x≠D:=fun e=>by rw [e,hD3] at hx; cases hx
  have tS:=gy hD4 (ys++[.ref x])
  refine b8 ⟨x,rfl,?_⟩ (aO (fun _ _ z=>(z.mono (Same.tup v1)).mono tS) hy)
  rw [au nx,ah]
  show _=some (HO.tup [.int ((l.whom+n:Nat):Int),.int l.beats,.int (if l.back then 1 else 0)])
  rw [Int.natCast_add]
 rintro ys H3 ⟨s3,hy⟩ hD3
 rw [hll,List.take_length] at hy
 have ha3:=s3 _ _ ha
 refine ⟨_,rfl,a,_,_,_,rfl,rfl,SqT.of ha3,rfl,_,rfl,a,_,_,_,rfl,rfl,SqT.of ha3,rfl,_,rfl,a,_,_,_,rfl,rfl,SqT.of ha3,rfl,_,rfl,D,_,rfl,.inl ⟨SqL.of hD3,fun t1 ht1=>?_⟩⟩
 have v1:=ao ht1 (.tup ys)
 refine ⟨(by show 4≤sizeLine; decide),fun r hr'=>?_⟩
 have v2:=ao hr' (.tup [.str b.name,.int b.start,rwV b.rule,.ref t1])
 have v12:=v1.trans v2
 exact q _ _ (s3.trans v12) ⟨r,t1,ys,rfl,ah,v2 _ _ ah,aO (fun _ _ z=>z.mono (Same.tup v12)) hy⟩
def n4:Sp:=fun vs H Q _=>∃ (v:V) (b:Bell) (tl:Addr) (nl:V),vs=[v,.ref tl,nl]∧BellAt H v b∧b.lis.length≤6∧H tl=some (.lst [])∧∀ H' v',Same H H'→BellAt H' v' b→Q v' H'
theorem tE:FnScope ["bell","ties","names","added"] ["bell","ties","names"] (aq rm):=⟨rfl,rfl,rfl,by decide +kernel,rfl,by decide +kernel,by decide +kernel⟩
theorem zX (F:Fun K "tied" "tied" rm f fd) (B:Blt mg):FnOk P w K mg base CX0 1 f fd ["bell","ties","names"] n4:=by
 refine F.ok tE (fun vs H Q E h=>?_) (fun cdv A outer s H vs Q E hr h=>?_)
 ·obtain ⟨v,b,tl,nl,rfl,_⟩:=h
  rfl
 obtain ⟨v,b,tl,nl,rfl,⟨a,t,ls,rfl,ha,ht,pr⟩,l6,htl,q⟩:=h
 refine ⟨_,(af (dw (i:=3) ["tie"] ["names","bell"] [2,0] rfl tE.nd rfl (Or.inl rfl) (dG (pv 1)) (fun _ _ _ _ _=>(aI (i:=0) (show List.Nodup [("tie":Str),("names":Str),("bell":Str)] by decide +kernel) rfl (Or.inl rfl))) (fun _ _ _ _ _=>(si (aC cF (ar (dF (K:=K) rfl) (pv 0) aj (fun _ _=>rfl)) (ar (dF (K:=K) rfl) (pv 2) aj (fun _ _=>rfl)) (aL _)))) (fun _ _ _ _ _=>(dZ (aa (vQ (K:=K) rfl PySem.F.plainAttrs_list PySem.F.slot_list_index PySem.F.type_list_index pN (pv 1) (aa (ar (dF (K:=K) rfl) (pv 0) aj (fun _ _=>rfl)) ae)) (aa (ar (dF (K:=K) rfl) (pv 0) aj (fun _ _=>rfl)) (aa (ar (dF (K:=K) rfl) (pv 0) aj (fun _ _=>rfl)) ae))))))
  (ak (av (dZ (aa (ar aP (pv 0) aj (fun _ _=>rfl)) (aa (ar aP (pv 0) aj (fun _ _=>rfl)) (aa (ar aP (pv 0) aj (fun _ _=>rfl)) (aa (aV nH (ar aP (pv 0) aj (fun _ _=>rfl)) (aX ck rfl B.tuple_ PyProof.Rows.boot_tuple (aa (pv 3) ae))) ae)))))))),?_⟩
 refine ⟨_,rfl,tl,rfl,⟨_,SqL.of htl⟩,fun D hD=>?_⟩
 refine cX (K:=K) (a:=tl) (xs:=[]) (fun i ys H3=>Same H H3∧ys=[]) ⟨ao hD _,rfl⟩ (fun i ys H3 _ ⟨s,_⟩=>SqL.of (s _ _ htl)) (fun i x ys H3 hx=>(nomatch hx)) ?_
 rintro ys H3 ⟨s3,rfl⟩ hD3
 have ha3:=s3 _ _ ha
 have hll:=aE pr
 refine ⟨_,rfl,a,_,_,_,rfl,rfl,SqT.of ha3,rfl,_,rfl,a,_,_,_,rfl,rfl,SqT.of ha3,rfl,_,rfl,a,_,_,_,rfl,rfl,SqT.of ha3,rfl,_,rfl,a,_,_,_,rfl,rfl,SqT.of ha3,rfl,_,rfl,D,_,rfl,.inl ⟨SqL.of hD3,fun t1 ht1=>?_⟩⟩
 have v1:=ao ht1 (.tup [])
 refine ⟨t,t1,_,_,rfl,rfl,(s3.trans v1) _ _ ht,ah,(by rw [sizeLine_eq]; show _+0≤_; omega),fun p H4 s4 hp=>?_⟩
 rw [List.append_nil] at hp
 refine ⟨(by show 4≤sizeLine; decide),fun r hr'=>?_⟩
 have v2:=ao hr' (.tup [.str b.name,.int b.start,rwV b.rule,.ref p])
 have s34:=v1.trans (s4.trans v2)
 have s04:=s3.trans s34
 exact q _ _ s04 ⟨r,p,ls,rfl,ah,v2 _ _ hp,aO (fun _ _ z=>z.mono (Same.tup s04)) pr⟩
def oF:Sp:=fun vs H Q _=>∃ (v1 v2:V) (c1 c2:List Bell),vs=[v1,v2]∧ChoirAt H v1 c1∧ChoirAt H v2 c2∧c1.length≤6∧c2.length≤6∧(∀ z∈c2.map (·.name),z∉c1.map (·.name))∧∀ H',Same H H'→Q .non H'
theorem tK:FnScope ["one","other","name"] ["one","other"] (aq cx):=⟨rfl,rfl,rfl,by decide +kernel,rfl,by decide +kernel,by decide +kernel⟩
theorem zu (F:Fun K "refuse_names_of_both" "refuse_names_of_both" cx f fd) (C_names_of:Cal P w K mg base 1 "names_of" ["choir"] eP):FnOk P w K mg base CX0 3 f fd ["one","other"] oF:=by
 refine F.ok tK (fun vs H Q E h=>?_) (fun cdv A outer s H vs Q E hr h=>?_)
 ·obtain ⟨v1,v2,c1,c2,rfl,_⟩:=h
  rfl
 obtain ⟨v1,v2,c1,c2,rfl,h1,h2,l1,l2,dj,q⟩:=h
 refine ⟨_,(ak (cL PassesOwn.never rfl (dG (az C_names_of hr (by decide) rfl (aa (pv 1) ae))) (aI (i:=2) tK.nd rfl (Or.inl rfl))
  (ak (aU (aC jr (pv 2) (az C_names_of hr (by decide) rfl (aa (pv 0) ae)) rfl)
  aH
  aw)))),?_⟩
 refine ⟨_,rfl,v2,c2,rfl,h2,l2,fun H1 p s1 p0 hp1=>?_⟩
 refine ⟨p,rfl,⟨_,SqL.of hp1⟩,pf (K:=K) (a:=p) (xs:=(c2.map (·.name)).map V.str) (fun i σ H2=>∃ o2:Option V,σ=[some v1,some v2,o2]∧Same H1 H2)
  ⟨none,rfl,.refl H1⟩ (fun i σ H2 _ ⟨_,_,s2⟩=>SqL.of (s2 _ _ hp1)) ?_ ?_⟩
 ·rintro i x σ H2 hx ⟨o2,rfl,s2⟩
  rw [List.getElem?_map] at hx
  obtain ⟨z,hz,rfl⟩:=Option.map_eq_some_iff.mp hx
  have s02:=s1.trans s2
  refine ⟨_,rfl,_,rfl,v1,c1,rfl,h1.mono (Same.tup s02),l1,fun H3 r s3 r0 hr3=>?_⟩
  refine ⟨r,_,rfl,.inl (SqL.of hr3),rfl,fG (c1.map (·.name)),_,rfl,?_⟩
  show if inV (.str z) ((c1.map (·.name)).map V.str)=true then _ else _
  rw [jh,decide_eq_false (dj z (List.mem_of_getElem? hz))]
  exact bh ⟨_,rfl,s2.trans s3⟩
 ·rintro σ H2 ⟨o2,rfl,s2⟩
  exact q H2 (s1.trans s2)
def iz:Sp:=fun vs H Q _=>∃ (tl:Addr) (nl:V),vs=[.ref tl,nl]∧H tl=some (.lst [])∧Q .non H
theorem lW:FnScope ["ties","names","tie","name"] ["ties","names"] (aq cC):=⟨rfl,rfl,rfl,by decide +kernel,rfl,by decide +kernel,by decide +kernel⟩
theorem qK (F:Fun K "refuse_strange_ties" "refuse_strange_ties" cC f fd):FnOk P w K mg base CX0 1 f fd ["ties","names"] iz:=by
 refine F.ok lW (fun vs H Q E h=>?_) (fun cdv A outer s H vs Q E hr h=>?_)
 ·obtain ⟨tl,nl,rfl,_⟩:=h
  rfl
 obtain ⟨tl,nl,rfl,htl,q⟩:=h
 refine ⟨_,(ak (cL PassesOwn.never rfl (dG (pv 0)) (aI (i:=2) lW.nd rfl (Or.inl rfl))
  aH)),?_⟩
 refine ⟨_,rfl,tl,rfl,⟨_,SqL.of htl⟩,pf (K:=K) (a:=tl) (xs:=[]) (fun i σ H2=>σ=[some (.ref tl),some nl,none,none]∧H2=H)
  ⟨rfl,rfl⟩ (fun i σ H2 _ ⟨_,e⟩=>by rw [e]; exact SqL.of htl) (fun i x σ H2 hx=>(nomatch hx)) ?_⟩
 rintro σ H2 ⟨rfl,rfl⟩
 exact q
def jz:Sp:=fun vs H Q _=>∃ (v1 v2:V) (tl:Addr) (c1 c2:List Bell),vs=[v1,v2,.ref tl]∧ChoirAt H v1 c1∧ChoirAt H v2 c2∧GoodC c1∧GoodC c2∧c1.length+c2.length≤6∧(∀ z∈c2.map (·.name),z∉c1.map (·.name))∧H tl=some (.lst [])∧∀ H' v,Same H H'→ChoirAt H' v (cf c1 c2)→Q v H'
theorem jS:FnScope ["one","other","ties","names","bells"] ["one","other","ties"] (aq me):=⟨rfl,rfl,rfl,by decide +kernel,rfl,by decide +kernel,by decide +kernel⟩
theorem tU (F:Fun K "joined" "joined" me f fd) (B:Blt mg) (C_both:Cal P w K mg base 3 "refuse_names_of_both" ["one","other"] oF) (C_strange:Cal P w K mg base 1 "refuse_strange_ties" ["ties","names"] iz) (C_names_of:Cal P w K mg base 1 "names_of" ["choir"] eP)
  (C_moved:Cal P w K mg base 1 "moved" ["bell","by"] kJ) (C_tied:Cal P w K mg base 1 "tied" ["bell","ties","names"] n4) (C_checked:Cal P w K mg base 8 "checked" ["thing"] gw):FnOk P w K mg base CX0 9 f fd ["one","other","ties"] jz:=by
 refine F.ok jS (fun vs H Q E h=>?_) (fun cdv A outer s H vs Q E hr h=>?_)
 ·obtain ⟨v1,v2,tl,c1,c2,rfl,_⟩:=h
  rfl
 obtain ⟨v1,v2,tl,c1,c2,rfl,ch1,ch2,g1,g2,h6,dj,htl,q⟩:=h
 refine ⟨_,(af (bp (az C_both hr (by decide) rfl (aa (pv 0) (aa (pv 1) ae))))
  (af (aJ (i:=3) jS.nd rfl (Or.inr rfl) (aV rQ (az C_names_of hr (by decide) rfl (aa (pv 0) ae)) (az C_names_of hr (by decide) rfl (aa (pv 1) ae))))
  (af (bp (az C_strange hr (by decide) rfl (aa (pv 2) (aa (pv 3) ae))))
  (af (aJ (i:=4) jS.nd rfl (Or.inl rfl) (aV rQ (aX oG rfl B.list_ PyProof.Rows.boot_list (aa (pv 0) ae)) (cJ ["bell"] ["one"] [0] rfl (eL (pv 1)) (fun _ _ _ _ _=>(aI (i:=0) (show List.Nodup [("bell":Str),("one":Str)] by decide +kernel) rfl (Or.inl rfl))) (fun _ _ _ _ _=>bV) (fun _ _ _ _ _=>(az C_moved hr (by decide) rfl (aa (pv 0) (aa (ay (mw (K:=K) rfl) rfl B.len_ PySem.boot_len (aa (pv 1) ae)) ae)))))))
  (ak (av (az C_checked hr (by decide) rfl (aa (aX ck rfl B.tuple_ PyProof.Rows.boot_tuple (aa (cJ ["bell"] ["ties","names"] [2,3] rfl (dG (pv 4)) (fun _ _ _ _ _=>(aI (i:=0) (show List.Nodup [("bell":Str),("ties":Str),("names":Str)] by decide +kernel) rfl (Or.inl rfl))) (fun _ _ _ _ _=>bV) (fun _ _ _ _ _=>(az C_tied hr (by decide) rfl (aa (pv 0) (aa (pv 1) (aa (pv 2) ae)))))) ae)) ae)))))))),?_⟩
 have l1:=g1.c6
 have l2:=g2.c6
 obtain ⟨a1,w1,rfl,ha1,p1⟩:=id ch1
 obtain ⟨a2,w2,rfl,ha2,p2⟩:=id ch2
 have e1:=aE p1
 have e2:=aE p2
 refine ⟨_,rfl,_,rfl,_,_,c1,c2,rfl,ch1,ch2,l1,l2,dj,fun H1 s1=>?_⟩
 refine ⟨_,rfl,_,c1,rfl,ch1.mono (Same.tup s1),l1,fun H2 n1 s2 n10 hn1=>?_⟩
 have s02:=s1.trans s2
 refine ⟨_,rfl,_,c2,rfl,ch2.mono (Same.tup s02),l2,fun H3 n2 s3 n20 hn2=>?_⟩
 have s03:=s02.trans s3
 refine ⟨n1,n2,_,_,rfl,rfl,s3 _ _ hn1,hn2,(by rw [List.length_map,List.length_map,List.length_map,List.length_map,sizeLine_eq]; omega),fun nl hnl0=>?_⟩
 have s04:=s03.trans (ao hnl0 (.lst ((c1.map (·.name)).map V.str++(c2.map (·.name)).map V.str)))
 generalize upd H3 nl (.lst ((c1.map (·.name)).map V.str++(c2.map (·.name)).map V.str))=H4 at s04 ⊢
 refine ⟨_,rfl,_,rfl,tl,_,rfl,s04 _ _ htl,?_⟩
 refine ⟨_,rfl,a1,_,rfl,.inr (SqT.of (s04 _ _ ha1)),fun lb hlb=>?_⟩
 have v6:=ao hlb (.lst w1)
 have s06:=s04.trans v6
 refine ⟨_,rfl,a2,rfl,⟨_,SqT.of (s06 _ _ ha2)⟩,fun D hD=>?_⟩
 have hlb6:(upd H4 lb (.lst w1)) lb=some (.lst w1):=ah
 generalize upd H4 lb (.lst w1)=H6 at v6 s06 hlb6 hD ⊢
 refine dX (K:=K) (a:=a2) (xs:=w2) (fun i ys H7=>Same H6 H7∧Paired (BellAt H7) ys ((c2.take i).map (mvB c1.length))) ⟨ao hD _,.nil⟩ (fun i ys H7 _ ⟨z,_⟩=>SqT.of ((s06.trans z) _ _ ha2)) ?_ ?_
 ·rintro i x ys H7 hx ⟨s7,hy⟩ hD7
  obtain ⟨b,hb,hbx⟩:=aZ p2 hx
  have hi:i<c2.length:=(List.getElem?_eq_some_iff.mp hb).1
  have s07:=s06.trans s7
  refine ⟨rfl,bo ?_⟩
  refine ⟨_,rfl,_,rfl,a1,_,rfl,.inr (SqT.of (s07 _ _ ha1)),x,b,w1.length,rfl,hbx.mono (Same.tup s07),(g2.gb b (List.mem_of_getElem? hb)).n6,fun H8 v' s8 hv'=>?_⟩
  have hyl:=aE hy
  rw [List.length_map,List.length_take] at hyl
  have hD8:=s8 _ _ hD7
  have tS:=gy hD8 (ys++[v'])
  refine ⟨_,hD8,aW (by omega),_,⟨(s7.trans s8).upd hD _,?_⟩,ah⟩
  rw [take_snoc hb,List.map_append]
  rw [e1] at hv'
  exact b8 (hv'.mono tS) (aO (fun _ _ z=>(z.mono (Same.tup s8)).mono tS) hy)
 rintro ys H7 ⟨s67,hy⟩ hD7
 rw [e2,List.take_length] at hy
 have hyl:=aE hy
 rw [List.length_map] at hyl
 have s07:=s06.trans s67
 refine ⟨lb,D,_,_,rfl,rfl,s67 _ _ hlb6,hD7,(by rw [sizeLine_eq]; omega),fun lc hlc=>?_⟩
 have v8:=ao hlc (.lst (w1++ys))
 have s08:=s07.trans v8
 have hfs:Paired (BellAt (upd H7 lc (.lst (w1++ys)))) (w1++ys) (cf c1 c2):=lX (aO (fun _ _ z=>z.mono (Same.tup s08)) p1) (aO (fun _ _ z=>z.mono (Same.tup v8)) hy)
 have hlc8:(upd H7 lc (.lst (w1++ys))) lc=some (.lst (w1++ys)):=ah
 generalize upd H7 lc (.lst (w1++ys))=H8 at v8 s08 hfs hlc8 ⊢
 clear hD hlb v6 s67 s06 s07 hy hD7 hlb6 v8 hlc
 have hfl:=aE hfs
 have hcl:=jj c1 c2
 have gc:=kS g1 g2 h6 dj
 refine ⟨_,rfl,lc,rfl,⟨_,SqL.of hlc8⟩,fun D2 hD2=>?_⟩
 refine cX (K:=K) (a:=lc) (xs:=w1++ys) (fun i zs H9=>Same H8 H9∧Paired (BellAt H9) zs ((cf c1 c2).take i)) ⟨ao hD2 _,.nil⟩ (fun i zs H9 _ ⟨z,_⟩=>SqL.of (z _ _ hlc8)) ?_ ?_
 ·rintro i x zs H9 hx ⟨s9,hz⟩ hD9
  obtain ⟨b,hb,hbx⟩:=aZ hfs hx
  have hi:i<(cf c1 c2).length:=(List.getElem?_eq_some_iff.mp hb).1
  have s09:=s08.trans s9
  refine ⟨rfl,bo ?_⟩
  refine ⟨_,rfl,_,rfl,_,rfl,x,b,tl,_,rfl,hbx.mono (Same.tup s9),(gc.gb b (List.mem_of_getElem? hb)).n6,s09 _ _ htl,fun HA v' sA hv'=>?_⟩
  have hzl:=aE hz
  rw [List.length_take] at hzl
  have hDA:=sA _ _ hD9
  have tS:=gy hDA (zs++[v'])
  refine ⟨_,hDA,aW (by omega),_,⟨(s9.trans sA).upd hD2 _,?_⟩,ah⟩
  rw [take_snoc hb]
  exact b8 (hv'.mono tS) (aO (fun _ _ z=>(z.mono (Same.tup sA)).mono tS) hz)
 rintro zs H9 ⟨s9,hz⟩ hD9
 rw [hfl,List.take_length] at hz
 refine ⟨D2,_,rfl,.inl ⟨SqL.of hD9,fun tt htt=>?_⟩⟩
 have vA:=ao htt (.tup zs)
 have s0A:=s08.trans (s9.trans vA)
 have hzA:Paired (BellAt (upd H9 tt (.tup zs))) zs (cf c1 c2):=aO (fun _ _ z=>z.mono (Same.tup vA)) hz
 have hT:ThAt (upd H9 tt (.tup zs)) (.tup ((cf c1 c2).map eO)) (.ref tt):=⟨tt,zs,rfl,ah,vO (fun b hb=>by have:=gc.len b hb; omega) hzA⟩
 refine ⟨.ref tt,(cf c1 c2).map eO,rfl,hT,by rw [List.length_map]; exact gc.c1,by rw [List.length_map]; exact gc.c6,Ab gc,fun H' s'=>?_⟩
 exact q H' _ (s0A.trans s') ⟨tt,zs,rfl,s' _ _ ah,aO (fun _ _ z=>z.mono (Same.tup s')) hzA⟩
end
end K83
namespace K83
open PySem L2
def nmS (L s i:Nat):Str:=⟨(List.replicate (s+1) L++[97+i]).toArray⟩
structure SmB (m:Nat) (b:Bell):Prop where
 g:GoodB m 0 true b
 s9:b.start≤9
 l9:∀ l∈b.lis,l.beats≤9
structure SmL (m:Nat) (l:Lis):Prop where
 w:l.whom<m
 b1:1≤l.beats
 b9:l.beats≤9
theorem sT (n c:Nat):(List.replicate n [c]).flatten=List.replicate n c:=by
 induction n with
 | zero=>rfl
 | succ n ih=>rw [List.replicate_succ,List.flatten_cons,ih]; rfl
theorem Bw (i:Nat) (h:i<3):atI ("abc":Str).cps.toList (i:Int)=some (97+i):=by
 match i,h with
 | 0,_=>decide +kernel
 | 1,_=>decide +kernel
 | 2,_=>decide +kernel
 | n+3,h=>omega
section
variable {P:Program} {w:World} {K:PySem.W.Frag} {mg:Str→Option Value} {base:Heap} {f:Addr} {fd:FuncData}
def mi (K:PySem.W.Frag):Sp:=fun vs H Q _=>∃ (a:Addr) (ns:List Int) (k:Nat) (lt:Str) (L:Nat),vs=[.ref a,.int (k:Int),.str lt]∧lt.cps.toList=[L]∧SqL K H a (ns.map V.int)∧k≤900∧
 ∀ (H':Hp) (v:V) (c:List Bell) (sz:Nat),Same H H'→ChoirAt H' v c→1≤c.length→c.length≤3→sz<5→(∀ b∈c,SmB c.length b)→(∀ (i:Nat) b,c[i]?=some b→b.name=nmS L sz i)→Q v H'
theorem cu:FnScope ["_law_script","_law_k","_law_letter","_law_pack_here","_law_many","_law_size","_law_bells","_law_place","_law_start","_law_listenings","_law_j","_law_name","_law_whom","_law_back"] ["_law_script","_law_k","_law_letter"] (aq oi):=⟨rfl,rfl,rfl,by decide +kernel,rfl,by decide +kernel,by decide +kernel⟩
theorem wO (F:Fun K "_law_small" "_law_small" oi f fd) (B:Blt mg) (C_pack:Cal P w K mg base 1 "_law_pack" ["_law_script","_law_k"] (kx K)) (C_take:Cal P w K mg base 1 "_law_take" ["_law_pack_here","_law_many"] i7) (C_rule:Cal P w K mg base 2 "_law_rule" ["_law_pack_here","_law_sort","_law_many"] mm):FnOk P w K mg base CX0 3 f fd ["_law_script","_law_k","_law_letter"] (mi K):=by
 refine F.ok cu (fun vs H Q E h=>?_) (fun cdv A outer s H vs Q E hr h=>?_)
 ·obtain ⟨a,ns,k,lt,L,rfl,_⟩:=h
  rfl
 obtain ⟨a,ns,k,lt,L,rfl,hL,hS,hk,q⟩:=h
 refine ⟨_,(af (aJ (i:=3) cu.nd rfl (Or.inl rfl) (az C_pack hr (by decide) rfl (aa (pv 0) (aa (pv 1) ae))))
  (af (aJ (i:=4) cu.nd rfl (Or.inl rfl) (aV cm aj (az C_take hr (by decide) rfl (aa (pv 3) (aa aj ae)))))
  (af (aJ (i:=5) cu.nd rfl (Or.inl rfl) (az C_take hr (by decide) rfl (aa (pv 3) (aa aj ae))))
  (af (aJ (i:=6) cu.nd rfl (Or.inl rfl) (cD ae))
  (af (cL PassesOwn.never rfl (fz rfl B.range_ (aa (pv 4) ae)) (aI (i:=7) cu.nd rfl (Or.inl rfl))
  (af (aJ (i:=3) cu.nd rfl (Or.inl rfl) (az C_pack hr (by decide) rfl (aa (pv 0) (aa (aV cm (aV cm (pv 1) aj) (pv 7)) ae))))
  (af (aJ (i:=8) cu.nd rfl (Or.inl rfl) (az C_take hr (by decide) rfl (aa (pv 3) (aa aj ae))))
  (af (aJ (i:=9) cu.nd rfl (Or.inl rfl) (cD ae))
  (af (cL PassesOwn.never rfl (fz rfl B.range_ (aa (aV cm aj (az C_take hr (by decide) rfl (aa (pv 3) (aa aj ae)))) ae)) (aI (i:=10) cu.nd rfl (Or.inl rfl))
  (af (aJ (i:=12) cu.nd rfl (Or.inl rfl) (az C_take hr (by decide) rfl (aa (pv 3) (aa (pv 4) ae))))
  (af (aJ (i:=13) cu.nd rfl (Or.inl rfl) (ar ax (cD (aa aj (aa aj (aa (aX uc rfl B.int_ PyProof.Rows.boot_int (aa (dI CI (pv 12) (pv 7) (aL _)) ae)) (aa aj ae))))) (az C_take hr (by decide) rfl (aa (pv 3) (aa aj ae))) (fun _ _=>rfl)))
  (ak (bp (dh PySem.F.plainAttrs_list PySem.F.slot_list_append PySem.F.type_list_append cz (pv 9) (aa (dZ (aa (pv 12) (aa (aV cm aj (az C_take hr (by decide) rfl (aa (pv 3) (aa aj ae)))) (aa (pv 13) ae)))) ae)))))))
  (af (aJ (i:=11) cu.nd rfl (Or.inl rfl) (aV a8 (aV pF (pv 2) (aV cm aj (pv 5))) (ar vM aB (pv 7) (fun _ _=>rfl))))
  (ak (bp (dh PySem.F.plainAttrs_list PySem.F.slot_list_append PySem.F.type_list_append cz (pv 6) (aa (dZ (aa (pv 11) (aa (pv 8) (aa (az C_rule hr (by decide) rfl (aa (pv 3) (aa aj (aa (ay aM rfl B.len_ PySem.boot_len (aa (pv 9) ae)) ae)))) (aa (aX ck rfl B.tuple_ PyProof.Rows.boot_tuple (aa (pv 9) ae)) ae))))) ae))))))))))
  (ak (av (aX ck rfl B.tuple_ PyProof.Rows.boot_tuple (aa (pv 6) ae))))))))),?_⟩
 have ltl:lt.length=1:=by rw [← bq,hL]; rfl
 refine ⟨_,rfl,_,rfl,a,ns,k,rfl,hS,by omega,fun H1 p s1 p0 pk1=>?_⟩
 refine ⟨_,rfl,p,k,_,rfl,pk1,by omega,by decide,by decide,fun m H2 hm b2 pk2=>?_⟩
 refine ⟨_,_,rfl,rfl,?_⟩
 refine ⟨_,rfl,p,k,_,rfl,pk2,by omega,by decide,by decide,fun sz H3 hsz b3 pk3=>?_⟩
 have em:(1:Int)+(m:Int)=((m+1:Nat):Int):=by omega
 dsimp only
 rw [em]
 have s03:Same H H3:=(b2.trans b3).same s1 p0
 refine ⟨(by show 0≤sizeLine; decide),fun l hl=>?_⟩
 have l0:H l=none:=s03.free hl
 have s04:=s03.trans (ao hl (.lst []))
 have hl4:(upd H3 l (.lst [])) l=some (.lst []):=ah
 generalize upd H3 l (.lst [])=H4 at s04 hl4 ⊢
 clear b2 b3 pk1 pk2 pk3 s03 hl s1 p0
 refine ⟨_,rfl,_,rfl,by omega,by omega,?_⟩
 refine hV (lo:=0) (n:=((m+1:Nat):Int).toNat) (fun i σ H5=>∃ (pp:V) (o7 o8 o9 o10 o11 o12 o13:Option V) (vs:List V) (bs:List Bell),σ=[some (.ref a),some (.int (k:Int)),some (.str lt),some pp,some (.int ((m+1:Nat):Int)),some (.int (sz:Int)),some (.ref l),o7,o8,o9,o10,o11,o12,o13]∧
   Same H H5∧H5 l=some (.lst vs)∧Paired (BellAt H5) vs bs∧bs.length=i∧(∀ b∈bs,SmB (m+1) b)∧∀ (j:Nat) b,bs[j]?=some b→b.name=nmS L sz j)
  ⟨_,none,none,none,none,none,none,none,[],[],rfl,s04,hl4,.nil,rfl,fun _ h=>(nomatch h),fun j b h=>(nomatch h)⟩ ?_ ?_
 ·rintro i σ H5 hi ⟨pp,o7,o8,o9,o10,o11,o12,o13,vs,bs,rfl,s5,hl5,pr5,hbs,gb,gn⟩
  rw [Int.toNat_natCast] at hi
  have ek:(k:Int)+1+(0+(i:Int))=((k+1+i:Nat):Int):=by omega
  refine ⟨_,rfl,_,rfl,_,_,rfl,rfl,_,rfl,_,_,rfl,rfl,a,ns,k+1+i,(by show [V.ref a,V.int ((k:Int)+1+(0+(i:Int)))]=[V.ref a,V.int ((k+1+i:Nat):Int)]; rw [ek]),s5.seq hS,by omega,fun H6 p s6 p0 pk6=>?_⟩
  have pl:p≠l:=fun e=>by rw [e,hl5] at p0; cases p0
  refine ⟨_,rfl,p,k+1+i,_,rfl,pk6,by omega,by decide,by decide,fun st H7 hst b7 pk7=>?_⟩
  refine ⟨(by show 0≤sizeLine; decide),fun y hy=>?_⟩
  have yp:=pk7.ne hy
  have b57:But p H5 H7:=(Same.but s6).trans b7
  have y0:H5 y=none:=by
   obtain ⟨x,hx⟩:=pk7
   exact b57.free hx hy
  have s8:=ao hy (.lst [])
  have hy8:(upd H7 y (.lst [])) y=some (.lst []):=ah
  have pk8:=pk7.same s8
  have b58:But p H5 (upd H7 y (.lst [])):=b57.trans (Same.but s8)
  generalize upd H7 y (.lst [])=H8 at s8 hy8 pk8 b58 ⊢
  refine ⟨_,rfl,p,k+1+i,_,rfl,pk8,by omega,by decide,by decide,fun n H9 hn b9 pk9=>?_⟩
  refine ⟨_,_,rfl,rfl,_,rfl,by omega,by omega,?_⟩
  have b59:=b58.trans b9
  have hy9:=b9 _ _ yp hy8
  clear b7 b57 s8 hy8 pk8 b58 b9 pk7 pk6
  refine hV (lo:=0) (n:=((1:Int)+(n:Int)).toNat) (fun j σ HA=>∃ (o10 o12 o13:Option V) (us:List V) (ls:List Lis),σ=[some (.ref a),some (.int (k:Int)),some (.str lt),some (.ref p),some (.int ((m+1:Nat):Int)),some (.int (sz:Int)),some (.ref l),some (.int (0+(i:Int))),some (.int (st:Int)),some (.ref y),o10,o11,o12,o13]∧
    But p H5 HA∧PkAt HA p (k+1+i)∧HA y=some (.lst us)∧Paired (LisAt HA) us ls∧ls.length=j∧∀ x∈ls,SmL (m+1) x)
   ⟨_,_,_,[],[],rfl,b59,pk9,hy9,.nil,rfl,fun _ h=>(nomatch h)⟩ ?_ ?_
  ·rintro j σ HA hj ⟨o10,o12,o13,us,ls,rfl,bA,pkA,hyA,prA,hls,gl⟩
   refine ⟨_,rfl,_,rfl,p,k+1+i,_,rfl,pkA,by omega,by omega,by omega,fun wh HB hwh bB pkB=>?_⟩
   refine ⟨_,rfl,_,rfl,_,_,rfl,rfl,.inr ⟨_,rfl,(by show 4≤sizeLine; decide),fun z hz=>?_⟩⟩
   have zp:=pkB.ne hz
   have sC:=ao hz (.lst [.int 1,.int 1,.int (if decide ((0+(i:Int))≤(wh:Int))=true then 1 else 0),.int 0])
   have hzC:(upd HB z (.lst [.int 1,.int 1,.int (if decide ((0+(i:Int))≤(wh:Int))=true then 1 else 0),.int 0])) z=some (.lst [.int 1,.int 1,.int (if decide ((0+(i:Int))≤(wh:Int))=true then 1 else 0),.int 0]):=ah
   have pkC:=pkB.same sC
   generalize upd HB z (.lst [.int 1,.int 1,.int (if decide ((0+(i:Int))≤(wh:Int))=true then 1 else 0),.int 0])=HC at sC hzC pkC ⊢
   refine ⟨_,rfl,p,k+1+i,_,rfl,pkC,by omega,by decide,by decide,fun d HD hd bD pkD=>?_⟩
   obtain ⟨bb,hbb⟩:∃ bb:Bool,atI [V.int 1,V.int 1,V.int (if decide ((0+(i:Int))≤(wh:Int))=true then 1 else 0),V.int 0] (d:Int)=some (.int (if bb then 1 else 0)):=by
    match d,hd with
    | 0,_=>exact ⟨true,rfl⟩
    | 1,_=>exact ⟨true,rfl⟩
    | 2,_=>exact ⟨decide ((0+(i:Int))≤(wh:Int)),rfl⟩
    | 3,_=>exact ⟨false,rfl⟩
    | e+4,h=>omega
   refine ⟨z,_,_,_,rfl,rfl,SqL.of (bD _ _ zp hzC),hbb,?_⟩
   have bAD:But p HA HD:=bB.trans ((Same.but sC).trans bD)
   have hyD:=bAD _ _ yp hyA
   refine ⟨_,rfl,.inl ⟨rfl,_,SqL.of hyD⟩,_,rfl,_,rfl,p,k+1+i,_,rfl,pkD,by omega,by decide,by decide,fun bt HE hbt bE pkE=>?_⟩
   have bAE:=bAD.trans bE
   have hyE:=bE _ _ yp hyD
   refine ⟨_,_,rfl,rfl,_,rfl,(by show 3≤sizeLine; decide),fun t ht=>?_⟩
   have sF:=ao ht (.tup [.int (wh:Int),.int (1+(bt:Int)),.int (if bb then 1 else 0)])
   have htF:(upd HE t (.tup [.int (wh:Int),.int (1+(bt:Int)),.int (if bb then 1 else 0)])) t=some (.tup (AQ ⟨wh,1+(bt:Int),bb⟩)):=ah
   have hyF:=sF _ _ hyE
   have ty:t≠y:=d6 htF hyF (by intro z; cases z)
   have ul:=aE prA
   have prE:Paired (LisAt HE) us ls:=aO (fun _ _ x=>x.mono (pkA.tup bAE)) prA
   refine ⟨y,us,_,rfl,rfl,hyF,aW (by omega),?_⟩
   have tS:iy HE (upd (upd HE t (.tup [.int (wh:Int),.int (1+(bt:Int)),.int (if bb then 1 else 0)])) y (.lst (us++[.ref t]))):=fun b xs e=>by
    rw [au (d6 e hyE (by intro z; cases z))]
    exact sF _ _ e
   refine ⟨_,_,_,us++[.ref t],ls++[⟨wh,1+(bt:Int),bb⟩],rfl,?_,?_,ah,?_,?_,fun x hx=>?_⟩
   ·exact fun b o n e=>by
     rw [au (aG e y0)]
     exact sF _ _ (bAE b o n (bA b o n e))
   ·obtain ⟨x,hx⟩:=pkE
    exact ⟨x,by rw [au (Ne.symm yp)]; exact sF _ _ hx⟩
   ·exact b8 ⟨t,rfl,by rw [au ty]; exact htF⟩ (aO (fun _ _ x=>x.mono tS) prE)
   ·rw [List.length_append,hls]
    rfl
   ·rcases List.mem_append.mp hx with h | h
    ·exact gl x h
    ·rw [List.mem_singleton.mp h]
     exact ⟨by show wh<m+1; omega,by show (1:Int)≤1+(bt:Int); omega,by show 1+(bt:Int)≤9; omega⟩
  ·rintro σ HA ⟨o10,o12,o13,us,ls,rfl,bA,pkA,hyA,prA,hls,gl⟩
   have ul:=aE prA
   have e0:(0:Int)+(i:Int)=(i:Int):=by omega
   refine ⟨_,rfl,_,rfl,_,_,rfl,rfl,lt,1+(sz:Int),rfl,rfl,by omega,by omega,by omega,fun r hrr=>?_⟩
   have rl:r.length=sz+1:=by
    rw [← bq,hrr,hL,sT,List.length_replicate]
    omega
   refine ⟨_,rfl,("abc":Str),0+(i:Int),97+i,rfl,rfl,(by decide +kernel),(by rw [e0]; exact Bw i (by omega)),_,_,rfl,rfl,(by show r.length+(⟨#[97+i]⟩:Str).length≤sizeLine; rw [sizeLine_eq]; show r.length+1≤_; omega),?_⟩
   have en:r++(⟨#[97+i]⟩:Str)=nmS L sz i:=cQ (by
    rw [br,hrr,hL,sT]
    show _=List.replicate (sz+1) L++[97+i]
    rw [show (1+(sz:Int)).toNat=sz+1 by omega])
   dsimp only
   rw [en]
   have hlA:=bA _ _ (Ne.symm pl) hl5
   refine ⟨_,rfl,.inl ⟨rfl,_,SqL.of hlA⟩,_,rfl,_,rfl,_,rfl,_,rfl,y,_,rfl,.inl (SqL.of hyA),p,k+1+i,us.length,rfl,pkA,by omega,by omega,fun HB rr bB pkB gr=>?_⟩
   have hyB:=bB _ _ yp hyA
   refine ⟨_,rfl,y,_,rfl,.inl ⟨SqL.of hyB,fun t ht=>?_⟩⟩
   refine ⟨(by show 4≤sizeLine; decide),fun x hx=>?_⟩
   have s9:=ao ht (.tup us)
   have s10:=ao hx (.tup [.str (nmS L sz i),.int (st:Int),rwV rr,.ref t])
   have s910:=s9.trans s10
   have b5B:=bA.trans bB
   have s5C:Same H5 (upd (upd HB t (.tup us)) x (.tup [.str (nmS L sz i),.int (st:Int),rwV rr,.ref t])):=(b5B.trans (Same.but s910)).same (.refl H5) p0
   have hlC:=s5C _ _ hl5
   have hxC:(upd (upd HB t (.tup us)) x (.tup [.str (nmS L sz i),.int (st:Int),rwV rr,.ref t])) x=some (.tup [.str (nmS L sz i),.int (st:Int),rwV rr,.ref t]):=ah
   have htC:(upd (upd HB t (.tup us)) x (.tup [.str (nmS L sz i),.int (st:Int),rwV rr,.ref t])) t=some (.tup us):=s10 _ _ ah
   have prC:Paired (LisAt (upd (upd HB t (.tup us)) x (.tup [.str (nmS L sz i),.int (st:Int),rwV rr,.ref t]))) us ls:=aO (fun _ _ y=>(y.mono (pkA.tup bB)).mono (Same.tup s910)) prA
   generalize upd (upd HB t (.tup us)) x (.tup [.str (nmS L sz i),.int (st:Int),rwV rr,.ref t])=HC at s5C hlC hxC htC prC ⊢
   have vl:=aE pr5
   refine ⟨l,vs,_,rfl,rfl,hlC,aW (by omega),?_⟩
   have tS:iy HC (upd HC l (.lst (vs++[.ref x]))):=gy hlC _
   refine ⟨_,_,_,_,_,_,_,_,vs++[.ref x],bs++[⟨nmS L sz i,(st:Int),rr,ls⟩],rfl,(s5.trans s5C).upd l0 _,ah,?_,?_,fun b hb=>?_,fun j b hb=>?_⟩
   ·exact b8 (BellAt.mono tS ⟨x,t,us,rfl,hxC,htC,prC⟩) (aO (fun _ _ z=>(z.mono (Same.tup s5C)).mono tS) pr5)
   ·rw [List.length_append,hbs]
    rfl
   ·rcases List.mem_append.mp hb with h | h
    ·exact gb b h
    ·rw [List.mem_singleton.mp h]
     refine ⟨⟨by show 1≤ls.length; omega,by show ls.length≤6; omega,by show (0:Int)≤(st:Int); omega,by show (st:Int)≤1000; omega,by rw [← ul]; exact gr,fun x hx=>?_⟩,by show (st:Int)≤9; omega,fun x hx=>(gl x hx).b9⟩
     have:=gl x hx
     exact ⟨this.w,this.b1,by have:=this.b9; omega,fun z=>(nomatch z)⟩
   ·by_cases hji:j<bs.length
    ·rw [List.getElem?_append_left hji] at hb
     exact gn j b hb
    ·have hjl:=(List.getElem?_eq_some_iff.mp hb).1
     rw [List.length_append] at hjl
     have ej:j=i:=by
      have:j<bs.length+1:=hjl
      omega
     rw [List.getElem?_append_right (by omega),ej,hbs,Nat.sub_self] at hb
     cases hb
     rw [ej]
 ·rintro σ H5 ⟨pp,o7,o8,o9,o10,o11,o12,o13,vs,bs,rfl,s5,hl5,pr5,hbs,gb,gn⟩
  rw [Int.toNat_natCast] at hbs
  refine ⟨_,rfl,l,_,rfl,.inl ⟨SqL.of hl5,fun t ht=>?_⟩⟩
  have s6:=ao ht (.tup vs)
  refine q _ _ bs sz (s5.trans s6) ⟨t,vs,rfl,ah,aO (fun _ _ x=>x.mono (Same.tup s6)) pr5⟩ (by omega) (by omega) (by omega) ?_ gn
  rw [hbs]
  exact gb
end
end K83
namespace K83.S
open PySem L2
theorem ifS {a b:Str} {p q:Prop} (e:a=b) (h:p):if decide (V.str a=V.str b)=true then p else q:=by
 rw [if_pos (decide_eq_true (by rw [e]))]
 exact h
theorem ifN {a b:Str} {p q:Prop} (e:a≠b) (h:q):if decide (V.str a=V.str b)=true then p else q:=by
 rw [if_neg (fun z=>e (by have z':=of_decide_eq_true z; injection z'))]
 exact h
theorem pd:("; ":Str).length=2:=by decide +kernel
theorem uT {zs:List Str} (h:∀ z∈zs,z.length≤140) (h6:zs.length≤6):JoinOk "; " zs=true:=lq (by rw [pd]; decide) (by omega) fun z hz=>by have:=h z hz; omega
section
variable {P:Program} {w:World} {K:PySem.W.Frag} {mg:Str→Option Value} {base:Heap} {f:Addr} {fd:FuncData}
theorem mB:∀ (kvs:List (Key×V)) (k j:Key),bQ (dU kvs k) j=if j=k then none else bQ kvs j
 | [],k,j=>by split <;> rfl
 | p::r,k,j=>by
  have ih:=mB r k j
  unfold dU at ih ⊢
  rw [List.filter_cons]
  by_cases hp:p.1=k
  ·rw [if_neg (by simpa using hp),ih]
   by_cases hj:j=k
   ·rw [if_pos hj,if_pos hj]
   ·rw [if_neg hj,if_neg hj,cb (fun e=>hj (e.symm.trans hp))]
  ·rw [if_pos (decide_eq_true hp)]
   by_cases hj:p.1=j
   ·rw [cq hj,cq hj,if_neg (fun e=>hp (hj.trans e))]
   ·rw [cb hj,cb hj,ih]
theorem length_drop (kvs:List (Key×V)) (k:Key):(dU kvs k).length≤kvs.length:=List.length_filter_le _ _
def oq:Sp:=fun vs H Q _=>∃ (ch:V) (c:List Bell) (l:Addr) (w:Str) (i n:Nat) (b:Bell),vs=[ch,.ref l]∧ChoirAt H ch c∧GoodC c∧H l=some (.lst ([("stroke":Str),w,b.name,aK (n:Int)].map V.str))∧c[i]?=some b∧n≤1000∧∀ (H':Hp) o,Same H H'→c8 c n i o→Q (.str (fE o)) H'
theorem sS:FnScope ["choir","words","bell"] ["choir","words"] (aq jM):=⟨rfl,rfl,rfl,by decide +kernel,rfl,by decide +kernel,by decide +kernel⟩
theorem zW (F:Fun K "tell_of" "tell_of" jM f fd) (B:Blt mg) (C_place:Cal P w K mg base 1 "place_of" ["choir","name"] i4) (C_tstroke:Cal P w K mg base 8 "tell_stroke" ["choir","bell","n"] iB) :
  FnOk P w K mg base CX0 9 f fd ["choir","words"] oq:=by
 refine F.ok sS (fun vs H Q E h=>?_) (fun cdv A outer s H vs Q E hr h=>?_)
 ·obtain ⟨ch,c,l,w',i,n,b,rfl,_⟩:=h
  rfl
 obtain ⟨ch,c,l,w',i,n,b,rfl,hch,g,hl,hb,hn,q⟩:=h
 refine ⟨_,(af (aU (aC cF (ar ax (pv 1) aj (fun _ _=>rfl)) aB (aL _))
  aH
  aw)
  (af (aU (aC cF (ar ax (pv 1) aj (fun _ _=>rfl)) aB (aL _))
  aH
  aw)
  (af (aU (aC cF (ar ax (pv 1) aj (fun _ _=>rfl)) aB (aL _))
  aH
  aw)
  (af (aJ (i:=2) sS.nd rfl (Or.inl rfl) (az C_place hr (by decide) rfl (aa (pv 0) (aa (ar ax (pv 1) aj (fun _ _=>rfl)) ae))))
  (af (aU (aC cF (ar ax (pv 1) aj (fun _ _=>rfl)) aB (aL _))
  (ak (av (az C_tstroke hr (by decide) rfl (aa (pv 0) (aa (pv 2) (aa (aX cj rfl B.int_ PyProof.Rows.boot_int (aa (ar ax (pv 1) aj (fun _ _=>rfl)) ae)) ae))))))
  aw)
  aH))))),?_⟩
 have T0:SqL K H l ([("stroke":Str),w',b.name,aK (n:Int)].map V.str):=SqL.of hl
 refine ⟨_,rfl,l,_,_,_,rfl,rfl,T0,rfl,rfl,_,rfl,ifN (by decide +kernel) ?_⟩
 refine ⟨_,rfl,l,_,_,_,rfl,rfl,T0,rfl,rfl,_,rfl,ifN (by decide +kernel) ?_⟩
 refine ⟨_,rfl,l,_,_,_,rfl,rfl,T0,rfl,rfl,_,rfl,ifN (by decide +kernel) ?_⟩
 refine ⟨_,rfl,_,rfl,l,_,_,_,rfl,rfl,T0,rfl,ch,c,i,b,rfl,hch,g.c6,hb,g.nd,fun H1 s1=>?_⟩
 have T1:SqL K H1 l ([("stroke":Str),w',b.name,aK (n:Int)].map V.str):=SqL.of (s1 _ _ hl)
 refine ⟨_,rfl,l,_,_,_,rfl,rfl,T1,rfl,rfl,_,rfl,ifS rfl ?_⟩
 have nl:=bZ (show n<1001 by omega)
 refine ⟨_,rfl,_,rfl,_,rfl,l,_,_,_,rfl,rfl,T1,rfl,aK (n:Int),n,rfl,by omega,cV (by omega),?_⟩
 exact ⟨ch,c,i,n,rfl,hch.mono (Same.tup s1),g,(List.getElem?_eq_some_iff.mp hb).1,by omega,fun H2 o s2 so=>q H2 o (s1.trans s2) so⟩
structure DeskC (K:PySem.W.Frag) (C fi fs ft fk fc fp fl fj:Addr):Prop where
 cl:Cls K C
 nS:NoAttr K C "stands"
 mks:Mk K C fi
 say:Meth K C "say" fs
 std:Meth K C "standing" ft
 kp:Meth K C "keep" fk
 chr:Meth K C "say_choir" fc
 drp:Meth K C "say_drop" fp
 slw:Meth K C "say_slow" fl
 jon:Meth K C "say_join" fj
def DeskAt (C:Addr) (H:Hp) (D d:Addr) (kvs:List (Key×V)):Prop:=(∃ dx,H D=some (.ins C dx [("stands",.ref d)]))∧H d=some (.dK kvs)
theorem DeskAt.same {C:Addr} {H H':Hp} {D d:Addr} {kvs:List (Key×V)} (h:DeskAt C H D d kvs) (s:Same H H'):DeskAt C H' D d kvs:=by
 obtain ⟨⟨dx,h1⟩,h2⟩:=h
 exact ⟨⟨dx,s _ _ h1⟩,s _ _ h2⟩
def lT (K:PySem.W.Frag):Sp:=fun vs H Q _=>∃ (p C dx:Addr),vs=[.ref p]∧H p=some (.ins C dx [])∧Cls K C∧NoAttr K C "stands"∧∀ d,H d=none→Q .non (upd (upd H d (.dK [])) p (.ins C dx [("stands",.ref d)]))
theorem xo:FnScope ["self"] ["self"] (aq nI):=⟨rfl,rfl,rfl,by decide +kernel,rfl,by decide +kernel,by decide +kernel⟩
theorem vF (F:Fun K "__init__" "Desk.__init__" nI f fd):FnOk P w K mg base CX0 1 f fd ["self"] (lT K):=by
 refine F.ok xo (fun vs H Q E h=>?_) (fun cdv A outer s H vs Q E hr h=>?_)
 ·obtain ⟨p,C,dx,rfl,_⟩:=h
  rfl
 obtain ⟨p,C,dx,rfl,hp,cl,na,q⟩:=h
 refine ⟨_,(ak (qM (pv 0) wg rfl)),?_⟩
 intro d hd
 have ne:p≠d:=aG hp hd
 exact ⟨_,rfl,p,C,dx,[],rfl,by rw [au ne]; exact hp,cl,na,(by show 0<1000; decide),q d hd⟩
def fh (C:Addr):Sp:=fun vs H Q _=>∃ (D d:Addr) (kvs:List (Key×V)) (w:Str) (v:V),vs=[.ref D,.str w]∧DeskAt C H D d kvs∧bQ kvs (Sum.inr w)=some v∧Q v H
theorem yy:FnScope ["self","word"] ["self","word"] (aq gG):=⟨rfl,rfl,rfl,by decide +kernel,rfl,by decide +kernel,by decide +kernel⟩
theorem x5 {C fi fs ft fk fc fp fl fj:Addr} (F:Fun K "standing" "Desk.standing" gG f fd) (O:DeskC K C fi fs ft fk fc fp fl fj):FnOk P w K mg base CX0 1 f fd ["self","word"] (fh C):=by
 refine F.ok yy (fun vs H Q E h=>?_) (fun cdv A outer s H vs Q E hr h=>?_)
 ·obtain ⟨D,d,kvs,w',v,rfl,_⟩:=h
  rfl
 obtain ⟨D,d,kvs,w',v,rfl,⟨⟨dx,hD⟩,hd⟩,hv,q⟩:=h
 refine ⟨_,(af (aU (xW (u9 (xT hr) (pv 1) (iK (pv 0) rfl)))
  aH
  aw)
  (ak (av (y7 (xT hr) (iK (pv 0) rfl) (pv 1) (fun _ _=>rfl))))),?_⟩
 have dg:DGet H d (kV (Sum.inr w')) (some v):=by rw [← hv]; exact DGet.k hd
 refine ⟨_,rfl,_,rfl,D,C,dx,_,_,rfl,hD,O.cl,O.nS,rfl,d,some v,rfl,dg,_,rfl,bh ?_⟩
 exact ⟨_,rfl,D,C,dx,_,_,rfl,hD,O.cl,O.nS,rfl,_,rfl,d,v,rfl,dg,q⟩
def iW (C:Addr):Sp:=fun vs H Q _=>∃ (D d:Addr) (kvs:List (Key×V)) (w:Str) (v:V),vs=[.ref D,.str w,v]∧DeskAt C H D d kvs∧kvs.length≤900∧Q (.str "ok") (upd H d (.dK (putK kvs (Sum.inr w) v)))
theorem y6:FnScope ["self","word","choir"] ["self","word","choir"] (aq nG):=⟨rfl,rfl,rfl,by decide +kernel,rfl,by decide +kernel,by decide +kernel⟩
theorem zV {C fi fs ft fk fc fp fl fj:Addr} (F:Fun K "keep" "Desk.keep" nG f fd) (O:DeskC K C fi fs ft fk fc fp fl fj):FnOk P w K mg base CX0 1 f fd ["self","word","choir"] (iW C):=by
 refine F.ok y6 (fun vs H Q E h=>?_) (fun cdv A outer s H vs Q E hr h=>?_)
 ·obtain ⟨D,d,kvs,w',v,rfl,_⟩:=h
  rfl
 obtain ⟨D,d,kvs,w',v,rfl,⟨⟨dx,hD⟩,hd⟩,hl,q⟩:=h
 refine ⟨_,(af (Aa (xT hr) (iK (pv 0) rfl) (pv 1) (pv 2) rfl)
  (ak (av aB))),?_⟩
 exact ⟨_,rfl,_,rfl,D,C,dx,_,_,rfl,hD,O.cl,O.nS,rfl,_,rfl,d,_,rfl,DPut.k (k:=Sum.inr w') hd (by rw [sizeLine_eq]; omega),q⟩
structure Readable (zs:List Str) (cc:List Bell):Prop where
 n1:1≤zs.length
 n6:zs.length≤6
 short:∀ z∈zs,z.length≤140
 free:∀ z∈zs,59∉z.cps.toList
 good:∀ i z,zs[i]?=some z→iR (fH (zs.map d8) z) ((zs.map d8).take i) zs.length=true
 told:zs.map (fH (zs.map d8))=cc.map eO
theorem w4:("; ":Str).cps.toList=59::[32]:=by decide +kernel
theorem uq:Builtin.Str.strKind ("; ":Str)=1:=by decide +kernel
theorem Readable.split {zs:List Str} {cc:List Bell} (h:Readable zs cc):Txt.split (Txt.join "; " zs) "; "=zs:=qV w4 uq (rW "; " zs) (fun e=>by have:=h.n1; rw [e] at this; exact absurd this (by decide)) h.free
theorem Readable.len {zs:List Str} {cc:List Bell} (h:Readable zs cc):(Txt.join "; " zs).length≤1000:=by
 have h2:=StrLaws.sumLen_le _ h.short
 have h4:=StrLaws.join_length_le "; " zs
 have e2:Txt.join "; " zs=Str.join "; " zs:=StrLaws.glued_eq_join _ _
 have n6:=h.n6
 rw [e2]
 rw [pd] at h4
 omega
def jm (C:Addr):Sp:=fun vs H Q _=>∃ (D d l:Addr) (kvs:List (Key×V)) (p w:Str) (zs:List Str) (cc:List Bell),vs=[.ref D,.ref l]∧DeskAt C H D d kvs∧kvs.length≤900∧H l=some (.lst [.str p,.str w,.str (Txt.join "; " zs)])∧a9 w=true∧Readable zs cc∧
 ∀ H' v,But d H H'→H' d=some (.dK (putK kvs (Sum.inr w) v))→ChoirAt H' v cc→Q (.str "ok") H'
theorem uI:FnScope ["self","parts"] ["self","parts"] (aq f6):=⟨rfl,rfl,rfl,by decide +kernel,rfl,by decide +kernel,by decide +kernel⟩
theorem cO {z:Str} (h:a9 z=true):z.length≤8:=by
 have h':(decide (1≤z.length) && decide (z.length≤8) && z.cps.toList.all gP)=true:=h
 rw [Bool.and_eq_true,Bool.and_eq_true] at h'
 exact of_decide_eq_true h'.1.2
theorem ub {C fi fs ft fk fc fp fl fj:Addr} {dk:FuncData} (F:Fun K "say_choir" "Desk.say_choir" f6 f fd) (B:Blt mg) (O:DeskC K C fi fs ft fk fc fp fl fj) (GK:FnOk P w K mg base CX0 1 fk dk ["self","word","choir"] (iW C)) (bK:Binds K dk ["self","word","choir"] []) (C_word:Cal P w K mg base 1 "is_word" ["thing"] ja) (C_read:Cal P w K mg base 8 "read_choir" ["rows"] ot) :
  FnOk P w K mg base CX0 9 f fd ["self","parts"] (jm C):=by
 refine F.ok uI (fun vs H Q E h=>?_) (fun cdv A outer s H vs Q E hr h=>?_)
 ·obtain ⟨D,d,l,kvs,p,w',zs,cc,rfl,_⟩:=h
  rfl
 obtain ⟨D,d,l,kvs,p,w',zs,cc,rfl,dk0,kl,hl,hw,rd,q⟩:=h
 have hr1:Room 1 _:=hr.mono (by decide)
 refine ⟨_,(af (aU (PW.pt (eC (aC nh (ay aM rfl B.len_ PySem.boot_len (aa (pv 1) ae)) aj (aL _)) (cT (bw (bG (az C_word hr (by decide) rfl (aa (ar ax (pv 1) aj (fun _ _=>rfl)) ae)))))))
  aH
  aw)
  (ak (av (bM (pv 0) GK hr1 bK .nil bN (aa (ar ax (pv 1) aj (fun _ _=>rfl)) (aa (az C_read hr (by decide) rfl (aa (dh PySem.F.plainAttrs_str PySem.F.slot_str_split PySem.F.type_str_split i9 (ar ax (pv 1) aj (fun _ _=>rfl)) (aa aB ae)) ae)) ae)))))),?_⟩
 have T0:SqL K H l [.str p,.str w',.str (Txt.join "; " zs)]:=SqL.of hl
 refine ⟨_,rfl,l,_,rfl,.inl T0,_,_,rfl,rfl,_,rfl,bh ?_⟩
 have w8:=cO hw
 refine ⟨_,rfl,l,_,_,_,rfl,rfl,T0,rfl,.str w',.str w',rfl,⟨rfl,by omega⟩,fun H1 s1=>?_⟩
 have ew:mV (.str w')=true:=hw
 rw [ew]
 refine ⟨_,rfl,bh ?_⟩
 obtain ⟨⟨dx,hD⟩,hd⟩:=id dk0
 have T1:SqL K H1 l [.str p,.str w',.str (Txt.join "; " zs)]:=SqL.of (s1 _ _ hl)
 refine ⟨_,rfl,C,D,dx,_,rfl,s1 _ _ hD,O.cl,O.kp,rfl,?_⟩
 refine ⟨_,rfl,l,_,_,_,rfl,rfl,T1,rfl,?_⟩
 have jl:=rd.len
 refine ⟨_,rfl,l,_,_,_,rfl,rfl,T1,rfl,rfl,Txt.join "; " zs,"; ",rfl,rfl,(by decide +kernel),by omega,fun p2 hp2=>?_⟩
 rw [rd.split]
 have s2:=ao hp2 (.lst (zs.map V.str))
 refine ⟨p2,zs,rfl,ah,rd.n1,rd.n6,fun z hz=>by have:=rd.short z hz; omega,rd.good,fun H3 v s3 th=>?_⟩
 rw [rd.told] at th
 have s13:=s1.trans (s2.trans s3)
 have hd3:=s13 _ _ hd
 have hch:=pI th
 refine ⟨D,d,kvs,w',v,rfl,dk0.same s13,kl,?_⟩
 refine q _ v (fun a o ne e=>by rw [au ne]; exact s13 _ _ e) ah (hch.mono fun b xs e=>?_)
 rw [au (d6 e hd3 (by intro z; cases z))]
 exact e
def lF (C:Addr):Sp:=fun vs H Q _=>∃ (D d l:Addr) (kvs:List (Key×V)) (w:Str) (v:V),vs=[.ref D,.ref l]∧DeskAt C H D d kvs∧H l=some (.lst ([("drop":Str),w].map V.str))∧bQ kvs (Sum.inr w)=some v∧Q (.str "ok") (upd H d (.dK (dU kvs (Sum.inr w))))
theorem yr:FnScope ["self","words"] ["self","words"] (aq gU):=⟨rfl,rfl,rfl,by decide +kernel,rfl,by decide +kernel,by decide +kernel⟩
theorem ym {C fi fs ft fk fc fp fl fj:Addr} {dt:FuncData} (F:Fun K "say_drop" "Desk.say_drop" gU f fd) (O:DeskC K C fi fs ft fk fc fp fl fj) (GT:FnOk P w K mg base CX0 1 ft dt ["self","word"] (fh C)) (bT:Binds K dt ["self","word"] []):FnOk P w K mg base CX0 2 f fd ["self","words"] (lF C):=by
 refine F.ok yr (fun vs H Q E h=>?_) (fun cdv A outer s H vs Q E hr h=>?_)
 ·obtain ⟨D,d,l,kvs,w',v,rfl,_⟩:=h
  rfl
 obtain ⟨D,d,l,kvs,w',v,rfl,dk0,hl,hv,q⟩:=h
 have hr1:Room 1 _:=hr.mono (by decide)
 refine ⟨_,(af (bp (bM (pv 0) GT hr1 bT .nil bN (aa (ar ax (pv 1) aj (fun _ _=>rfl)) ae)))
  (af (bp (x8 (iK (pv 0) rfl) (ar ax (pv 1) aj (fun _ _=>rfl)) ⟨rfl,rfl,rfl,rfl⟩))
  (ak (av aB)))),?_⟩
 obtain ⟨⟨dx,hD⟩,hd⟩:=id dk0
 have T0:SqL K H l ([("drop":Str),w'].map V.str):=SqL.of hl
 refine ⟨_,rfl,C,D,dx,_,rfl,hD,O.cl,O.std,rfl,_,rfl,l,_,_,_,rfl,rfl,T0,rfl,?_⟩
 refine ⟨D,d,kvs,w',v,rfl,dk0,hv,?_⟩
 exact ⟨_,rfl,D,C,dx,_,_,rfl,hD,O.cl,O.nS,rfl,d,rfl,.inl ⟨kvs,.inl hd⟩,_,rfl,l,_,_,_,rfl,rfl,T0,rfl,kvs,Sum.inr w',v,hd,rfl,hv,q⟩
def lO (C:Addr):Sp:=fun vs H Q _=>∃ (D d l:Addr) (kvs:List (Key×V)) (w:Str) (v:V) (c:List Bell) (b p m:Nat) (bl:Bell) (ll:Lis),vs=[.ref D,.ref l]∧DeskAt C H D d kvs∧kvs.length≤900∧H l=some (.lst ([("slow":Str),w,bl.name,aK (p:Int),aK (m:Int)].map V.str))∧bQ kvs (Sum.inr w)=some v∧ChoirAt H v c∧GoodC c∧SlowAt c b p m bl ll∧p≤1000∧m≤1000∧
 ∀ H' v',But d H H'→H' d=some (.dK (putK kvs (Sum.inr w) v'))→ChoirAt H' v' (bz c b p m bl ll)→Q (.str "ok") H'
theorem kY:FnScope ["self","words","choir","bell"] ["self","words"] (aq gS):=⟨rfl,rfl,rfl,by decide +kernel,rfl,by decide +kernel,by decide +kernel⟩
theorem xP {C fi fs ft fk fc fp fl fj:Addr} {dt dk:FuncData} (F:Fun K "say_slow" "Desk.say_slow" gS f fd) (B:Blt mg) (O:DeskC K C fi fs ft fk fc fp fl fj) (GT:FnOk P w K mg base CX0 1 ft dt ["self","word"] (fh C)) (bT:Binds K dt ["self","word"] []) (GK:FnOk P w K mg base CX0 1 fk dk ["self","word","choir"] (iW C)) (bK:Binds K dk ["self","word","choir"] [])
  (C_place:Cal P w K mg base 1 "place_of" ["choir","name"] i4) (C_slower:Cal P w K mg base 4 "made_slower" ["choir","bell","place","more"] jq):FnOk P w K mg base CX0 5 f fd ["self","words"] (lO C):=by
 refine F.ok kY (fun vs H Q E h=>?_) (fun cdv A outer s H vs Q E hr h=>?_)
 ·obtain ⟨D,d,l,kvs,w',v,c,b,p,m,bl,ll,rfl,_⟩:=h
  rfl
 obtain ⟨D,d,l,kvs,w',v,c,b,p,m,bl,ll,rfl,dk0,kl,hl,hv,hch,g,S,hp,hm,q⟩:=h
 have hr1:Room 1 _:=hr.mono (by decide)
 refine ⟨_,(af (aJ (i:=2) kY.nd rfl (Or.inl rfl) (bM (pv 0) GT hr1 bT .nil bN (aa (ar ax (pv 1) aj (fun _ _=>rfl)) ae)))
  (af (aJ (i:=3) kY.nd rfl (Or.inl rfl) (az C_place hr (by decide) rfl (aa (pv 2) (aa (ar ax (pv 1) aj (fun _ _=>rfl)) ae))))
  (ak (av (bM (pv 0) GK hr1 bK .nil bN (aa (ar ax (pv 1) aj (fun _ _=>rfl)) (aa (az C_slower hr (by decide) rfl (aa (pv 2) (aa (pv 3) (aa (aX cj rfl B.int_ PyProof.Rows.boot_int (aa (ar ax (pv 1) aj (fun _ _=>rfl)) ae)) (aa (aX cj rfl B.int_ PyProof.Rows.boot_int (aa (ar ax (pv 1) aj (fun _ _=>rfl)) ae)) ae))))) ae))))))),?_⟩
 obtain ⟨⟨dx,hD⟩,hd⟩:=id dk0
 have T0:SqL K H l ([("slow":Str),w',bl.name,aK (p:Int),aK (m:Int)].map V.str):=SqL.of hl
 refine ⟨_,rfl,C,D,dx,_,rfl,hD,O.cl,O.std,rfl,_,rfl,l,_,_,_,rfl,rfl,T0,rfl,?_⟩
 refine ⟨D,d,kvs,w',v,rfl,dk0,hv,?_⟩
 refine ⟨_,rfl,_,rfl,l,_,_,_,rfl,rfl,T0,rfl,v,c,b,bl,rfl,hch,g.c6,S.hb,g.nd,fun H1 s1=>?_⟩
 have T1:SqL K H1 l ([("slow":Str),w',bl.name,aK (p:Int),aK (m:Int)].map V.str):=SqL.of (s1 _ _ hl)
 have pl:=bZ (show p<1001 by omega)
 have ml:=bZ (show m<1001 by omega)
 refine ⟨_,rfl,C,D,dx,_,rfl,s1 _ _ hD,O.cl,O.kp,rfl,_,rfl,l,_,_,_,rfl,rfl,T1,rfl,_,rfl,_,rfl,_,rfl,l,_,_,_,rfl,rfl,T1,rfl,aK (p:Int),p,rfl,by omega,cV (by omega),_,rfl,l,_,_,_,rfl,rfl,T1,rfl,aK (m:Int),m,rfl,by omega,cV (by omega),?_⟩
 refine ⟨v,c,b,p,m,bl,ll,rfl,hch.mono (Same.tup s1),g.c6,fun x hx=>(g.gb x hx).n6,S,fun v' H2 s2 hch2=>?_⟩
 have s12:=s1.trans s2
 refine ⟨D,d,kvs,w',v',rfl,dk0.same s12,kl,?_⟩
 have hd2:=s12 _ _ hd
 refine q _ v' (fun a o ne e=>by rw [au ne]; exact s12 _ _ e) ah (hch2.mono fun x xs e=>?_)
 rw [au (d6 e hd2 (by intro z; cases z))]
 exact e
def lK (C:Addr):Sp:=fun vs H Q _=>∃ (D d l:Addr) (kvs:List (Key×V)) (w w1 w2:Str) (v1 v2:V) (c1 c2:List Bell),vs=[.ref D,.ref l]∧DeskAt C H D d kvs∧kvs.length≤900∧H l=some (.lst ([("join":Str),w,w1,w2].map V.str))∧bQ kvs (Sum.inr w1)=some v1∧bQ kvs (Sum.inr w2)=some v2∧ChoirAt H v1 c1∧ChoirAt H v2 c2∧GoodC c1∧GoodC c2∧c1.length+c2.length≤6∧(∀ z∈c2.map (·.name),z∉c1.map (·.name))∧
 ∀ H' v',But d H H'→H' d=some (.dK (putK kvs (Sum.inr w) v'))→ChoirAt H' v' (cf c1 c2)→Q (.str "ok") H'
theorem lh:FnScope ["self","words","one","other"] ["self","words"] (aq gH):=⟨rfl,rfl,rfl,by decide +kernel,rfl,by decide +kernel,by decide +kernel⟩
theorem x4 {C fi fs ft fk fc fp fl fj:Addr} {dt dk:FuncData} (F:Fun K "say_join" "Desk.say_join" gH f fd) (O:DeskC K C fi fs ft fk fc fp fl fj) (GT:FnOk P w K mg base CX0 1 ft dt ["self","word"] (fh C)) (bT:Binds K dt ["self","word"] []) (GK:FnOk P w K mg base CX0 1 fk dk ["self","word","choir"] (iW C)) (bK:Binds K dk ["self","word","choir"] [])
  (C_joined:Cal P w K mg base 9 "joined" ["one","other","ties"] jz):FnOk P w K mg base CX0 10 f fd ["self","words"] (lK C):=by
 refine F.ok lh (fun vs H Q E h=>?_) (fun cdv A outer s H vs Q E hr h=>?_)
 ·obtain ⟨D,d,l,kvs,w',w1,w2,v1,v2,c1,c2,rfl,_⟩:=h
  rfl
 obtain ⟨D,d,l,kvs,w',w1,w2,v1,v2,c1,c2,rfl,dk0,kl,hl,hv1,hv2,h1,h2,g1,g2,h6,dj,q⟩:=h
 have hr1:Room 1 _:=hr.mono (by decide)
 refine ⟨_,(af (aJ (i:=2) lh.nd rfl (Or.inl rfl) (bM (pv 0) GT hr1 bT .nil bN (aa (ar ax (pv 1) aj (fun _ _=>rfl)) ae)))
  (af (aJ (i:=3) lh.nd rfl (Or.inl rfl) (bM (pv 0) GT hr1 bT .nil bN (aa (ar ax (pv 1) aj (fun _ _=>rfl)) ae)))
  (ak (av (bM (pv 0) GK hr1 bK .nil bN (aa (ar ax (pv 1) aj (fun _ _=>rfl)) (aa (az C_joined hr (by decide) rfl (aa (pv 2) (aa (pv 3) (aa (cD ae) ae)))) ae))))))),?_⟩
 obtain ⟨⟨dx,hD⟩,hd⟩:=id dk0
 have T0:SqL K H l ([("join":Str),w',w1,w2].map V.str):=SqL.of hl
 refine ⟨_,rfl,C,D,dx,_,rfl,hD,O.cl,O.std,rfl,_,rfl,l,_,_,_,rfl,rfl,T0,rfl,?_⟩
 refine ⟨D,d,kvs,w1,v1,rfl,dk0,hv1,?_⟩
 refine ⟨_,rfl,C,D,dx,_,rfl,hD,O.cl,O.std,rfl,_,rfl,l,_,_,_,rfl,rfl,T0,rfl,?_⟩
 refine ⟨D,d,kvs,w2,v2,rfl,dk0,hv2,?_⟩
 refine ⟨_,rfl,C,D,dx,_,rfl,hD,O.cl,O.kp,rfl,_,rfl,l,_,_,_,rfl,rfl,T0,rfl,_,rfl,_,rfl,(by show 0≤sizeLine; decide),fun tl htl=>?_⟩
 have s1:=ao htl (.lst [])
 refine ⟨v1,v2,tl,c1,c2,rfl,h1.mono (Same.tup s1),h2.mono (Same.tup s1),g1,g2,h6,dj,ah,fun H2 v' s2 hch2=>?_⟩
 have s12:=s1.trans s2
 refine ⟨D,d,kvs,w',v',rfl,dk0.same s12,kl,?_⟩
 have hd2:=s12 _ _ hd
 refine q _ v' (fun a o ne e=>by rw [au ne]; exact s12 _ _ e) ah (hch2.mono fun x xs e=>?_)
 rw [au (d6 e hd2 (by intro z; cases z))]
 exact e
structure RowOk (ws:List Str) (h0 fm:Str):Prop where
 a0:ws[0]?=some h0
 fv:bQ jC (Sum.inr h0)=some (.str fm)
 nc:h0≠"choir"
 na:h0≠"alike"
 ok:sv fm ws
 ln:ws.length≤100
 ne:ws≠[]
 fr:∀ z∈ws,32∉z.cps.toList
theorem dn {z:Str} (h:a9 z=true):32∉z.cps.toList:=fun q=>by
 have:=dC h 32 q
 omega
theorem mh {n:Nat} (h:n<1001):32∉(aK (n:Int)).cps.toList:=fun q=>by
 have:=iT h 32 q
 omega
theorem vU {m:Nat} (h:m<1001):d5 (aK (m:Int)) 4=true:=by
 have h9:=pM h
 have hl:=bZ h
 unfold d5 at h9 ⊢
 rw [Bool.and_eq_true,Bool.and_eq_true,Bool.and_eq_true] at h9 ⊢
 exact ⟨⟨⟨h9.1.1.1,decide_eq_true (by omega)⟩,h9.1.2⟩,h9.2⟩
theorem rB {w b:Str} {n:Nat} (hw:a9 w=true) (hb:a9 b=true) (hn:n≤1000):RowOk [("stroke":Str),w,b,aK (n:Int)] "stroke" "cbn":=by
 have nl_n:=bZ (show n<1001 by omega)
 refine ⟨rfl,by rfl,by decide +kernel,by decide +kernel,⟨rfl,by decide +kernel,fun i c z hc hz=>?_⟩,by show 4≤100; decide,List.cons_ne_nil _ _,?_⟩
 ·match i,hc,hz with
  | 0,hc,hz=>cases hc; cases hz; exact ⟨by have:=cO hw; omega,fun e=>absurd e (by decide),fun _=>hw⟩
  | 1,hc,hz=>cases hc; cases hz; exact ⟨by have:=cO hb; omega,fun e=>absurd e (by decide),fun _=>hb⟩
  | 2,hc,hz=>cases hc; cases hz; exact ⟨by omega,fun _=>vU (by omega),fun e=>absurd rfl e⟩
  | i+3,hc,hz=>cases hz
 ·intro z hz
  rcases List.mem_cons.mp hz with rfl | hz
  ·decide +kernel
  rcases List.mem_cons.mp hz with rfl | hz
  ·exact dn hw
  rcases List.mem_cons.mp hz with rfl | hz
  ·exact dn hb
  rw [List.mem_singleton.mp hz]
  exact mh (by omega)
theorem xy {w:Str} (hw:a9 w=true):RowOk [("drop":Str),w] "drop" "c":=by
 refine ⟨rfl,by rfl,by decide +kernel,by decide +kernel,⟨rfl,by decide +kernel,fun i c z hc hz=>?_⟩,by show 2≤100; decide,List.cons_ne_nil _ _,?_⟩
 ·match i,hc,hz with
  | 0,hc,hz=>cases hc; cases hz; exact ⟨by have:=cO hw; omega,fun e=>absurd e (by decide),fun _=>hw⟩
  | i+1,hc,hz=>cases hz
 ·intro z hz
  rcases List.mem_cons.mp hz with rfl | hz
  ·decide +kernel
  rw [List.mem_singleton.mp hz]
  exact dn hw
theorem xB {w b:Str} {p m:Nat} (hw:a9 w=true) (hb:a9 b=true) (hp:p≤1000) (hm:m≤1000):RowOk [("slow":Str),w,b,aK (p:Int),aK (m:Int)] "slow" "cbnn":=by
 have nl_p:=bZ (show p<1001 by omega)
 have nl_m:=bZ (show m<1001 by omega)
 refine ⟨rfl,by rfl,by decide +kernel,by decide +kernel,⟨rfl,by decide +kernel,fun i c z hc hz=>?_⟩,by show 5≤100; decide,List.cons_ne_nil _ _,?_⟩
 ·match i,hc,hz with
  | 0,hc,hz=>cases hc; cases hz; exact ⟨by have:=cO hw; omega,fun e=>absurd e (by decide),fun _=>hw⟩
  | 1,hc,hz=>cases hc; cases hz; exact ⟨by have:=cO hb; omega,fun e=>absurd e (by decide),fun _=>hb⟩
  | 2,hc,hz=>cases hc; cases hz; exact ⟨by omega,fun _=>vU (by omega),fun e=>absurd rfl e⟩
  | 3,hc,hz=>cases hc; cases hz; exact ⟨by omega,fun _=>vU (by omega),fun e=>absurd rfl e⟩
  | i+4,hc,hz=>cases hz
 ·intro z hz
  rcases List.mem_cons.mp hz with rfl | hz
  ·decide +kernel
  rcases List.mem_cons.mp hz with rfl | hz
  ·exact dn hw
  rcases List.mem_cons.mp hz with rfl | hz
  ·exact dn hb
  rcases List.mem_cons.mp hz with rfl | hz
  ·exact mh (by omega)
  rw [List.mem_singleton.mp hz]
  exact mh (by omega)
theorem xJ {w w1 w2:Str} (hw:a9 w=true) (h1:a9 w1=true) (h2:a9 w2=true):RowOk [("join":Str),w,w1,w2] "join" "ccc":=by
 refine ⟨rfl,by rfl,by decide +kernel,by decide +kernel,⟨rfl,by decide +kernel,fun i c z hc hz=>?_⟩,by show 4≤100; decide,List.cons_ne_nil _ _,?_⟩
 ·match i,hc,hz with
  | 0,hc,hz=>cases hc; cases hz; exact ⟨by have:=cO hw; omega,fun e=>absurd e (by decide),fun _=>hw⟩
  | 1,hc,hz=>cases hc; cases hz; exact ⟨by have:=cO h1; omega,fun e=>absurd e (by decide),fun _=>h1⟩
  | 2,hc,hz=>cases hc; cases hz; exact ⟨by have:=cO h2; omega,fun e=>absurd e (by decide),fun _=>h2⟩
  | i+3,hc,hz=>cases hz
 ·intro z hz
  rcases List.mem_cons.mp hz with rfl | hz
  ·decide +kernel
  rcases List.mem_cons.mp hz with rfl | hz
  ·exact dn hw
  rcases List.mem_cons.mp hz with rfl | hz
  ·exact dn h1
  rw [List.mem_singleton.mp hz]
  exact dn h2
theorem kC:32∉("choir":Str).cps.toList:=by decide +kernel
theorem oK {z:Str} {r:List Nat} (h:z.cps.toList=("choir":Str).cps.toList++32::r):∃ ws,Txt.split z " "=("choir":Str)::ws:=by
 refine ⟨Txt.split ⟨r.toArray⟩ ⟨#[32]⟩,?_⟩
 rw [iq]
 have j:=StrLaws.join_split (⟨r.toArray⟩:Str) ⟨#[32]⟩
 have p:=PyProof.Rows.split_pos (⟨r.toArray⟩:Str) ⟨#[32]⟩
 have e:=congrArg (fun s:Str=>s.cps.toList) j
 rw [ie] at e
 refine dB ?_ (List.cons_ne_nil _ _) fun x hx=>?_
 ·rw [h]
  cases hs:Txt.split (⟨r.toArray⟩:Str) ⟨#[32]⟩ with
  | nil=>rw [hs] at p; exact absurd p (by decide)
  | cons y ys =>
   rw [hs] at e
   show _=("choir":Str).cps.toList++32::jn 32 ((y::ys).map fun x=>x.cps.toList)
   rw [e]
 ·rcases List.mem_cons.mp hx with rfl | hx
  ·exact kC
  ·exact StrLaws.split_free _ 32 x hx
def cpsOf (ws:List Str):List Nat:=jn 32 (ws.map fun x=>x.cps.toList)
def DP (H:Hp) (d:Addr) (kvs:List (Key×V)) (z:Str) (Q:VK):Prop :=
 (∃ (w:Str) (zs:List Str) (cc:List Bell),z.cps.toList=("choir":Str).cps.toList++32::(w.cps.toList++32::(Txt.join "; " zs).cps.toList)∧a9 w=true∧Readable zs cc∧∀ H' v,But d H H'→H' d=some (.dK (putK kvs (Sum.inr w) v))→ChoirAt H' v cc→Q (.str "ok") H')∨
 (∃ (w:Str) (v:V) (c:List Bell) (i n:Nat) (b:Bell),z.cps.toList=cpsOf [("stroke":Str),w,b.name,aK (n:Int)]∧a9 w=true∧bQ kvs (Sum.inr w)=some v∧ChoirAt H v c∧GoodC c∧c[i]?=some b∧n≤1000∧∀ (H':Hp) o,Same H H'→c8 c n i o→Q (.str (fE o)) H')∨
 (∃ (w:Str) (v:V),z.cps.toList=cpsOf [("drop":Str),w]∧a9 w=true∧bQ kvs (Sum.inr w)=some v∧∀ H',But d H H'→H' d=some (.dK (dU kvs (Sum.inr w)))→Q (.str "ok") H')∨
 (∃ (w:Str) (v:V) (c:List Bell) (b p m:Nat) (bl:Bell) (ll:Lis),z.cps.toList=cpsOf [("slow":Str),w,bl.name,aK (p:Int),aK (m:Int)]∧a9 w=true∧bQ kvs (Sum.inr w)=some v∧ChoirAt H v c∧GoodC c∧SlowAt c b p m bl ll∧p≤1000∧m≤1000∧∀ H' v',But d H H'→H' d=some (.dK (putK kvs (Sum.inr w) v'))→ChoirAt H' v' (bz c b p m bl ll)→Q (.str "ok") H')∨
 ∃ (w w1 w2:Str) (v1 v2:V) (c1 c2:List Bell),z.cps.toList=cpsOf [("join":Str),w,w1,w2]∧a9 w=true∧a9 w1=true∧a9 w2=true∧bQ kvs (Sum.inr w1)=some v1∧bQ kvs (Sum.inr w2)=some v2∧ChoirAt H v1 c1∧ChoirAt H v2 c2∧GoodC c1∧GoodC c2∧c1.length+c2.length≤6∧(∀ z∈c2.map (·.name),z∉c1.map (·.name))∧∀ H' v',But d H H'→H' d=some (.dK (putK kvs (Sum.inr w) v'))→ChoirAt H' v' (cf c1 c2)→Q (.str "ok") H'
def nT (C:Addr):Sp:=fun vs H Q _=>∃ (D d:Addr) (kvs:List (Key×V)) (z:Str),vs=[.ref D,.str z]∧DeskAt C H D d kvs∧kvs.length≤900∧z.length≤3000∧DP H d kvs z Q
theorem w9:FnScope ["self","row","words"] ["self","row"] (aq qS):=⟨rfl,rfl,rfl,by decide +kernel,rfl,by decide +kernel,by decide +kernel⟩
theorem Bv {C fi fs ft fk fc fp fl fj:Addr} {dt dc dp dl dj:FuncData} (F:Fun K "say" "Desk.say" qS f fd) (B:Blt mg) (O:DeskC K C fi fs ft fk fc fp fl fj) (GT:FnOk P w K mg base CX0 1 ft dt ["self","word"] (fh C)) (bT:Binds K dt ["self","word"] []) (GC:FnOk P w K mg base CX0 9 fc dc ["self","parts"] (jm C)) (bC:Binds K dc ["self","parts"] [])
  (GP:FnOk P w K mg base CX0 2 fp dp ["self","words"] (lF C)) (bP:Binds K dp ["self","words"] []) (GL:FnOk P w K mg base CX0 5 fl dl ["self","words"] (lO C)) (bL:Binds K dl ["self","words"] []) (GJ:FnOk P w K mg base CX0 10 fj dj ["self","words"] (lK C)) (bJ:Binds K dj ["self","words"] [])
  (C_rww:Cal P w K mg base 2 "refuse_wrong_words" ["words"] rD) (C_tell:Cal P w K mg base 9 "tell_of" ["choir","words"] oq):FnOk P w K mg base CX0 11 f fd ["self","row"] (nT C):=by
 refine F.ok w9 (fun vs H Q E h=>?_) (fun cdv A outer s H vs Q E hr h=>?_)
 ·obtain ⟨D,d,kvs,z,rfl,_⟩:=h
  rfl
 obtain ⟨D,d,kvs,z,rfl,dk0,kl,zl,sy⟩:=h
 have hr1:Room 1 _:=hr.mono (by decide)
 have hr2:Room 2 _:=hr.mono (by decide)
 have hr5:Room 5 _:=hr.mono (by decide)
 have hr9:Room 9 _:=hr.mono (by decide)
 have hr10:Room 10 _:=hr.mono (by decide)
 refine ⟨_,(af (aU (bw (bG (ay (bU "str") rfl B.isinstance_ PyProof.Rows.boot_isinstance (aa (pv 1) (aa (cE (v:=.ty "str") rfl B.str_ PyProof.Rows.boot_str rfl) ae)))))
  aH
  aw)
  (af (aJ (i:=2) w9.nd rfl (Or.inl rfl) (dh PySem.F.plainAttrs_str PySem.F.slot_str_split PySem.F.type_str_split i9 (pv 1) (aa aB ae)))
  (af (aU (aC cF (ar ax (pv 2) aj (fun _ _=>rfl)) aB (aL _))
  (ak (av (bM (pv 0) GC hr9 bC .nil bN (aa (dh PySem.F.plainAttrs_str PySem.F.slot_str_split PySem.F.type_str_split vi (pv 1) (aa aB (aa aj ae))) ae))))
  aw)
  (af (bp (az C_rww hr (by decide) rfl (aa (pv 2) ae)))
  (af (aU (aC cF (ar ax (pv 2) aj (fun _ _=>rfl)) aB (aL _))
  (ak (av (bM (pv 0) GP hr2 bP .nil bN (aa (pv 2) ae))))
  aw)
  (af (aU (aC cF (ar ax (pv 2) aj (fun _ _=>rfl)) aB (aL _))
  (ak (av (bM (pv 0) GL hr5 bL .nil bN (aa (pv 2) ae))))
  aw)
  (af (aU (aC cF (ar ax (pv 2) aj (fun _ _=>rfl)) aB (aL _))
  (ak (av (bM (pv 0) GJ hr10 bJ .nil bN (aa (pv 2) ae))))
  aw)
  (af (aU (aC cF (ar ax (pv 2) aj (fun _ _=>rfl)) aB (aL _))
  aH
  aw)
  (ak (av (az C_tell hr (by decide) rfl (aa (bM (pv 0) GT hr1 bT .nil bN (aa (ar ax (pv 2) aj (fun _ _=>rfl)) ae)) (aa (pv 2) ae))))))))))))),?_⟩
 obtain ⟨⟨dx,hD⟩,hd⟩:=id dk0
 refine ⟨_,rfl,_,_,_,rfl,.str z,gE K,_,rfl,bh ?_⟩
 refine ⟨_,rfl,rfl,z," ",rfl,rfl,(by decide +kernel),by omega,fun l hl=>?_⟩
 have s1:=ao hl (.lst ((Txt.split z " ").map V.str))
 have hL:(upd H l (.lst ((Txt.split z " ").map V.str))) l=some (.lst ((Txt.split z " ").map V.str)):=ah
 generalize upd H l (.lst ((Txt.split z " ").map V.str))=H1 at s1 hL ⊢
 rcases sy with ⟨w',zs,cc,ez,hw,rd,q⟩ | ⟨w',v,c,i,n,b,ez,hw,hv,hch,g,hb,hn,q⟩ | ⟨w',v,ez,hw,hv,q⟩ | ⟨w',v,c,b,p,m,bl,ll,ez,hw,hv,hch,g,S,hp,hm,q⟩ | ⟨w',w1,w2,v1,v2,c1,c2,ez,hw,hw1,hw2,hv1,hv2,h1,h2,g1,g2,h6,dj,q⟩
 ·obtain ⟨ws,ew⟩:=oK ez
  rw [ew] at hL
  refine ⟨_,rfl,l,_,_,_,rfl,rfl,SqL.of hL,bO rfl,rfl,_,rfl,ifS rfl ?_⟩
  refine ⟨_,rfl,C,D,dx,_,rfl,s1 _ _ hD,O.cl,O.chr,rfl,?_⟩
  refine ⟨_,rfl,rfl,z,"choir",w',Txt.join "; " zs,rfl,rfl,ez,kC,dn hw,by omega,fun p hp=>?_⟩
  have s2:=ao hp (.lst [.str "choir",.str w',.str (Txt.join "; " zs)])
  have s12:=s1.trans s2
  refine ⟨D,d,p,kvs,"choir",w',zs,cc,rfl,dk0.same s12,kl,ah,hw,rd,fun H' v b hd' hc'=>?_⟩
  exact q H' v (fun a o ne e=>b a o ne (s12 _ _ e)) hd' hc'
 ·have rk:=rB hw (g.wd b (List.mem_of_getElem? hb)) hn
  have esp:Txt.split z " "=[("stroke":Str),w',b.name,aK (n:Int)]:=by rw [iq]; exact dB ez rk.ne rk.fr
  rw [esp] at hL
  have T1:SqL K H1 l _:=SqL.of hL
  refine ⟨_,rfl,l,_,_,_,rfl,rfl,T1,bO rk.a0,rfl,_,rfl,ifN rk.nc ?_⟩
  refine ⟨_,rfl,l,_,_,_,rfl,hL,rk.a0,rk.fv,rk.na,rk.ok,rk.ln,fun H2 s2=>?_⟩
  have s12:=s1.trans s2
  have hL2:=s2 _ _ hL
  have T2:SqL K H2 l _:=SqL.of hL2
  refine ⟨_,rfl,l,_,_,_,rfl,rfl,T2,bO rk.a0,rfl,_,rfl,ifN (by decide +kernel) ?_⟩
  refine ⟨_,rfl,l,_,_,_,rfl,rfl,T2,bO rk.a0,rfl,_,rfl,ifN (by decide +kernel) ?_⟩
  refine ⟨_,rfl,l,_,_,_,rfl,rfl,T2,bO rk.a0,rfl,_,rfl,ifN (by decide +kernel) ?_⟩
  refine ⟨_,rfl,l,_,_,_,rfl,rfl,T2,bO rk.a0,rfl,_,rfl,ifN (by decide +kernel) ?_⟩
  refine ⟨_,rfl,C,D,dx,_,rfl,s12 _ _ hD,O.cl,O.std,rfl,?_⟩
  refine ⟨_,rfl,l,_,_,_,rfl,rfl,T2,rfl,?_⟩
  refine ⟨D,d,kvs,w',v,rfl,dk0.same s12,hv,?_⟩
  exact ⟨_,rfl,v,c,l,w',i,n,b,rfl,hch.mono (Same.tup s12),g,hL2,hb,hn,fun H3 o s3 so=>q H3 o (s12.trans s3) so⟩
 ·have rk:=xy hw
  have esp:Txt.split z " "=[("drop":Str),w']:=by rw [iq]; exact dB ez rk.ne rk.fr
  rw [esp] at hL
  have T1:SqL K H1 l _:=SqL.of hL
  refine ⟨_,rfl,l,_,_,_,rfl,rfl,T1,bO rk.a0,rfl,_,rfl,ifN rk.nc ?_⟩
  refine ⟨_,rfl,l,_,_,_,rfl,hL,rk.a0,rk.fv,rk.na,rk.ok,rk.ln,fun H2 s2=>?_⟩
  have s12:=s1.trans s2
  have hL2:=s2 _ _ hL
  have T2:SqL K H2 l _:=SqL.of hL2
  refine ⟨_,rfl,l,_,_,_,rfl,rfl,T2,bO rk.a0,rfl,_,rfl,ifS rfl ?_⟩
  refine ⟨_,rfl,C,D,dx,_,rfl,s12 _ _ hD,O.cl,O.drp,rfl,_,rfl,?_⟩
  exact ⟨D,d,l,kvs,w',v,rfl,dk0.same s12,hL2,hv,q _ (fun a o ne e=>by rw [au ne]; exact s12 _ _ e) ah⟩
 ·have rk:=xB hw (g.wd bl (List.mem_of_getElem? S.hb)) hp hm
  have esp:Txt.split z " "=[("slow":Str),w',bl.name,aK (p:Int),aK (m:Int)]:=by rw [iq]; exact dB ez rk.ne rk.fr
  rw [esp] at hL
  have T1:SqL K H1 l _:=SqL.of hL
  refine ⟨_,rfl,l,_,_,_,rfl,rfl,T1,bO rk.a0,rfl,_,rfl,ifN rk.nc ?_⟩
  refine ⟨_,rfl,l,_,_,_,rfl,hL,rk.a0,rk.fv,rk.na,rk.ok,rk.ln,fun H2 s2=>?_⟩
  have s12:=s1.trans s2
  have hL2:=s2 _ _ hL
  have T2:SqL K H2 l _:=SqL.of hL2
  refine ⟨_,rfl,l,_,_,_,rfl,rfl,T2,bO rk.a0,rfl,_,rfl,ifN (by decide +kernel) ?_⟩
  refine ⟨_,rfl,l,_,_,_,rfl,rfl,T2,bO rk.a0,rfl,_,rfl,ifS rfl ?_⟩
  refine ⟨_,rfl,C,D,dx,_,rfl,s12 _ _ hD,O.cl,O.slw,rfl,_,rfl,?_⟩
  exact ⟨D,d,l,kvs,w',v,c,b,p,m,bl,ll,rfl,dk0.same s12,kl,hL2,hv,hch.mono (Same.tup s12),g,S,hp,hm,fun H' v' b'=>q H' v' fun a o ne e=>b' a o ne (s12 _ _ e)⟩
 ·have rk:=xJ hw hw1 hw2
  have esp:Txt.split z " "=[("join":Str),w',w1,w2]:=by rw [iq]; exact dB ez rk.ne rk.fr
  rw [esp] at hL
  have T1:SqL K H1 l _:=SqL.of hL
  refine ⟨_,rfl,l,_,_,_,rfl,rfl,T1,bO rk.a0,rfl,_,rfl,ifN rk.nc ?_⟩
  refine ⟨_,rfl,l,_,_,_,rfl,hL,rk.a0,rk.fv,rk.na,rk.ok,rk.ln,fun H2 s2=>?_⟩
  have s12:=s1.trans s2
  have hL2:=s2 _ _ hL
  have T2:SqL K H2 l _:=SqL.of hL2
  refine ⟨_,rfl,l,_,_,_,rfl,rfl,T2,bO rk.a0,rfl,_,rfl,ifN (by decide +kernel) ?_⟩
  refine ⟨_,rfl,l,_,_,_,rfl,rfl,T2,bO rk.a0,rfl,_,rfl,ifN (by decide +kernel) ?_⟩
  refine ⟨_,rfl,l,_,_,_,rfl,rfl,T2,bO rk.a0,rfl,_,rfl,ifS rfl ?_⟩
  refine ⟨_,rfl,C,D,dx,_,rfl,s12 _ _ hD,O.cl,O.jon,rfl,_,rfl,?_⟩
  exact ⟨D,d,l,kvs,w',w1,w2,v1,v2,c1,c2,rfl,dk0.same s12,kl,hL2,hv1,hv2,h1.mono (Same.tup s12),h2.mono (Same.tup s12),g1,g2,h6,dj,fun H' v' b'=>q H' v' fun a o ne e=>b' a o ne (s12 _ _ e)⟩
end
end K83.S
namespace L2
open PySem PySem.Spec PyProof.Rows
def wL (xs:List V) (z:Str):Prop:=(∃ y,xs=[.str y]∧z=y)∨∃ i:Int,xs=[.int i]∧i.natAbs.log2<1920∧z=toString i
theorem tV {X:Cx}:cW X (.type "str") (fun xs H Q=>∃ z,wL xs z∧Q (.str z) H):=by
 intro pins s σ H xs us Q I r h
 obtain ⟨z,h | h,q⟩:=h
 ·obtain ⟨y,e,rfl⟩:=h
  exact cZ pins s σ H xs us Q I r (.inr (.inl ⟨_,e,q⟩))
 ·obtain ⟨i,e,l,rfl⟩:=h
  exact cZ pins s σ H xs us Q I r (.inr (.inr ⟨_,e,l,q⟩))
end L2
namespace K83.S
open PySem L2
theorem zD (names:List Str) (l:Lis):names.getD l.whom Str.empty++"+"++aK l.beats++fB l=dO names l:=cQ (by
 unfold dO
 simp only [br]
 rfl)
def cI (c:List Bell):List Str:=c.map fun b=>i6 (c.map (·.name)) b (rwS b.rule)
theorem x9 {c:List Bell} (g:GoodC c):∀ z∈cI c,z.length≤140:=fun z hz=>by
 obtain ⟨b,hb,rfl⟩:=List.mem_map.mp hz
 have gb:=g.gb b hb
 exact r9 (rh gb.r (by have:=gb.n6; omega)) gb (by rw [List.length_map]; exact Nat.le_refl _) (fun x hx=>by obtain ⟨b',hb',rfl⟩:=List.mem_map.mp hx; exact g.len b' hb') (g.len b hb)
theorem Bn {n:Nat} {r:RW} (h:GoodR n r) (hn:n≤1000):wL [rwV r] (rwS r):=by
 cases r with
 | all=>exact .inl ⟨_,rfl,rfl⟩
 | any=>exact .inl ⟨_,rfl,rfl⟩
 | num i =>
  have h':1≤i∧i≤(n:Int):=h
  exact .inr ⟨i,rfl,jJ (by omega) (by omega),rfl⟩
section
variable {P:Program} {w:World} {K:PySem.W.Frag} {mg:Str→Option Value} {base:Heap} {f:Addr} {fd:FuncData}
def lG:Sp:=fun vs H Q _=>∃ (ch:V) (c:List Bell),vs=[ch]∧ChoirAt H ch c∧GoodC c∧∀ H',Same H H'→Q (.str (Txt.join "; " (cI c))) H'
theorem cM:FnScope ["_law_choir","_law_rows_here","_law_name","_law_start","_law_rule_here","_law_listenings","_law_words","_law_whom","_law_beats","_law_back"] ["_law_choir"] (aq nZ):=⟨rfl,rfl,rfl,by decide +kernel,rfl,by decide +kernel,by decide +kernel⟩
theorem xQ (F:Fun K "_law_rows" "_law_rows" nZ f fd) (B:Blt mg):FnOk P w K mg base CX0 1 f fd ["_law_choir"] lG:=by
 refine F.ok cM (fun vs H Q E h=>?_) (fun cdv A outer s H vs Q E hr h=>?_)
 ·obtain ⟨ch,c,rfl,_⟩:=h
  rfl
 obtain ⟨ch,c,rfl,⟨a,bs,rfl,ha,prb⟩,g,q⟩:=h
 refine ⟨_,(af (aJ (i:=1) cM.nd rfl (Or.inl rfl) (cD ae))
  (af (cL PassesOwn.never rfl (eL (pv 0)) (fV rfl (bg (aI (i:=2) cM.nd rfl (Or.inl rfl)) (bg (aI (i:=3) cM.nd rfl (Or.inl rfl)) (bg (aI (i:=4) cM.nd rfl (Or.inl rfl)) (bg (aI (i:=5) cM.nd rfl (Or.inl rfl)) d9)))))
  (af (aJ (i:=6) cM.nd rfl (Or.inl rfl) (cD (aa (pv 2) (aa (aX cZ rfl B.str_ PyProof.Rows.boot_str (aa (pv 3) ae)) (aa (aX tV rfl B.str_ PyProof.Rows.boot_str (aa (pv 4) ae)) ae)))))
  (af (cL PassesOwn.never rfl (eL (pv 5)) (fV rfl (bg (aI (i:=7) cM.nd rfl (Or.inl rfl)) (bg (aI (i:=8) cM.nd rfl (Or.inl rfl)) (bg (aI (i:=9) cM.nd rfl (Or.inl rfl)) d9))))
  (ak (bp (dh PySem.F.plainAttrs_list PySem.F.slot_list_append PySem.F.type_list_append cz (pv 6) (aa (aV a8 (aV a8 (aV a8 (ar aP (ar aP (pv 0) (pv 7) (fun _ _=>rfl)) aj (fun _ _=>rfl)) aB) (aX cZ rfl B.str_ PyProof.Rows.boot_str (aa (pv 8) ae))) (ar ax (cD (aa aB (aa aB ae))) (pv 9) (fun _ _=>rfl))) ae)))))
  (ak (bp (dh PySem.F.plainAttrs_list PySem.F.slot_list_append PySem.F.type_list_append cz (pv 1) (aa (dh PySem.F.plainAttrs_str PySem.F.slot_str_join PySem.F.type_str_join tq aB (aa (pv 6) ae)) ae)))))))
  (ak (av (dh PySem.F.plainAttrs_str PySem.F.slot_str_join PySem.F.type_str_join tq aB (aa (pv 1) ae)))))),?_⟩
 have hbl:=aE prb
 have c6:=g.c6
 refine ⟨(by show 0≤sizeLine; decide),fun r hrr=>?_⟩
 have s0:=ao hrr (.lst [])
 have hr0:(upd H r (.lst [])) r=some (.lst []):=ah
 generalize upd H r (.lst [])=H0 at s0 hr0 ⊢
 refine ⟨_,rfl,a,rfl,⟨_,SqT.of (s0 _ _ ha)⟩,nO (K:=K) (a:=a) (xs:=bs) (fun i σ H1=>∃ (o2 o3 o4 o5 o6 o7 o8 o9:Option V),σ=[some (.ref a),some (.ref r),o2,o3,o4,o5,o6,o7,o8,o9]∧Same H H1∧H1 r=some (.lst (((cI c).take i).map V.str)))
  ⟨none,none,none,none,none,none,none,none,rfl,s0,hr0⟩ (fun i σ H1 _ ⟨_,_,_,_,_,_,_,_,_,z,_⟩=>SqT.of (z _ _ ha)) ?_ ?_⟩
 ·rintro i x σ H1 hx ⟨o2,o3,o4,o5,o6,o7,o8,o9,rfl,s1,hr1⟩
  obtain ⟨b,hb,ba,tt,ls,rfl,hba,htt,prl⟩:=aZ prb hx
  have hi:=(List.getElem?_eq_some_iff.mp hb).1
  have gb:=g.gb b (List.mem_of_getElem? hb)
  have n6:=gb.n6
  refine ⟨ba,_,rfl,SqT.of (s1 _ _ hba),rfl,_,_,rfl,_,_,rfl,_,_,rfl,_,_,rfl,rfl,?_⟩
  refine ⟨_,rfl,_,rfl,.inr (.inr ⟨_,rfl,jJ gb.s0 gb.s1,_,rfl,rwS b.rule,Bn gb.r (by omega),?_⟩)⟩
  refine ⟨(by show 3≤sizeLine; decide),fun wl hwl=>?_⟩
  have s2:=ao hwl (.lst [.str b.name,.str (aK b.start),.str (rwS b.rule)])
  have hw2:(upd H1 wl (.lst [.str b.name,.str (aK b.start),.str (rwS b.rule)])) wl=some (.lst (([b.name,aK b.start,rwS b.rule]++(b.lis.take 0).map (dO (c.map (·.name)))).map V.str)):=ah
  have s12:=s1.trans s2
  have w0:H wl=none:=s1.free hwl
  have nrw:r≠wl:=aG hr1 hwl
  have hr2:=s2 _ _ hr1
  refine ⟨_,rfl,tt,rfl,⟨_,SqT.of (s12 _ _ htt)⟩,nO (K:=K) (a:=tt) (xs:=ls) (fun j σ H3=>∃ (o7 o8 o9:Option V),σ=[some (.ref a),some (.ref r),some (.str b.name),some (.int b.start),some (rwV b.rule),some (.ref tt),some (.ref wl),o7,o8,o9]∧Same H H3∧H3 r=some (.lst (((cI c).take i).map V.str))∧H3 wl=some (.lst (([b.name,aK b.start,rwS b.rule]++(b.lis.take j).map (dO (c.map (·.name)))).map V.str)))
   ⟨_,_,_,rfl,s12,hr2,hw2⟩ (fun j σ H3 _ ⟨_,_,_,_,z,_⟩=>SqT.of (z _ _ htt)) ?_ ?_⟩
  ·rintro j y σ H3 hy ⟨o7,o8,o9,rfl,s3,hr3,hw3⟩
   obtain ⟨l,hl,la,rfl,hla⟩:=aZ prl hy
   obtain ⟨g1,g2,g3,_⟩:=gb.l l (List.mem_of_getElem? hl)
   have hj:=(List.getElem?_eq_some_iff.mp hl).1
   have hwc:=List.getElem?_eq_getElem g1
   obtain ⟨bv,ebv,ba2,tt2,ls2,rfl,hba2,_⟩:=dE prb hwc
   have n8:=g.len _ (List.getElem_mem g1)
   have hnm:(c.map (·.name)).getD l.whom Str.empty=(c[l.whom]'g1).name:=by
    rw [List.getD_eq_getElem?_getD,List.getElem?_map,hwc]
    rfl
   have lp:("+":Str).length=1:=by decide +kernel
   have l4:=(hX (n:=l.beats) (by omega) g3).2
   have l5:=sd l
   refine ⟨la,_,rfl,SqT.of (s3 _ _ hla),rfl,_,_,rfl,_,_,rfl,_,_,rfl,rfl,?_⟩
   rw [← hnm] at hba2 n8
   generalize (c.map (·.name)).getD l.whom Str.empty=nm at hba2 n8 hnm
   have b1:=aT nm "+"
   have b2:=aT (nm++"+") (aK l.beats)
   have b3:=aT (nm++"+"++aK l.beats) (fB l)
   refine ⟨_,rfl,.inl ⟨rfl,_,SqL.of hw3⟩,_,rfl,_,rfl,a,_,_,_,rfl,rfl,SqT.of (s3 _ _ ha),bj ebv,ba2,_,_,_,rfl,rfl,SqT.of (s3 _ _ hba2),rfl,_,_,rfl,rfl,(by rw [sizeLine_eq]; omega),_,rfl,.inr (.inr ⟨_,rfl,jJ (by omega) g3,_,_,rfl,rfl,(by show (nm++"+").length+(aK l.beats).length≤sizeLine; rw [sizeLine_eq]; omega),(by show 2≤sizeLine; decide),fun el hel=>?_⟩)⟩
   have v1:=ao hel (.lst [.str "=",.str ""])
   have hat:atI [V.str "=",V.str ""] (if l.back then 1 else 0)=some (.str (fB l)):=by
    unfold fB
    cases l.back
    ·exact zK _ _
    ·exact bj (j:=1) rfl
   have hwe:=v1 _ _ hw3
   have hre:=v1 _ _ hr3
   refine ⟨_,rfl,el,_,_,_,rfl,rfl,SqL.of ah,hat,_,_,rfl,rfl,(by show (nm++"+"++aK l.beats).length+(fB l).length≤sizeLine; rw [sizeLine_eq]; omega),?_⟩
   refine ⟨wl,_,_,rfl,rfl,hwe,?_,?_⟩
   ·rw [List.length_map,List.length_append,List.length_map,List.length_take]
    exact aW (by show 3+min j b.lis.length≤1000; omega)
   ·refine ⟨_,_,_,rfl,(s3.trans v1).upd w0 _,by rw [au nrw]; exact hre,?_⟩
    have en:nm++"+"++aK l.beats++fB l=dO (c.map (·.name)) l:=by
     rw [← zD,List.getD_eq_getElem?_getD,List.getElem?_map,hwc,hnm]
     rfl
    have e3:([b.name,aK b.start,rwS b.rule]++(b.lis.take (j+1)).map (dO (c.map (·.name)))).map V.str=([b.name,aK b.start,rwS b.rule]++(b.lis.take j).map (dO (c.map (·.name)))).map V.str++[V.str (nm++"+"++aK l.beats++fB l)]:=by
     rw [take_snoc hl,List.map_append (f:=dO (c.map (·.name))),← List.append_assoc,List.map_append,en]
     rfl
    rw [e3]
    exact ah
  ·rintro σ H3 ⟨o7,o8,o9,rfl,s3,hr3,hw3⟩
   rw [aE prl,List.take_length] at hw3
   have hrow:(cI c)[i]?=some (i6 (c.map (·.name)) b (rwS b.rule)):=by
    unfold cI
    rw [List.getElem?_map,hb]
    rfl
   have pl:∀ z∈[b.name,aK b.start,rwS b.rule]++b.lis.map (dO (c.map (·.name))),z.length≤1000:=fun z hz=>by
    rcases List.mem_append.mp hz with h | h
    ·rcases List.mem_cons.mp h with rfl | h
     ·have:=g.len b (List.mem_of_getElem? hb); omega
     rcases List.mem_cons.mp h with rfl | h
     ·have:=(hX gb.s0 gb.s1).2; omega
     rw [List.mem_singleton.mp h]
     have:=rh gb.r (by omega)
     omega
    ·obtain ⟨l,hl,rfl⟩:=List.mem_map.mp h
     obtain ⟨g1,g2,g3,_⟩:=gb.l l hl
     have:=sM (names:=c.map (·.name)) (fun x hx=>by obtain ⟨b',hb',rfl⟩:=List.mem_map.mp hx; exact g.len b' hb') g2 g3 (by rw [List.length_map]; exact g1)
     omega
   refine ⟨_,rfl,.inl ⟨rfl,_,SqL.of hr3⟩,rfl,_,rfl,_,wl,_,rfl,rfl,hw3,lq (by rw [nJ]; decide) (by rw [List.length_append,List.length_map]; show 3+_≤100; omega) pl,?_⟩
   refine ⟨r,_,_,rfl,rfl,hr3,?_,?_⟩
   ·rw [List.length_map,List.length_take]
    exact aW (by omega)
   ·refine ⟨_,_,_,_,_,_,_,_,rfl,s3.upd hrr _,?_⟩
    rw [take_snoc hrow,List.map_append]
    exact ah
 ·rintro σ H1 ⟨o2,o3,o4,o5,o6,o7,o8,o9,rfl,s1,hr1⟩
  have el:bs.length=(cI c).length:=by
   unfold cI
   rw [List.length_map]
   exact hbl
  rw [el,List.take_length] at hr1
  exact ⟨rfl,_,rfl,_,r,_,rfl,rfl,hr1,uT (x9 g) (by rw [← el,hbl]; exact c6),q H1 s1⟩
end
end K83.S
namespace K83.S
open PySem L2
theorem yx {c x:Nat}:∀ {ps:List (List Nat)},x∈jn c ps→x=c∨∃ p∈ps,x∈p
 | [],h=>(nomatch h)
 | [p],h=>.inr ⟨p,List.mem_cons_self,h⟩
 | p::q::r,h=>by
  rcases List.mem_append.mp h with h | h
  ·exact .inr ⟨p,List.mem_cons_self,h⟩
  rcases List.mem_cons.mp h with h | h
  ·exact .inl h
  rcases yx (ps:=q::r) h with h | ⟨y,hy,hx⟩
  ·exact .inl h
  ·exact .inr ⟨y,List.mem_cons_of_mem _ hy,hx⟩
theorem wQ {c:List Bell} (g:GoodC c) {b:Bell} (hb:b∈c) {r:RW} (gr:GoodR b.lis.length r):59∉(i6 (c.map (·.name)) b (rwS r)).cps.toList:=fun h=>by
 have gb:=g.gb b hb
 have n6:=gb.n6
 unfold i6 at h
 rw [iq,nB] at h
 rcases yx h with h | ⟨p,hp,hx⟩
 ·cases h
 obtain ⟨z,hz,rfl⟩:=List.mem_map.mp hp
 rcases List.mem_append.mp hz with hz | hz
 ·rcases List.mem_cons.mp hz with rfl | hz
  ·have:=dC (g.wd b hb) 59 hx
   omega
  rcases List.mem_cons.mp hz with rfl | hz
  ·have:=c7 gb.s0 gb.s1 59 hx
   omega
  rw [List.mem_singleton.mp hz] at hx
  cases r with
  | all=>have:=jF _ hx; omega
  | any=>have:=jE _ hx; omega
  | num i =>
   have g':1≤i∧i≤(b.lis.length:Int):=gr
   have:=c7 (n:=i) (by omega) (by omega) 59 hx
   omega
 ·obtain ⟨l,hl,rfl⟩:=List.mem_map.mp hz
  obtain ⟨g1,g2,g3,_⟩:=gb.l l hl
  obtain ⟨nm,hnm,hn⟩:=g.heard hb l hl
  have hg:(c.map (·.name)).getD l.whom Str.empty=nm:=by rw [List.getD_eq_getElem?_getD,hnm]; rfl
  rw [lL,hg,br] at hx
  rcases List.mem_append.mp hx with h | h
  ·have:=dC (nk hn) _ h
   omega
  rcases List.mem_cons.mp h with h | h
  ·cases h
  rcases List.mem_append.mp h with h | h
  ·have:=c7 (by omega) g3 _ h
   omega
  ·unfold fB at h
   rw [eq_str] at h
   split at h
   ·cases h
   ·rcases List.mem_cons.mp h with h | h <;> cases h
theorem qc {c:List Bell} (g:GoodC c) (rs:Bell→RW) (hr:∀ b∈c,GoodR b.lis.length (rs b)):Readable (c.map fun b=>i6 (c.map (·.name)) b (rwS (rs b))) (c.map fun b=>kO b (rs b)):=by
 obtain ⟨_,h2,h3⟩:=vq g rs hr rfl
 refine ⟨by rw [List.length_map]; exact g.c1,by rw [List.length_map]; exact g.c6,fun z hz=>?_,fun z hz=>?_,h3,h2⟩
 ·obtain ⟨b,hb,rfl⟩:=List.mem_map.mp hz
  have gb:=g.gb b hb
  exact r9 (rh (hr b hb) (by have:=gb.n6; omega)) gb (by rw [List.length_map]; exact Nat.le_refl _) (fun x hx=>by obtain ⟨b',hb',rfl⟩:=List.mem_map.mp hx; exact g.len b' hb') (g.len b hb)
 ·obtain ⟨b,hb,rfl⟩:=List.mem_map.mp hz
  exact wQ g hb (hr b hb)
theorem il {c:List Bell} (g:GoodC c):Readable (cI c) c:=by
 have h:=qc g (fun b=>b.rule) fun b hb=>(g.gb b hb).r
 have e:(c.map fun b=>kO b b.rule)=c:=by
  have:(fun b:Bell=>kO b b.rule)=id:=funext fun b=>rfl
  rw [this,List.map_id]
 rw [e] at h
 exact h
theorem gW {d:Addr} {H H':Hp} {kvs:List (Key×V)} (b:But d H H') (hd:H d=some (.dK kvs)):iy H H':=fun a xs e=>b a _ (d6 e hd (by intro z; cases z)) e
theorem DeskAt.but {C:Addr} {H H':Hp} {D d:Addr} {kvs kvs':List (Key×V)} (h:DeskAt C H D d kvs) (b:But d H H') (hd:H' d=some (.dK kvs')):DeskAt C H' D d kvs':=by
 obtain ⟨⟨dx,h1⟩,h2⟩:=h
 exact ⟨⟨dx,b _ _ (d6 h1 h2 (by intro z; cases z)) h1⟩,hd⟩
theorem ifE {a b:Str} {p q:Prop} (e:a=b) (h:q):if (!decide (V.str a=V.str b))=true then p else q:=by
 rw [if_neg (by rw [e]; simp)]
 exact h
end K83.S
namespace L2
open PySem PySem.Spec PyProof.Rows
section
variable {X:Cx} {CX:CXT} {k:Nat} {f:Addr} {fd:FuncData} {ps:List Str} {sp:Sp} {dvs:List V} {ds:List Value} {E:XK} {m:Str} {pos apos:Pos} {e o:Expr} {es:List Expr} {ta:TE} {t:TA} {K:PySem.W.Frag}
theorem mP {pl:Sem Bool} (hK:X.K=K) (he:PE X o ta) (F:FnOk X.prog X.w X.K X.mg X.base CX k f fd ps sp) (hr:Room k X.A) (hb:Binds X.K fd ps ds) (hd:Vals dvs ds) (hx:Passes CX X E) (ha:PA X (e::es) t)
  (hst:starEach (e::es) X.env=(false,eval e X.env)::starEach es X.env:=by rfl) (hpl:(backTo pos (starEach es X.env)).any (·.1)=false:=by rfl)
  (ht:eval (.Call (.Attribute o m apos) (e::es) [] pos) X.env=(do let ov ← eval o X.env; standAt apos.atName; let (f,first) ← holding [ov] (getMethod ov m pl); callWith pos f first (backTo pos (starEach (e::es) X.env)) (backToKw pos (keywordEach [] X.env))):=by rfl) :
  PE X (.Call (.Attribute o m apos) (e::es) [] pos) (xt K f m sp dvs E ta t):=hK▸bM he F hr hb hd hx ha hst hpl ht
end
end L2
namespace K83.S
open PySem L2
def iN:List Nat:=[0,1,2,3,5,9]
theorem rH:∀ n∈iN,n≤9:=by decide
def LineAt (H:Hp) (r:Addr) (v:V) (x:List Str):Prop:=∃ a,v=.ref a∧a≠r∧H a=some (.lst (x.map V.str))
def TblAt (H:Hp) (p:Addr) (t:List (List Str)):Prop:=∃ vs,H p=some (.lst vs)∧Paired (LineAt H p) vs t
theorem LineAt.same {H H':Hp} (s:Same H H') {r:Addr} {v:V} {x:List Str} (h:LineAt H r v x):LineAt H' r v x:=by
 obtain ⟨a,e,ne,ha⟩:=h
 exact ⟨a,e,ne,s _ _ ha⟩
theorem TblAt.same {H H':Hp} (s:Same H H') {p:Addr} {t:List (List Str)} (h:TblAt H p t):TblAt H' p t:=by
 obtain ⟨vs,h1,h2⟩:=h
 exact ⟨vs,s _ _ h1,aO (fun _ _ x=>x.same s) h2⟩
theorem TblAt.but {H H':Hp} {d:Addr} {kvs:List (Key×V)} (b:But d H H') (hd:H d=some (.dK kvs)) {p:Addr} {t:List (List Str)} (h:TblAt H p t):TblAt H' p t:=by
 obtain ⟨vs,h1,h2⟩:=h
 refine ⟨vs,b _ _ (d6 h1 hd (by intro z; cases z)) h1,aO (fun _ _ x=>?_) h2⟩
 obtain ⟨a,e,ne,ha⟩:=x
 exact ⟨a,e,ne,b _ _ (d6 ha hd (by intro z; cases z)) ha⟩
theorem sN (n:Nat):(List.range n).all (fun _=>true)=true:=by simp
theorem xw {K:PySem.W.Frag} {H:Hp} {a b:Addr} {r:List Str} (ha:H a=some (.lst (r.map V.str))) (hb:H b=some (.lst (r.map V.str))):EqH K H 1 (.ref a) (.ref b) true:=by
 by_cases e:a=b
 ·rw [e]
  exact .same
 ·have h:=EqH.lst (K:=K) (H:=H) (n:=0) (fun _=>true) e (SqL.of ha) (SqL.of hb) rfl fun i x y hx hy=>by
   rw [hx] at hy
   cases hy
   rw [List.getElem?_map] at hx
   obtain ⟨z,hz,rfl⟩:=Option.map_eq_some_iff.mp hx
   have:=EqH.flat (K:=K) (H:=H) (n:=0) (x:=.str z) (y:=.str z) rfl rfl
   rw [show eqV (.str z) (.str z)=true by simp [eqV]] at this
   exact this
  rw [sN] at h
  exact h
theorem gu {K:PySem.W.Frag} {H:Hp} {p q:Addr} {t:List (List Str)} (hp:TblAt H p t) (hq:TblAt H q t) (ne:p≠q):EqH K H 2 (.ref p) (.ref q) true:=by
 obtain ⟨vs,h1,p1⟩:=hp
 obtain ⟨us,h2,p2⟩:=hq
 have h:=EqH.lst (K:=K) (H:=H) (n:=1) (fun _=>true) ne (SqL.of h1) (SqL.of h2) (by rw [aE p1,aE p2]) fun i x y hx hy=>by
  obtain ⟨r,hr,a,rfl,_,ha⟩:=aZ p1 hx
  obtain ⟨r',hr',b,rfl,_,hb⟩:=aZ p2 hy
  rw [hr] at hr'
  cases hr'
  exact xw ha hb
 rw [sN] at h
 exact h
def ik (c:List Bell) (off:Nat) (t:List (List Str)):Prop:=∀ (i:Nat) r,t[i]?=some r→r.length=6∧∀ (k n:Nat),iN[k]?=some n→∃ o,c8 c n (off+i) o∧r[k]?=some (fE o)
theorem dQ {c:List Bell} (hc:iU c) {off:Nat} {t t':List (List Str)} (l:t.length=t'.length) (h:ik c off t) (h':ik c off t'):t=t':=by
 refine List.ext_getElem? fun i=>?_
 by_cases hi:i<t.length
 ·have e1:=List.getElem?_eq_getElem hi
  have e2:=List.getElem?_eq_getElem (show i<t'.length by omega)
  obtain ⟨a1,a2⟩:=h i _ e1
  obtain ⟨b1,b2⟩:=h' i _ e2
  rw [e1,e2]
  refine congrArg some (List.ext_getElem? fun k=>?_)
  by_cases hk:k<6
  ·have es:=List.getElem?_eq_getElem (show k<iN.length from hk)
   obtain ⟨o,so,r1⟩:=a2 k _ es
   obtain ⟨o',so',r2⟩:=b2 k _ es
   rw [r1,r2,wB hc so so']
  ·rw [List.getElem?_eq_none (by omega),List.getElem?_eq_none (by omega)]
 ·rw [List.getElem?_eq_none (by omega),List.getElem?_eq_none (by omega)]
theorem sJ:(" ":Str).cps.toList=[32]:=by decide +kernel
theorem rj {w b n:Str}:(("stroke ":Str)++w++" "++b++" "++n).cps.toList=cpsOf [("stroke":Str),w,b,n]:=by
 rw [br,br,br,br,br,sJ,show ("stroke ":Str).cps.toList=("stroke":Str).cps.toList++[32] by decide +kernel]
 simp only [List.append_assoc,List.cons_append,List.nil_append]
 rfl
section
variable {P:Program} {w:World} {K:PySem.W.Frag} {mg:Str→Option Value} {base:Heap} {f:Addr} {fd:FuncData}
def gM (C:Addr):Sp:=fun vs H Q _=>∃ (D d:Addr) (kvs:List (Key×V)) (w:Str) (ch v:V) (c0 c:List Bell) (off:Nat),vs=[.ref D,.str w,ch]∧DeskAt C H D d kvs∧kvs.length≤900∧a9 w=true∧bQ kvs (Sum.inr w)=some v∧ChoirAt H v c∧GoodC c∧ChoirAt H ch c0∧GoodC c0∧(∀ (i:Nat) b,c0[i]?=some b→∃ b',c[off+i]?=some b'∧b'.name=b.name)∧
 ∀ (H':Hp) (p:Addr) (t:List (List Str)),Same H H'→H p=none→TblAt H' p t→t.length=c0.length→ik c off t→Q (.ref p) H'
theorem eU:FnScope ["_law_desk","_law_word","_law_choir","_law_found","_law_bell","_law_head"] ["_law_desk","_law_word","_law_choir"] (aq iH):=⟨rfl,rfl,rfl,by decide +kernel,rfl,by decide +kernel,by decide +kernel⟩
theorem oO {C fi fs ft fk fc fp fl fj:Addr} {ds:FuncData} (F:Fun K "_law_strokes" "_law_strokes" iH f fd) (B:Blt mg) (O:DeskC K C fi fs ft fk fc fp fl fj) (GS:FnOk P w K mg base CX0 11 fs ds ["self","row"] (nT C)) (bS:Binds K ds ["self","row"] []):FnOk P w K mg base CX0 12 f fd ["_law_desk","_law_word","_law_choir"] (gM C):=by
 refine F.ok eU (fun vs H Q E h=>?_) (fun cdv A outer s H vs Q E hr h=>?_)
 ·obtain ⟨D,d,kvs,w',ch,v,c0,c,off,rfl,_⟩:=h
  rfl
 obtain ⟨D,d,kvs,w',ch,v,c0,c,off,rfl,dk0,kl,hw,hv,hc,g,⟨a,bs,rfl,ha,prb⟩,g0,hpl,q⟩:=h
 have hr11:Room 11 _:=hr.mono (by decide)
 refine ⟨_,(af (aJ (i:=3) eU.nd rfl (Or.inl rfl) (cD ae))
  (af (cL PassesOwn.never rfl (eL (pv 2)) (aI (i:=4) eU.nd rfl (Or.inl rfl))
  (af (aJ (i:=5) eU.nd rfl (Or.inr rfl) (aV a8 (aV a8 (aV a8 (aV a8 aB (pv 1)) aB) (ar aP (pv 4) aj (fun _ _=>rfl))) aB))
  (ak (bp (dh PySem.F.plainAttrs_list PySem.F.slot_list_append PySem.F.type_list_append cz (pv 3) (aa (cJ ["_law_n"] ["_law_desk","_law_head"] [0,5] rfl (dG (cD (aa aj (aa aj (aa aj (aa aj (aa aj (aa aj ae)))))))) (fun _ _ _ _ _=>(aI (i:=0) (show List.Nodup [("_law_n":Str),("_law_desk":Str),("_law_head":Str)] by decide +kernel) rfl (Or.inl rfl))) (fun _ _ _ _ _=>bV) (fun _ _ _ _ _=>(mP (K:=K) rfl (pv 1) GS hr11 bS .nil bN (aa (aV a8 (pv 2) (aX cZ rfl B.str_ PyProof.Rows.boot_str (aa (pv 0) ae))) ae)))) ae))))))
  (ak (av (pv 3))))),?_⟩
 have hbl:=aE prb
 have c6:=g0.c6
 have w8:=cO hw
 have s7:("stroke ":Str).length=7:=by decide +kernel
 have gl:=nJ
 obtain ⟨⟨dx,hD⟩,hd⟩:=id dk0
 refine ⟨(by show 0≤sizeLine; decide),fun r hrr=>?_⟩
 have s0:=ao hrr (.lst [])
 have hr0:(upd H r (.lst [])) r=some (.lst []):=ah
 generalize upd H r (.lst [])=H0 at s0 hr0 ⊢
 refine ⟨_,rfl,a,rfl,⟨_,SqT.of (s0 _ _ ha)⟩,nO (K:=K) (a:=a) (xs:=bs) (fun i σ H1=>∃ (o4 o5:Option V) (vs:List V) (t:List (List Str)),σ=[some (.ref D),some (.str w'),some (.ref a),some (.ref r),o4,o5]∧Same H H1∧H1 r=some (.lst vs)∧Paired (LineAt H1 r) vs t∧t.length=i∧ik c off t)
  ⟨none,none,[],[],rfl,s0,hr0,.nil,rfl,fun i r h=>(nomatch h)⟩ (fun i σ H1 _ ⟨_,_,_,_,_,z,_⟩=>SqT.of (z _ _ ha)) ?_ ?_⟩
 ·rintro i x σ H1 hx ⟨o4,o5,vs,t,rfl,s1,hr1,prt,htl,tu⟩
  obtain ⟨b,hb,ba,tt,ls,rfl,hba,_⟩:=aZ prb hx
  have hi:=(List.getElem?_eq_some_iff.mp hb).1
  have n8:=g0.len b (List.mem_of_getElem? hb)
  obtain ⟨b',hb',en⟩:=hpl i b hb
  have r1:=aT "stroke " w'
  have r2:=aT ("stroke "++w') " "
  have r3:=aT ("stroke "++w'++" ") b.name
  have r4:=aT ("stroke "++w'++" "++b.name) " "
  refine ⟨_,rfl,_,_,rfl,rfl,(by rw [sizeLine_eq]; omega),_,_,rfl,rfl,(by show (("stroke ":Str)++w').length+(" ":Str).length≤sizeLine; rw [sizeLine_eq]; omega),_,rfl,ba,_,_,_,rfl,rfl,SqT.of (s1 _ _ hba),rfl,_,_,rfl,rfl,(by show (("stroke ":Str)++w'++" ").length+b.name.length≤sizeLine; rw [sizeLine_eq]; omega),_,_,rfl,rfl,(by show (("stroke ":Str)++w'++" "++b.name).length+(" ":Str).length≤sizeLine; rw [sizeLine_eq]; omega),?_⟩
  refine ⟨_,rfl,.inl ⟨rfl,_,SqL.of hr1⟩,(by show 6≤sizeLine; decide),fun nl hnl=>?_⟩
  have s2:=ao hnl (.lst [.int 0,.int 1,.int 2,.int 3,.int 5,.int 9])
  have hn2:(upd H1 nl (.lst [.int 0,.int 1,.int 2,.int 3,.int 5,.int 9])) nl=some (.lst (iN.map fun n:Nat=>V.int (n:Int))):=ah
  have s02:=s1.trans s2
  have hr2:=s2 _ _ hr1
  generalize upd H1 nl (.lst [.int 0,.int 1,.int 2,.int 3,.int 5,.int 9])=H2 at s2 hn2 s02 hr2 ⊢
  refine ⟨nl,rfl,⟨_,SqL.of hn2⟩,fun D2 hD2=>?_⟩
  have nr:r≠D2:=aG hr2 hD2
  refine cX (K:=K) (a:=nl) (xs:=iN.map fun n:Nat=>V.int (n:Int)) (fun j ys H3=>∃ zs:List Str,Same H2 H3∧ys=zs.map V.str∧zs.length=j∧∀ (k n:Nat),k<j→iN[k]?=some n→∃ o,c8 c n (off+i) o∧zs[k]?=some (fE o)) ⟨[],ao hD2 _,rfl,rfl,fun k n h=>absurd h (Nat.not_lt_zero k)⟩ (fun j ys H3 _ ⟨_,z,_⟩=>SqL.of (z _ _ hn2)) ?_ ?_
  ·rintro j x ys H3 hx ⟨zs,s3,rfl,hzl,hz⟩ hD3
   rw [List.getElem?_map] at hx
   obtain ⟨n,hn,rfl⟩:=Option.map_eq_some_iff.mp hx
   have n9:n≤9:=rH n (List.mem_of_getElem? hn)
   have j6:j<6:=(List.getElem?_eq_some_iff.mp hn).1
   have s03:=s02.trans s3
   have nl4:=bZ (show n<1001 by omega)
   have r5:=aT ("stroke "++w'++" "++b.name++" ") (aK (n:Int))
   refine ⟨rfl,bo ?_⟩
   refine ⟨_,rfl,C,D,dx,_,rfl,s03 _ _ hD,O.cl,O.say,rfl,_,rfl,_,rfl,.inr (.inr ⟨_,rfl,hU (by omega),_,_,rfl,rfl,(by show (("stroke ":Str)++w'++" "++b.name++" ").length+(aK (n:Int)).length≤sizeLine; rw [sizeLine_eq]; omega),D,d,kvs,_,rfl,dk0.same s03,kl,(by show (("stroke ":Str)++w'++" "++b.name++" "++aK (n:Int)).length≤3000; omega),.inr (.inl ⟨w',v,c,off+i,n,b',by rw [en]; exact rj,hw,hv,hc.mono (Same.tup s03),g,hb',by omega,fun H4 o s4 so=>?_⟩)⟩)⟩
   refine ⟨_,s4 _ _ hD3,(by rw [List.length_map]; exact aW (by omega)),_,⟨zs++[fE o],(s3.trans s4).upd hD2 _,by rw [List.map_append]; rfl,by rw [List.length_append,hzl]; rfl,fun k n' hk hn'=>?_⟩,ah⟩
   by_cases hkj:k<j
   ·obtain ⟨o',so',e'⟩:=hz k n' hkj hn'
    exact ⟨o',so',by rw [List.getElem?_append_left (by omega)]; exact e'⟩
   ·have ek:k=j:=by omega
    subst ek
    rw [hn] at hn'
    cases hn'
    exact ⟨o,so,by rw [← hzl]; exact List.getElem?_concat_length⟩
  ·rintro ys H3 ⟨zs,s3,rfl,hzl,hz⟩ hD3
   have hr3:=s3 _ _ hr2
   have s13:=s2.trans s3
   have vl:=aE prt
   refine ⟨r,vs,_,rfl,rfl,hr3,aW (by omega),?_⟩
   refine ⟨_,_,vs++[.ref D2],t++[zs],rfl,(s1.trans s13).upd hrr _,ah,?_,by rw [List.length_append,htl]; rfl,fun k x hk=>?_⟩
   ·refine b8 ⟨D2,rfl,Ne.symm nr,by rw [au (Ne.symm nr)]; exact hD3⟩ (aO (fun _ _ z=>?_) prt)
    obtain ⟨x,e,ne,hx⟩:=z
    exact ⟨x,e,ne,by rw [au ne]; exact s13 _ _ hx⟩
   ·by_cases hki:k<t.length
    ·rw [List.getElem?_append_left hki] at hk
     exact tu k x hk
    ·have hkl:=(List.getElem?_eq_some_iff.mp hk).1
     rw [List.length_append] at hkl
     have ek:k=i:=by
      have:k<t.length+1:=hkl
      omega
     rw [List.getElem?_append_right (by omega),ek,htl,Nat.sub_self] at hk
     cases hk
     rw [ek]
     exact ⟨hzl,fun k' n' hn'=>hz k' n' (List.getElem?_eq_some_iff.mp hn').1 hn'⟩
 ·rintro σ H1 ⟨o4,o5,vs,t,rfl,s1,hr1,prt,htl,tu⟩
  exact ⟨_,rfl,q H1 r t s1 hrr ⟨vs,hr1,prt⟩ (by rw [htl,hbl]) tu⟩
end
end K83.S
namespace K83.S
open PySem L2
theorem vm {c:List Bell} {before now:List (Option Int)} (f:Fix c before now) {M:Int} (hM:∀ u,some u∈before→u≤M) (hb:∀ b∈c,∀ l∈b.lis,1≤l.beats∧l.beats≤9):∀ v,some v∈now→v≤M+9 * (c.length:Int):=by
 have P:∀ (j:Nat) v,some v∈now→M+9 * (j:Int)<v→j+1≤cnt now v:=by
  intro j
  induction j with
  | zero=>intro v hv _; have:=gD (u:=v - 1) (by omega) hv; omega
  | succ j ih =>
   intro v hv hlt
   obtain ⟨b,l,w,h1,h2,h3,h4⟩:=lJ f hv
   have h5:=hb b h1 l h2
   cases e:l.back with
   | true =>
    rw [e] at h3
    have:=hM w (List.mem_of_getElem? h3)
    omega
   | false =>
    rw [e] at h3
    have i1:=ih w (List.mem_of_getElem? h3) (by omega)
    have i2:=gD (u:=w) (v:=v) (by omega) hv
    omega
 intro v hv
 refine Classical.byContradiction fun no=>?_
 have a:=P c.length v hv (by omega)
 have b:cnt now v≤now.length:=List.countP_le_length
 have d:=f.1
 omega
theorem j2 {c:List Bell} {rows:List (List (Option Int))} (h:Rows c rows) (c3:c.length≤3) (hs:∀ b∈c,0≤b.start∧b.start≤9) (hb:∀ b∈c,∀ l∈b.lis,1≤l.beats∧l.beats≤9):∀ (n:Nat) row,rows[n]?=some row→∀ v,some v∈row→0≤v∧v≤9+27 * (n:Int)
 | 0,row,e,v,hv=>by
  rw [h.first row e] at hv
  obtain ⟨b,hm,q⟩:=List.mem_map.mp hv
  have:=hs b hm
  have e2:=Option.some.inj q
  omega
 | n+1,row,e,v,hv=>by
  have hn:n<rows.length:=by
   have:=(List.getElem?_eq_some_iff.mp e).1
   omega
  have hr:=List.getElem?_eq_getElem hn
  have f:=h.next n _ row hr e
  have ih:=j2 h c3 hs hb n _ hr
  have a:=tI f (L:=0) (fun u hu=>(ih u hu).1) (fun b hb' l hl=>by have:=hb b hb' l hl; omega) v hv
  have b:=vm f (M:=9+27 * (n:Int)) (fun u hu=>(ih u hu).2) hb v hv
  omega
def Au (n m:Nat) (o o':Option Int):Prop:=(o=none∧o'=none)∨∃ u v:Nat,o=some (u:Int)∧o'=some (v:Int)∧u≤v∧(v:Int)≤(u:Int)+(n:Int) * (m:Int)∧u<1001∧v<1001
structure SmC (c:List Bell):Prop where
 c3:c.length≤3
 s:∀ b∈c,0≤b.start∧b.start≤9
 l:∀ b∈c,∀ l∈b.lis,1≤l.beats∧l.beats≤9
theorem By {c:List Bell} {b p m:Nat} {bl:Bell} {l:Lis} (S:SlowAt c b p m bl l) (sm:SmC c) (hc:iU c) (hm:m≤30) {n i:Nat} (hn:n≤9) {o o':Option Int} (h:c8 c n i o) (h':c8 (bz c b p m bl l) n i o'):Au n m o o':=by
 obtain ⟨rows,row,h1,h2,h3,h4⟩:=h
 obtain ⟨rows',row',g1,g2,g3,g4⟩:=h'
 have B:=uo S hc h1 g1 n row row' h3 g3
 have nm:n * m≤9 * 30:=Nat.mul_le_mul hn hm
 have nm':(n:Int) * (m:Int)=((n * m:Nat):Int):=by rw [Int.natCast_mul]
 cases o with
 | none =>
  cases o' with
  | none=>exact .inl ⟨rfl,rfl⟩
  | some v =>
   obtain ⟨u,hu,_⟩:=B.le i v g4
   rw [h4] at hu
   cases hu
 | some u =>
  obtain ⟨v,hv,hl⟩:=B.ge i u h4
  rw [g4] at hv
  have e:=Option.some.inj hv
  subst e
  obtain ⟨u',hu',hg⟩:=B.le i v g4
  have e2:=Option.some.inj (Option.some.inj (h4.symm.trans hu'))
  subst e2
  have bd:=j2 h1 sm.c3 sm.s sm.l n row h3 u (List.mem_of_getElem? h4)
  refine .inr ⟨u.toNat,v.toNat,?_,?_,?_,?_,?_,?_⟩
  ·rw [Int.toNat_of_nonneg (by omega)]
  ·rw [Int.toNat_of_nonneg (by omega)]
  ·omega
  ·rw [Int.toNat_of_nonneg (by omega),Int.toNat_of_nonneg (by omega)]
   exact hl
  ·omega
  ·omega
theorem oX:∀ c∈("never":Str).cps.toList,97≤c:=by decide +kernel
theorem m8 {u:Nat} (h:u<1001):aK (u:Int)≠"never":=qy (by omega) (by omega) oX
def Ao (m:Nat) (t t':List (List Str)):Prop:=t.length=t'.length∧t.length≤6∧∀ (i:Nat) r r',t[i]?=some r→t'[i]?=some r'→∀ (k n:Nat),iN[k]?=some n→∃ o o',r[k]?=some (fE o)∧r'[k]?=some (fE o')∧Au n m o o'
theorem Bb {c:List Bell} {b p m:Nat} {bl:Bell} {l:Lis} (S:SlowAt c b p m bl l) (sm:SmC c) (hc:iU c) (hm:m≤30) {t t':List (List Str)} (e:t.length=c.length) (e':t'.length=c.length) (h:ik c 0 t) (h':ik (bz c b p m bl l) 0 t'):Ao m t t':=by
 have:=sm.c3
 refine ⟨by omega,by omega,fun i r r' hr hr' k n hk=>?_⟩
 obtain ⟨o,so,e1⟩:=(h i r hr).2 k n hk
 obtain ⟨o',so',e2⟩:=(h' i r' hr').2 k n hk
 exact ⟨o,o',e1,e2,By S sm hc hm (rH n (List.mem_of_getElem? hk)) so so'⟩
theorem DK {a b:Bool} {p q:Prop} (e:a=b) (h:q):if (!decide (V.bl a=V.bl b))=true then p else q:=by
 rw [if_neg (by rw [e]; simp)]
 exact h
theorem DY {a b:Str} {p q:Prop} (e:a≠b) (h:p):if (!decide (V.str a=V.str b))=true then p else q:=by
 rw [if_pos (by rw [decide_eq_false (fun z=>e (V.str.inj z))]; rfl)]
 exact h
theorem Ct {u:Nat} (h:u<1001):decide (V.str (fE (some (u:Int)))=V.str "never")=false:=decide_eq_false fun e=>m8 h (V.str.inj e)
section
variable {P:Program} {w:World} {K:PySem.W.Frag} {mg:Str→Option Value} {base:Heap} {f:Addr} {fd:FuncData}
def lH:Sp:=fun vs H Q _=>∃ (p q:Addr) (t t':List (List Str)) (m:Nat),vs=[.ref p,.ref q,.int (m:Int)]∧TblAt H p t∧TblAt H q t'∧Ao m t t'∧m≤1000∧∀ H',Same H H'→Q (.bl true) H'
theorem gY:FnScope ["_law_ahead","_law_behind","_law_more","_law_one","_law_other","_law_k","_law_most"] ["_law_ahead","_law_behind","_law_more"] (aq oE):=⟨rfl,rfl,rfl,by decide +kernel,rfl,by decide +kernel,by decide +kernel⟩
theorem yq (F:Fun K "_law_later" "_law_later" oE f fd) (B:Blt mg):FnOk P w K mg base CX0 1 f fd ["_law_ahead","_law_behind","_law_more"] lH:=by
 refine F.ok gY (fun vs H Q E h=>?_) (fun cdv A outer s H vs Q E hr h=>?_)
 ·obtain ⟨p,q,t,t',m,rfl,_⟩:=h
  rfl
 obtain ⟨p,q,t,t',m,rfl,⟨vs,hp,pr⟩,⟨vs',hq,pr'⟩,⟨el,t6,lt⟩,hm,qq⟩:=h
 refine ⟨_,(af (cL PassesOwn.never rfl (BP false false rfl B.zip_ (aa (pv 0) (aa (pv 1) ae))) (fV rfl (bg (aI (i:=3) gY.nd rfl (Or.inl rfl)) (bg (aI (i:=4) gY.nd rfl (Or.inl rfl)) d9)))
  (ak (cL PassesOwn.never rfl (fz rfl B.range_ (aa aj ae)) (aI (i:=5) gY.nd rfl (Or.inl rfl))
  (af (aU (aC je (dI cF (ar ax (pv 3) (pv 5) (fun _ _=>rfl)) aB (aL _)) (dI cF (ar ax (pv 4) (pv 5) (fun _ _=>rfl)) aB (aL _)) (aL _))
  aH
  aw)
  (af (aJ (i:=6) gY.nd rfl (Or.inl rfl) (aV kQ (ar ax (cD (aa aj (aa aj (aa aj (aa aj (aa aj (aa aj ae))))))) (pv 5) (fun _ _=>rfl)) (pv 2)))
  (ak (aU (PW.pt (ou (aC je (ar ax (pv 3) (pv 5) (fun _ _=>rfl)) aB (aL _)) (kz (bw (da dr dr (aX cj rfl B.int_ PyProof.Rows.boot_int (aa (ar ax (pv 3) (pv 5) (fun _ _=>rfl)) ae)) (aX cj rfl B.int_ PyProof.Rows.boot_int (aa (ar ax (pv 4) (pv 5) (fun _ _=>rfl)) ae)) (aV cm (aX cj rfl B.int_ PyProof.Rows.boot_int (aa (ar ax (pv 3) (pv 5) (fun _ _=>rfl)) ae)) (pv 6)))))))
  aH
  aw)))))))
  (ak (av eQ))),?_⟩
 refine ⟨_,rfl,_,rfl,p,q,rfl,⟨_,SqL.of hp⟩,⟨_,SqL.of hq⟩,Ac (K:=K) (t1:=false) (t2:=false) (a:=p) (b:=q) (xs:=vs) (ys:=vs') (fun i σ H1=>∃ (o3 o4 o5 o6:Option V),σ=[some (.ref p),some (.ref q),some (.int (m:Int)),o3,o4,o5,o6]∧Same H H1)
  ⟨none,none,none,none,rfl,.refl H⟩ (fun i σ H1 _ ⟨_,_,_,_,_,z⟩=>⟨SqL.of (z _ _ hp),SqL.of (z _ _ hq)⟩) ?_ ?_⟩
 ·rintro i x y σ H1 T hx hy ⟨o3,o4,o5,o6,rfl,s1⟩ hT
  obtain ⟨r,hr',a,rfl,_,ha⟩:=aZ pr hx
  obtain ⟨r',hr'',b,rfl,_,hb⟩:=aZ pr' hy
  have l1:=lt i r r' hr' hr''
  have s2:=ao hT (.tup [.ref a,.ref b])
  have eT:(upd H1 T (.tup [.ref a,.ref b])) T=some (.tup [.ref a,.ref b]):=ah
  have s02:=s1.trans s2
  generalize upd H1 T (.tup [.ref a,.ref b])=H2 at s2 eT s02 ⊢
  refine ⟨T,_,rfl,SqT.of eT,rfl,_,_,rfl,_,_,rfl,rfl,?_⟩
  refine ⟨_,rfl,by decide,by decide,?_⟩
  refine hV (lo:=0) (n:=(6:Int).toNat) (fun j σ H3=>∃ (o5 o6:Option V),σ=[some (.ref p),some (.ref q),some (.int (m:Int)),some (.ref a),some (.ref b),o5,o6]∧Same H H3)
   ⟨_,_,rfl,s02⟩ ?_ ?_
  ·rintro j σ H3 hj ⟨o5,o6,rfl,s3⟩
   have hj6:j<6:=hj
   have es:=List.getElem?_eq_getElem (show j<iN.length from hj6)
   obtain ⟨o,o',e1,e2,lo⟩:=l1 j _ es
   have e0:(0:Int)+(j:Int)=(j:Int):=by omega
   rw [e0]
   have a1:atI (r.map V.str) (j:Int)=some (.str (fE o)):=bj (by rw [List.getElem?_map,e1]; rfl)
   have a2:atI (r'.map V.str) (j:Int)=some (.str (fE o')):=bj (by rw [List.getElem?_map,e2]; rfl)
   have n9:=rH _ (List.getElem_mem (show j<iN.length from hj6))
   have a3:atI (iN.map fun n:Nat=>V.int (n:Int)) (j:Int)=some (.int ((iN[j]'(show j<iN.length from hj6):Nat):Int)):=bj (by rw [List.getElem?_map,es]; rfl)
   generalize iN[j]'(show j<iN.length from hj6)=n at lo a3 n9
   have T1:SqL K H3 a (r.map V.str):=SqL.of (s3 _ _ ha)
   have T2:SqL K H3 b (r'.map V.str):=SqL.of (s3 _ _ hb)
   refine ⟨_,rfl,_,rfl,a,_,_,_,rfl,rfl,T1,a1,rfl,_,rfl,_,rfl,b,_,_,_,rfl,rfl,T2,a2,rfl,rfl,_,rfl,?_⟩
   have same:decide (V.str (fE o)=V.str "never")=decide (V.str (fE o')=V.str "never"):=by
    rcases lo with ⟨rfl,rfl⟩ | ⟨u,v,rfl,rfl,_,_,hu,hv⟩
    ·rfl
    ·rw [Ct hu,Ct hv]
   refine DK same ?_
   refine ⟨(by show 6≤sizeLine; decide),fun nl hnl=>?_⟩
   have s4:=ao hnl (.lst [.int 0,.int 1,.int 2,.int 3,.int 5,.int 9])
   have hn4:(upd H3 nl (.lst [.int 0,.int 1,.int 2,.int 3,.int 5,.int 9])) nl=some (.lst (iN.map fun n:Nat=>V.int (n:Int))):=ah
   have s04:=s3.trans s4
   generalize upd H3 nl (.lst [.int 0,.int 1,.int 2,.int 3,.int 5,.int 9])=H4 at s4 hn4 s04 ⊢
   have T3:SqL K H4 a (r.map V.str):=SqL.of (s04 _ _ ha)
   have T4:SqL K H4 b (r'.map V.str):=SqL.of (s04 _ _ hb)
   refine ⟨_,rfl,nl,_,_,_,rfl,rfl,SqL.of hn4,a3,_,rfl,_,_,rfl,rfl,?mul,?_⟩
   case mul=>exact .inl ⟨by omega,by omega⟩
   refine ⟨_,rfl,_,rfl,a,_,_,_,rfl,rfl,T3,a1,rfl,_,rfl,?_⟩
   rcases lo with ⟨rfl,rfl⟩ | ⟨u,v,rfl,rfl,h1,h2,hu,hv⟩
   ·exact ifE rfl (bh ⟨_,_,rfl,s04⟩)
   ·have ul:=bZ hu
    have vl:=bZ hv
    refine DY (m8 hu) ?_
    refine ⟨_,rfl,_,rfl,a,_,_,_,rfl,rfl,T3,a1,aK (u:Int),u,rfl,by omega,cV hu,_,rfl,_,rfl,b,_,_,_,rfl,rfl,T4,a2,aK (v:Int),v,rfl,by omega,cV hv,_,_,rfl,rfl,_,rfl,?_⟩
    rw [decide_eq_true (show (u:Int)≤(v:Int) by omega)]
    refine bf ⟨_,rfl,_,rfl,a,_,_,_,rfl,rfl,T3,a1,aK (u:Int),u,rfl,by omega,cV hu,_,rfl,_,_,rfl,rfl,_,_,rfl,rfl,_,rfl,?_⟩
    rw [decide_eq_true h2]
    exact bh ⟨_,_,rfl,s04⟩
  ·rintro σ H3 ⟨o5,o6,rfl,s3⟩
   exact ⟨_,_,_,_,rfl,s3⟩
 ·rintro σ H1 ⟨o3,o4,o5,o6,rfl,s1⟩
  exact qq H1 s1
end
end K83.S
namespace K83.S
open PySem L2
theorem wu {n:Nat} {b:Bell}:wants (mvB n b)=wants b:=by
 unfold wants mvB
 cases b.rule with
 | all=>show ((b.lis.map (mvL n)).length:Int)=b.lis.length; rw [List.length_map]
 | any=>rfl
 | num i=>rfl
theorem Ah {b:Bell} {X Y x y:List (Option Int)} (h:∀ l∈b.lis,X[l.whom]?=x[l.whom]?∧Y[l.whom]?=y[l.whom]?):aQ b X Y=aQ b x y:=by
 unfold aQ
 refine List.map_congr_left fun l hl=>?_
 obtain ⟨h1,h2⟩:=h l hl
 unfold gm
 cases l.back with
 | true=>rw [if_pos rfl,if_pos rfl,h1]
 | false=>rw [if_neg Bool.false_ne_true,if_neg Bool.false_ne_true,h2]
theorem ye {n:Nat} {b:Bell} {X Y x y:List (Option Int)} (h:∀ l∈b.lis,X[l.whom+n]?=x[l.whom]?∧Y[l.whom+n]?=y[l.whom]?):aQ (mvB n b) X Y=aQ b x y:=by
 unfold aQ
 show (b.lis.map (mvL n)).map (gm X Y)=_
 rw [List.map_map]
 refine List.map_congr_left fun l hl=>?_
 obtain ⟨h1,h2⟩:=h l hl
 show gm X Y (mvL n l)=gm x y l
 unfold gm
 show Option.map _ ((if l.back then X else Y)[l.whom+n]?).join=_
 cases l.back with
 | true=>rw [if_pos rfl,if_pos rfl,h1]; rfl
 | false=>rw [if_neg Bool.false_ne_true,if_neg Bool.false_ne_true,h2]; rfl
theorem yI {c1 c2:List Bell} (h1:∀ b∈c1,∀ l∈b.lis,l.whom<c1.length) {X Y:List (Option Int)} (f:Fix (cf c1 c2) X Y):Fix c1 (X.take c1.length) (Y.take c1.length):=by
 refine ⟨by rw [List.length_take,f.1,jj]; omega,fun k b hb=>?_⟩
 have hk:=(List.getElem?_eq_some_iff.mp hb).1
 have hJ:(cf c1 c2)[k]?=some b:=by
  unfold cf
  rw [List.getElem?_append_left hk]
  exact hb
 obtain ⟨o,ho,hd⟩:=f.2 k b hJ
 refine ⟨o,by rw [List.getElem?_take_of_lt hk]; exact ho,?_⟩
 rw [Ah (x:=X) (y:=Y) fun l hl=>?_]
 ·exact hd
 ·have:=h1 b (List.mem_of_getElem? hb) l hl
  exact ⟨List.getElem?_take_of_lt this,List.getElem?_take_of_lt this⟩
theorem wm {c1 c2:List Bell} {X Y:List (Option Int)} (f:Fix (cf c1 c2) X Y):Fix c2 (X.drop c1.length) (Y.drop c1.length):=by
 refine ⟨by rw [List.length_drop,f.1,jj]; omega,fun k b hb=>?_⟩
 have hJ:(cf c1 c2)[c1.length+k]?=some (mvB c1.length b):=by
  unfold cf
  rw [List.getElem?_append_right (by omega),Nat.add_sub_cancel_left,List.getElem?_map,hb]
  rfl
 obtain ⟨o,ho,hd⟩:=f.2 _ _ hJ
 refine ⟨o,by rw [List.getElem?_drop]; exact ho,?_⟩
 rw [wu,ye (x:=X.drop c1.length) (y:=Y.drop c1.length) fun l hl=>?_] at hd
 ·exact hd
 ·rw [List.getElem?_drop,List.getElem?_drop,Nat.add_comm]
  exact ⟨rfl,rfl⟩
theorem mZ {c c':List Bell} {g:List (Option Int)→List (Option Int)} (g0:g (c.map fun b=>some b.start)=c'.map fun b=>some b.start) (gf:∀ {X Y:List (Option Int)},Fix c X Y→Fix c' (g X) (g Y)) {rows:List (List (Option Int))} (h:Rows c rows):Rows c' (rows.map g) where
 first:=fun row e=>by
  rw [List.getElem?_map] at e
  obtain ⟨x,hx,rfl⟩:=Option.map_eq_some_iff.mp e
  rw [h.first x hx,g0]
 next:=fun n x y ex ey=>by
  rw [List.getElem?_map] at ex ey
  obtain ⟨x,hx,rfl⟩:=Option.map_eq_some_iff.mp ex
  obtain ⟨y,hy,rfl⟩:=Option.map_eq_some_iff.mp ey
  exact gf (h.next n x y hx hy)
theorem uC {c1 c2:List Bell} (h1:∀ b∈c1,∀ l∈b.lis,l.whom<c1.length) {n i:Nat} {o:Option Int} (hi:i<c1.length) (h:c8 (cf c1 c2) n i o):c8 c1 n i o:=by
 obtain ⟨rows,row,r1,r2,r3,r4⟩:=h
 refine ⟨rows.map (·.take c1.length),row.take c1.length,mZ (c:=cf c1 c2) ?_ (fun f=>yI h1 f) r1,by rw [List.length_map]; exact r2,by rw [List.getElem?_map,r3]; rfl,by rw [List.getElem?_take_of_lt hi]; exact r4⟩
 unfold cf
 rw [List.map_append,List.take_left' (List.length_map _)]
theorem uM {c1 c2:List Bell} {n i:Nat} {o:Option Int} (h:c8 (cf c1 c2) n (c1.length+i) o):c8 c2 n i o:=by
 obtain ⟨rows,row,r1,r2,r3,r4⟩:=h
 refine ⟨rows.map (·.drop c1.length),row.drop c1.length,mZ (c:=cf c1 c2) ?_ (fun f=>wm f) r1,by rw [List.length_map]; exact r2,by rw [List.getElem?_map,r3]; rfl,by rw [List.getElem?_drop]; exact r4⟩
 unfold cf
 rw [List.map_append,List.drop_left' (List.length_map _),List.map_map]
 rfl
theorem jG {c1 c2:List Bell} (h1:∀ b∈c1,∀ l∈b.lis,l.whom<c1.length) {t:List (List Str)} (hl:t.length=c1.length) (h:ik (cf c1 c2) 0 t):ik c1 0 t:=fun i r hr=>by
 have hi:=(List.getElem?_eq_some_iff.mp hr).1
 refine ⟨(h i r hr).1,fun k n hk=>?_⟩
 obtain ⟨o,so,e⟩:=(h i r hr).2 k n hk
 exact ⟨o,uC h1 (by omega) so,e⟩
theorem m6 {c1 c2:List Bell} {t:List (List Str)} (h:ik (cf c1 c2) c1.length t):ik c2 0 t:=fun i r hr=>by
 refine ⟨(h i r hr).1,fun k n hk=>?_⟩
 obtain ⟨o,so,e⟩:=(h i r hr).2 k n hk
 rw [Nat.zero_add]
 exact ⟨o,uM so,e⟩
theorem jQ {c:List Bell} (g:GoodC c):∀ b∈c,∀ l∈b.lis,l.whom<c.length:=fun b hb l hl=>((g.gb b hb).l l hl).1
theorem qP {c1 c2:List Bell} {b p:Nat} {m:Int} {bl:Bell} {l:Lis} (h:b<c1.length):bz (cf c1 c2) b p m bl l=cf (bz c1 b p m bl l) c2:=by
 unfold cf
 rw [cw]
 unfold bz
 rw [List.set_append_left _ _ h]
theorem xU {c1 c2:List Bell} {b p:Nat} {m:Int} {bl:Bell} {l:Lis} (S:SlowAt c1 b p m bl l):SlowAt (cf c1 c2) b p m bl l:=⟨by
 have h:=(List.getElem?_eq_some_iff.mp S.hb).1
 unfold cf
 rw [List.getElem?_append_left h]
 exact S.hb,S.hp,S.m0,S.m1⟩
theorem fU {c:List Bell} {b p:Nat} {m:Int} {bl:Bell} {l:Lis} (S:SlowAt c b p m bl l):(bz c b p m bl l).map (·.name)=c.map (·.name):=by
 refine List.ext_getElem? fun k=>?_
 rw [List.getElem?_map,List.getElem?_map]
 cases hk:c[k]? with
 | none =>
  have h:=List.getElem?_eq_none_iff.mp hk
  rw [List.getElem?_eq_none (by rw [cw]; exact h)]
 | some b0 =>
  obtain ⟨b1,e1,_,en,_⟩:=e6 S k b0 hk
  rw [e1]
  show some b1.name=some b0.name
  rw [en]
theorem oQ {c:List Bell} {b p:Nat} {m:Int} {bl:Bell} {l:Lis} (S:SlowAt c b p m bl l) (g:GoodC c):GoodC (bz c b p m bl l):=by
 have key:∀ b1∈bz c b p m bl l,∃ b0∈c,b1.name=b0.name∧GoodB c.length 0 true b1:=fun b1 h1=>by
  obtain ⟨k,hk⟩:=List.getElem?_of_mem h1
  obtain ⟨b0,h0⟩:=g5 hk
  obtain ⟨b1',e1,_,en,es,er,el,_⟩:=e6 S k b0 h0
  obtain rfl:b1'=b1:=Option.some.inj (e1.symm.trans hk)
  have hm:=List.mem_of_getElem? h0
  have gb:=g.gb b0 hm
  refine ⟨b0,hm,en,by rw [el]; exact gb.n1,by rw [el]; exact gb.n6,by rw [es]; exact gb.s0,by rw [es]; exact gb.s1,by rw [el,er]; exact gb.r,fun x hx=>?_⟩
  obtain ⟨b2,y,h2,hy,w1,w2,w3⟩:=kW S hk hx
  obtain rfl:b2=b0:=Option.some.inj (h2.symm.trans h0)
  obtain ⟨a1,a2,a3,_⟩:=gb.l y hy
  exact ⟨by rw [w1]; exact a1,by omega,by omega,fun z=>(nomatch z)⟩
 refine ⟨by rw [cw]; exact g.c1,by rw [cw]; exact g.c6,fun b1 h1=>by rw [cw]; exact (key b1 h1).choose_spec.2.2,fun b1 h1=>?_,fun b1 h1=>?_,by rw [fU S]; exact g.nd⟩
 ·obtain ⟨b0,h0,e,_⟩:=key b1 h1
  rw [e]
  exact g.wd b0 h0
 ·obtain ⟨b0,h0,e,_⟩:=key b1 h1
  rw [e]
  exact g.f4 b0 h0
theorem eF {c0 c:List Bell} {off:Nat} (h:∀ i:Nat,i<c0.length→(c.map (·.name))[off+i]?=(c0.map (·.name))[i]?):∀ (i:Nat) b,c0[i]?=some b→∃ b',c[off+i]?=some b'∧b'.name=b.name:=fun i b hb=>by
 have e:=h i (List.getElem?_eq_some_iff.mp hb).1
 rw [List.getElem?_map,List.getElem?_map,hb] at e
 obtain ⟨b',h1,h2⟩:=Option.map_eq_some_iff.mp e
 exact ⟨b',h1,h2⟩
theorem fT (c:List Bell):∀ (i:Nat) b,c[i]?=some b→∃ b',c[0+i]?=some b'∧b'.name=b.name:=fun i b hb=>⟨b,by rw [Nat.zero_add]; exact hb,rfl⟩
theorem kG {c:List Bell} {b p:Nat} {m:Int} {bl:Bell} {l:Lis} (S:SlowAt c b p m bl l):∀ (i:Nat) x,c[i]?=some x→∃ b',(bz c b p m bl l)[0+i]?=some b'∧b'.name=x.name:=eF fun i _=>by rw [fU S,Nat.zero_add]
theorem jD {c0 c1 c2:List Bell} (e:c0.map (·.name)=c1.map (·.name)):∀ (i:Nat) b,c0[i]?=some b→∃ b',(cf c1 c2)[0+i]?=some b'∧b'.name=b.name:=eF fun i hi=>by
 have hl:c0.length=c1.length:=by have:=congrArg List.length e; rwa [List.length_map,List.length_map] at this
 rw [ip,Nat.zero_add,List.getElem?_append_left (by rw [List.length_map]; omega),e]
theorem mX {c1 c2:List Bell} {n:Nat} (hn:n=c1.length):∀ (i:Nat) b,c2[i]?=some b→∃ b',(cf c1 c2)[n+i]?=some b'∧b'.name=b.name:=eF fun i hi=>by
 rw [ip,hn,List.getElem?_append_right (by rw [List.length_map]; omega),List.length_map,Nat.add_sub_cancel_left]
end K83.S
namespace K83.S
open PySem L2
theorem iO:a9 ("a":Str)=true:=by decide +kernel
theorem nU:a9 ("b":Str)=true:=by decide +kernel
theorem c5:a9 ("both":Str)=true:=by decide +kernel
theorem se {h:Str} {x w:Str} (e:h.cps.toList=("choir":Str).cps.toList++32::(w.cps.toList++[32])):(h++x).cps.toList=("choir":Str).cps.toList++32::(w.cps.toList++32::x.cps.toList):=by
 rw [br,e,List.append_assoc,List.cons_append,List.append_assoc]
 rfl
theorem Ak {j:Str}:(("choir a ":Str)++j).cps.toList=("choir":Str).cps.toList++32::(("a":Str).cps.toList++32::j.cps.toList):=se (by decide +kernel)
theorem zN {j:Str}:(("choir b ":Str)++j).cps.toList=("choir":Str).cps.toList++32::(("b":Str).cps.toList++32::j.cps.toList):=se (by decide +kernel)
theorem qT:("join both a b":Str).cps.toList=cpsOf [("join":Str),"both","a","b"]:=by decide +kernel
theorem qU:("drop both":Str).cps.toList=cpsOf [("drop":Str),"both"]:=by decide +kernel
theorem yo {h w b p m:Str} (e:h.cps.toList=("slow":Str).cps.toList++32::w.cps.toList):(h++(" "++b++" "++p++" "++m)).cps.toList=cpsOf [("slow":Str),w,b,p,m]:=by
 rw [br,br,br,br,br,br,sJ,e]
 simp only [List.append_assoc,List.cons_append,List.nil_append]
 rfl
theorem Bd {b p m:Str}:(("slow a":Str)++(" "++b++" "++p++" "++m)).cps.toList=cpsOf [("slow":Str),"a",b,p,m]:=yo (by decide +kernel)
theorem vg {b p m:Str}:(("slow both":Str)++(" "++b++" "++p++" "++m)).cps.toList=cpsOf [("slow":Str),"both",b,p,m]:=yo (by decide +kernel)
def Keeps (H:Hp) (kv:List (Key×V)) (w:Str) (c:List Bell):Prop:=∃ v,bQ kv (Sum.inr w)=some v∧ChoirAt H v c
theorem Keeps.mono {H H':Hp} (s:iy H H') {kv:List (Key×V)} {w:Str} {c:List Bell} (h:Keeps H kv w c):Keeps H' kv w c:=by
 obtain ⟨v,h1,h2⟩:=h
 exact ⟨v,h1,h2.mono s⟩
theorem Keeps.put {H H':Hp} (s:iy H H') {kv:List (Key×V)} {w w':Str} {c:List Bell} {v':V} (ne:w≠w') (h:Keeps H kv w c):Keeps H' (putK kv (Sum.inr w') v') w c:=by
 obtain ⟨v,h1,h2⟩:=h
 exact ⟨v,by rw [pK,if_neg (fun e=>ne (Sum.inr.inj e))]; exact h1,h2.mono s⟩
theorem Keeps.new {H:Hp} {kv:List (Key×V)} {w:Str} {c:List Bell} {v:V} (h:ChoirAt H v c):Keeps H (putK kv (Sum.inr w) v) w c:=⟨v,by rw [pK,if_pos rfl],h⟩
theorem Keeps.drop {H H':Hp} (s:iy H H') {kv:List (Key×V)} {w w':Str} {c:List Bell} (ne:w≠w') (h:Keeps H kv w c):Keeps H' (dU kv (Sum.inr w')) w c:=by
 obtain ⟨v,h1,h2⟩:=h
 exact ⟨v,by rw [mB,if_neg (fun e=>ne (Sum.inr.inj e))]; exact h1,h2.mono s⟩
theorem TblAt.ne {H:Hp} {p q:Addr} {t:List (List Str)} (h:TblAt H p t) (hq:H q=none):q≠p:=by
 obtain ⟨vs,h1,_⟩:=h
 exact fun e=>by rw [e,h1] at hq; cases hq
theorem DH {b:Bool} {p q:Prop} (e:b=true) (h:p):if b=true then p else q:=by
 rw [if_pos e]
 exact h
theorem oN {b:Bool} {p q:Prop} (e:b=false) (h:q):if b=true then p else q:=by
 rw [if_neg (by rw [e]; exact Bool.false_ne_true)]
 exact h
theorem CF:("a":Str)≠"b":=by decide +kernel
theorem wK:("a":Str)≠"both":=by decide +kernel
theorem wI:("b":Str)≠"both":=by decide +kernel
theorem CN:("b":Str)≠"a":=by decide +kernel
theorem CB:("both":Str)≠"a":=by decide +kernel
section
variable {P:Program} {w:World} {K:PySem.W.Frag} {mg:Str→Option Value} {base:Heap} {f:Addr} {fd:FuncData}
def lA (C:Addr):Sp:=fun vs H Q _=>∃ (D d:Addr) (kvs:List (Key×V)) (ch1 ch2:V) (c1 c2:List Bell) (at_ pl m:Nat) (bl:Bell) (ll:Lis),vs=[.ref D,ch1,ch2,.int (at_:Int),.int (pl:Int),.int (m:Int)]∧DeskAt C H D d kvs∧kvs.length≤100∧ChoirAt H ch1 c1∧ChoirAt H ch2 c2∧GoodC c1∧GoodC c2∧SmC c1∧c2.length≤3∧(∀ z∈c2.map (·.name),z∉c1.map (·.name))∧SlowAt c1 at_ pl m bl ll∧pl≤6∧m≤30∧
 ∀ H' kvs',But d H H'→H' d=some (.dK kvs')→kvs'.length≤kvs.length+5→Q (.bl true) H'
theorem fg:FnScope ["_law_desk","_law_one","_law_other","_law_at","_law_place","_law_more","_law_rows_here","_law_first","_law_second","_law_row","_law_slow"] ["_law_desk","_law_one","_law_other","_law_at","_law_place","_law_more"] (aq oy):=⟨rfl,rfl,rfl,by decide +kernel,rfl,by decide +kernel,by decide +kernel⟩
theorem wC {C fi fs ft fk fc fp fl fj:Addr} {ds:FuncData} (F:Fun K "_law_right" "_law_right" oy f fd) (B:Blt mg) (O:DeskC K C fi fs ft fk fc fp fl fj) (GS:FnOk P w K mg base CX0 11 fs ds ["self","row"] (nT C)) (bS:Binds K ds ["self","row"] []) (C_rows:Cal P w K mg base 1 "_law_rows" ["_law_choir"] lG) (C_strk:Cal P w K mg base 12 "_law_strokes" ["_law_desk","_law_word","_law_choir"] (gM C)) (C_later:Cal P w K mg base 1 "_law_later" ["_law_ahead","_law_behind","_law_more"] lH) :
  FnOk P w K mg base CX0 13 f fd ["_law_desk","_law_one","_law_other","_law_at","_law_place","_law_more"] (lA C):=by
 refine F.ok fg (fun vs H Q E h=>?_) (fun cdv A outer s H vs Q E hr h=>?_)
 ·obtain ⟨D,d,kvs,ch1,ch2,c1,c2,at_,pl,m,bl,ll,rfl,_⟩:=h
  rfl
 obtain ⟨D,d,kvs,ch1,ch2,c1,c2,at_,pl,m,bl,ll,rfl,dk0,kl,hch1,hch2,g1,g2,sm,c23,dj,S,hpl,hm,q⟩:=h
 have hr11:Room 11 _:=hr.mono (by decide)
 refine ⟨_,(af (aJ (i:=6) fg.nd rfl (Or.inl rfl) (cD (aa (aV a8 aB (az C_rows hr (by decide) rfl (aa (pv 1) ae))) (aa (aV a8 aB (az C_rows hr (by decide) rfl (aa (pv 2) ae))) (aa aB ae)))))
  (af (aU (aC (iu hr.units) (cJ ["_law_row"] ["_law_desk"] [0] rfl (dG (pv 6)) (fun _ _ _ _ _=>(aI (i:=0) (show List.Nodup [("_law_row":Str),("_law_desk":Str)] by decide +kernel) rfl (Or.inl rfl))) (fun _ _ _ _ _=>bV) (fun _ _ _ _ _=>(mP (K:=K) rfl (pv 1) GS hr11 bS .nil bN (aa (pv 0) ae)))) (aV zJ (cD (aa aB ae)) aj) (aL _))
  aH
  aw)
  (af (aJ (i:=7) fg.nd rfl (Or.inl rfl) (az C_strk hr (by decide) rfl (aa (pv 0) (aa aB (aa (pv 1) ae)))))
  (af (aJ (i:=8) fg.nd rfl (Or.inl rfl) (az C_strk hr (by decide) rfl (aa (pv 0) (aa aB (aa (pv 2) ae)))))
  (af (aU (PW.pt (eC (aC (iu hr.units) (az C_strk hr (by decide) rfl (aa (pv 0) (aa aB (aa (pv 1) ae)))) (pv 7) (aL _)) (cT (aC (iu hr.units) (az C_strk hr (by decide) rfl (aa (pv 0) (aa aB (aa (pv 2) ae)))) (pv 8) (aL _)))))
  aH
  aw)
  (af (aJ (i:=9) fg.nd rfl (Or.inl rfl) (aV a8 (aV a8 (aV a8 (aV a8 (aV a8 aB (ar aP (ar aP (pv 1) (pv 3) (fun _ _=>rfl)) aj (fun _ _=>rfl))) aB) (aX cZ rfl B.str_ PyProof.Rows.boot_str (aa (pv 4) ae))) aB) (aX cZ rfl B.str_ PyProof.Rows.boot_str (aa (pv 5) ae))))
  (af (aU (PW.pt (eC (aC je (bM (pv 0) GS hr11 bS .nil bN (aa (aV a8 aB (pv 9)) ae)) aB (aL _)) (cT (aC (iu hr.units) (az C_strk hr (by decide) rfl (aa (pv 0) (aa aB (aa (pv 2) ae)))) (pv 8) (aL _)))))
  aH
  aw)
  (af (aJ (i:=10) fg.nd rfl (Or.inl rfl) (az C_strk hr (by decide) rfl (aa (pv 0) (aa aB (aa (pv 1) ae)))))
  (af (aU (PW.pt (eC (bw (bG (az C_later hr (by decide) rfl (aa (pv 7) (aa (pv 10) (aa (pv 5) ae)))))) (cT (aC (iu hr.units) (az C_strk hr (by decide) rfl (aa (pv 0) (aa aB (aa (pv 1) ae)))) (pv 7) (aL _)))))
  aH
  aw)
  (af (aU (PW.pt (eC (aC je (bM (pv 0) GS hr11 bS .nil bN (aa (aV a8 aB (pv 9)) ae)) aB (aL _)) (cT (aC (iu hr.units) (az C_strk hr (by decide) rfl (aa (pv 0) (aa aB (aa (pv 1) ae)))) (pv 10) (aL _)))))
  aH
  aw)
  (af (aU (PW.pt (eC (aC (iu hr.units) (az C_strk hr (by decide) rfl (aa (pv 0) (aa aB (aa (pv 1) ae)))) (pv 10) (aL _)) (cT (aC je (bM (pv 0) GS hr11 bS .nil bN (aa aB ae)) aB (aL _)))))
  aH
  aw)
  (ak (av (iE (dI (vP hr.units) (az C_strk hr (by decide) rfl (aa (pv 0) (aa aB (aa (pv 1) ae)))) (pv 10) (aL _)) (gp (dI (vP hr.units) (az C_strk hr (by decide) rfl (aa (pv 0) (aa aB (aa (pv 2) ae)))) (pv 8) (aL _))))))))))))))))),?_⟩
 have f1:=hZ g1
 have f2:=hZ g2
 have g1':=oQ S g1
 have f1':=hZ g1'
 have c13:=sm.c3
 have h6:c1.length+c2.length≤6:=by omega
 have gJ:=kS g1 g2 h6 dj
 have l1':(bz c1 at_ pl m bl ll).length=c1.length:=cw
 have n1':=fU S
 have gJ':GoodC (cf (bz c1 at_ pl m bl ll) c2):=kS g1' g2 (by omega) (by rw [n1']; exact dj)
 have rr1:=il g1
 have rr2:=il g2
 have rl1:=rr1.len
 have rl2:=rr2.len
 have c8a:("choir a ":Str).length=8:=by decide +kernel
 have c8b:("choir b ":Str).length=8:=by decide +kernel
 have zl1:=aT ("choir a ") (Txt.join "; " (cI c1))
 have zl2:=aT ("choir b ") (Txt.join "; " (cI c2))
 refine ⟨_,rfl,ch1,c1,rfl,hch1,g1,fun H1 s1=>?_⟩
 refine ⟨_,_,rfl,rfl,(by rw [sizeLine_eq]; omega),_,rfl,ch2,c2,rfl,hch2.mono (Same.tup s1),g2,fun H2 s2=>?_⟩
 refine ⟨_,_,rfl,rfl,(by rw [sizeLine_eq]; omega),(by show 3≤sizeLine; decide),fun lr hlr=>?_⟩
 have s3:=ao hlr (.lst [.str ("choir a "++Txt.join "; " (cI c1)),.str ("choir b "++Txt.join "; " (cI c2)),.str "join both a b"])
 have hlr3:(upd H2 lr (.lst [.str ("choir a "++Txt.join "; " (cI c1)),.str ("choir b "++Txt.join "; " (cI c2)),.str "join both a b"])) lr=some (.lst [.str ("choir a "++Txt.join "; " (cI c1)),.str ("choir b "++Txt.join "; " (cI c2)),.str "join both a b"]):=ah
 have s03:=s1.trans (s2.trans s3)
 generalize upd H2 lr (.lst [.str ("choir a "++Txt.join "; " (cI c1)),.str ("choir b "++Txt.join "; " (cI c2)),.str "join both a b"])=H3 at s3 hlr3 s03 ⊢
 have dk3:=dk0.same s03
 obtain ⟨⟨dx,hD3⟩,hd3⟩:=id dk3
 have nDd:D≠d:=d6 hD3 hd3 (by intro z; cases z)
 have nlr:lr≠d:=d6 hlr3 hd3 (by intro z; cases z)
 clear s1 s2 s3 hlr
 refine ⟨_,rfl,lr,rfl,⟨_,SqL.of hlr3⟩,fun D2 hD2=>?_⟩
 have nD2:d≠D2:=aG hd3 hD2
 refine cX (K:=K) (a:=lr) (xs:=[.str ("choir a "++Txt.join "; " (cI c1)),.str ("choir b "++Txt.join "; " (cI c2)),.str "join both a b"]) (fun j ys H4=>∃ kv,But d H3 H4∧H4 d=some (.dK kv)∧kv.length≤kvs.length+j∧ys=List.replicate j (V.str "ok")∧(1≤j→Keeps H4 kv "a" c1)∧(2≤j→Keeps H4 kv "b" c2)∧(3≤j→Keeps H4 kv "both" (cf c1 c2)))
  ⟨kvs,Same.but (ao hD2 _),(ao hD2 _) _ _ hd3,by omega,rfl,fun h=>absurd h (by decide),fun h=>absurd h (by decide),fun h=>absurd h (by decide)⟩ (fun j ys H4 _ ⟨kv,b4,_⟩=>SqL.of (b4 _ _ nlr hlr3)) ?_ ?_
 ·rintro j x ys H4 hx ⟨kv,b4,hd4,kl4,rfl,k1,k2,k3⟩ hD4
  have dk4:=dk3.but b4 hd4
  have nb:∀ {H5 H6:Hp} {kv5:List (Key×V)} {zs:List V},But d H4 H5→H5 d=some (.dK kv5)→H6=upd H5 D2 (.lst zs)→H5 D2=some (.lst (List.replicate j (V.str "ok")))∧But d H3 H6∧H6 d=some (.dK kv5)∧iy H5 H6∧iy H4 H6:=fun {H5 H6 kv5 zs} b5 hd5 e=>by
   have hD5:=b5 _ _ (Ne.symm nD2) hD4
   have t5:=gy hD5 zs
   subst e
   refine ⟨hD5,fun a o ne e=>by rw [au (aG e hD2)]; exact b5 _ _ ne (b4 _ _ ne e),by rw [au nD2]; exact hd5,t5,fun a xs e=>t5 a xs (gW b5 hd4 a xs e)⟩
  refine ⟨rfl,bo ?_⟩
  match j,hx with
  | 0,hx =>
   cases hx
   refine ⟨_,rfl,C,D,dx,_,rfl,b4 _ _ nDd hD3,O.cl,O.say,rfl,_,rfl,D,d,kv,_,rfl,dk4,by omega,by omega,.inl ⟨"a",cI c1,c1,Ak,iO,rr1,fun H5 v b5 hd5 hc5=>?_⟩⟩
   obtain ⟨hD5,b6,hd6,t56,t46⟩:=nb (zs:=List.replicate 0 (V.str "ok")++[.str "ok"]) b5 hd5 rfl
   have kl5:=cG kv (Sum.inr ("a":Str)) v
   exact ⟨_,hD5,(by show 0<sizeLine; decide),_,⟨_,b6,hd6,by omega,rfl,fun _=>(Keeps.new hc5).mono t56,fun h=>absurd h (by decide),fun h=>absurd h (by decide)⟩,ah⟩
  | 1,hx =>
   cases hx
   refine ⟨_,rfl,C,D,dx,_,rfl,b4 _ _ nDd hD3,O.cl,O.say,rfl,_,rfl,D,d,kv,_,rfl,dk4,by omega,by omega,.inl ⟨"b",cI c2,c2,zN,nU,rr2,fun H5 v b5 hd5 hc5=>?_⟩⟩
   obtain ⟨hD5,b6,hd6,t56,t46⟩:=nb (zs:=List.replicate 1 (V.str "ok")++[.str "ok"]) b5 hd5 rfl
   have kl5:=cG kv (Sum.inr ("b":Str)) v
   exact ⟨_,hD5,(by show 1<sizeLine; decide),_,⟨_,b6,hd6,by omega,rfl,fun _=>(k1 (by decide)).put t46 CF,fun _=>(Keeps.new hc5).mono t56,fun h=>absurd h (by decide)⟩,ah⟩
  | 2,hx =>
   cases hx
   obtain ⟨v1,hv1,hc1⟩:=k1 (by decide)
   obtain ⟨v2,hv2,hc2⟩:=k2 (by decide)
   refine ⟨_,rfl,C,D,dx,_,rfl,b4 _ _ nDd hD3,O.cl,O.say,rfl,_,rfl,D,d,kv,_,rfl,dk4,by omega,(by decide +kernel),.inr (.inr (.inr (.inr ⟨"both","a","b",v1,v2,c1,c2,qT,c5,iO,nU,hv1,hv2,hc1,hc2,g1,g2,h6,dj,fun H5 v b5 hd5 hc5=>?_⟩)))⟩
   obtain ⟨hD5,b6,hd6,t56,t46⟩:=nb (zs:=List.replicate 2 (V.str "ok")++[.str "ok"]) b5 hd5 rfl
   have kl5:=cG kv (Sum.inr ("both":Str)) v
   exact ⟨_,hD5,(by show 2<sizeLine; decide),_,⟨_,b6,hd6,by omega,rfl,fun _=>(k1 (by decide)).put t46 wK,fun _=>(k2 (by decide)).put t46 wI,fun _=>(Keeps.new hc5).mono t56⟩,ah⟩
  | j+3,hx=>cases hx
 rintro ys H4 ⟨kv,b4,hd4,kl4,rfl,k1,k2,k3⟩ hD4
 have kl4':kv.length≤kvs.length+3:=kl4
 have ka:=k1 (by show 1≤3; decide)
 have kb:=k2 (by show 2≤3; decide)
 have kj:=k3 (by show 3≤3; decide)
 clear k1 k2 k3 kl4
 have b04:But d H H4:=fun a o ne e=>b4 a o ne (s03 _ _ e)
 have hd0:=dk0.2
 have dk4:=dk0.but b04 hd4
 have t04:=gW b04 hd0
 have hch1:=hch1.mono t04
 have hch2:=hch2.mono t04
 clear t04 dk3 hD3 hd3 hlr3 nlr s03 b4
 refine ⟨(by show 1≤sizeLine; decide),fun l1 hl1=>?_⟩
 have u1:=ao hl1 (.lst [.str "ok"])
 refine ⟨l1,_,3,rfl,rfl,ah,by decide,by decide,fun l2 hl2=>?_⟩
 have hD4':H4 D2=some (.lst ([("ok":Str),"ok","ok"].map V.str)):=hD4
 have ne2:D2≠l2:=aG (u1 _ _ hD4) hl2
 have u2:=ao hl2 (.lst (List.replicate 3 [V.str "ok"]).flatten)
 have hl22:(upd (upd H4 l1 (.lst [.str "ok"])) l2 (.lst (List.replicate 3 [V.str "ok"]).flatten)) l2=some (.lst ([("ok":Str),"ok","ok"].map V.str)):=ah
 have u:=u1.trans u2
 generalize upd (upd H4 l1 (.lst [.str "ok"])) l2 (.lst (List.replicate 3 [V.str "ok"]).flatten)=H5 at u2 hl22 u ⊢
 refine ⟨1,true,D2,l2,rfl,rfl,ne2,by decide,xw (u _ _ hD4') hl22,_,rfl,oN rfl ?_⟩
 have dk5:=dk4.same u
 have b05:But d H H5:=b04.trans (Same.but u)
 have ka5:=ka.mono (Same.tup u)
 have kb5:=kb.mono (Same.tup u)
 have kj5:=kj.mono (Same.tup u)
 have hc15:=hch1.mono (Same.tup u)
 have hc25:=hch2.mono (Same.tup u)
 clear hd4 hD4 hD4' hl1 u1 hl2 ne2 u2 hl22 u b04 dk4 ka kb kj hch1 hch2 hD2 nD2
 obtain ⟨va,hva,hca⟩:=ka5
 obtain ⟨vb,hvb,hcb⟩:=kb5
 obtain ⟨vj,hvj,hcj⟩:=kj5
 refine ⟨_,rfl,_,rfl,D,d,kv,"a",ch1,va,c1,c1,0,rfl,dk5,by omega,iO,hva,hca,g1,hc15,g1,fT c1,fun H6 p1 t1 s6 p10 tb1 tl1 tu1=>?_⟩
 refine ⟨_,rfl,_,rfl,D,d,kv,"b",ch2,vb,c2,c2,0,rfl,dk5.same s6,by omega,nU,hvb,hcb.mono (Same.tup s6),g2,hc25.mono (Same.tup s6),g2,fT c2,fun H7 p2 t2 s7 p20 tb2 tl2 tu2=>?_⟩
 have s57:=s6.trans s7
 have tb1:=tb1.same s7
 refine ⟨_,rfl,_,rfl,D,d,kv,"both",ch1,vj,c1,cf c1 c2,0,rfl,dk5.same s57,by omega,c5,hvj,hcj.mono (Same.tup s57),gJ,hc15.mono (Same.tup s57),g1,jD rfl,fun H8 p3 t3 s8 p30 tb3 tl3 tu3=>?_⟩
 have e3:t3=t1:=dQ f1.slow (by omega) (jG (jQ g1) tl3 tu3) tu1
 rw [e3] at tb3
 have n31:=tb1.ne p30
 refine ⟨_,rfl,2,true,p3,p1,rfl,rfl,n31,by decide,gu tb3 (tb1.same s8) n31,_,rfl,oN rfl ?_⟩
 have s58:=s57.trans s8
 have tb2:=tb2.same s8
 refine ⟨_,rfl,_,rfl,D,d,kv,"both",ch2,vj,c2,cf c1 c2,c1.length,rfl,dk5.same s58,by omega,c5,hvj,hcj.mono (Same.tup s58),gJ,hc25.mono (Same.tup s58),g2,mX rfl,fun H9 p4 t4 s9 p40 tb4 tl4 tu4=>?_⟩
 have e4:t4=t2:=dQ f2.slow (by omega) (m6 tu4) tu2
 rw [e4] at tb4
 have n42:=tb2.ne p40
 refine ⟨_,rfl,2,true,p4,p2,rfl,rfl,n42,by decide,gu tb4 (tb2.same s9) n42,_,rfl,oN rfl ?_⟩
 have s59:=s58.trans s9
 have tb1:=(tb1.same s8).same s9
 have tb2:=tb2.same s9
 clear tb3 tb4 n31 n42 p30 p40 tu3 tu4 e3 e4
 have gbl:=g1.gb bl (List.mem_of_getElem? S.hb)
 have n8:=g1.len bl (List.mem_of_getElem? S.hb)
 have pn:=bZ (show pl<1001 by omega)
 have mn:=bZ (show m<1001 by omega)
 have gl:=nJ
 obtain ⟨a1,bs1,rfl,ha1,pr1⟩:=id hc15
 obtain ⟨bv,ebv,ba,tt,ls,rfl,hba,_⟩:=dE pr1 S.hb
 have r1:=aT " " bl.name
 have r2:=aT (" "++bl.name) " "
 have r3:=aT (" "++bl.name++" ") (aK (pl:Int))
 have r4:=aT (" "++bl.name++" "++aK (pl:Int)) " "
 have r5:=aT (" "++bl.name++" "++aK (pl:Int)++" ") (aK (m:Int))
 refine ⟨_,rfl,_,rfl,a1,_,_,_,rfl,rfl,SqT.of (s59 _ _ ha1),bj ebv,ba,_,_,_,rfl,rfl,SqT.of (s59 _ _ hba),rfl,_,_,rfl,rfl,(by rw [sizeLine_eq]; omega),_,_,rfl,rfl,(by show (" "++bl.name).length+(" ":Str).length≤sizeLine; rw [sizeLine_eq]; omega),_,rfl,.inr (.inr ⟨_,rfl,hU (by omega),_,_,rfl,rfl,(by show (" "++bl.name++" ").length+(aK (pl:Int)).length≤sizeLine; rw [sizeLine_eq]; omega),_,_,rfl,rfl,(by show (" "++bl.name++" "++aK (pl:Int)).length+(" ":Str).length≤sizeLine; rw [sizeLine_eq]; omega),_,rfl,.inr (.inr ⟨_,rfl,hU (by omega),_,_,rfl,rfl,(by show (" "++bl.name++" "++aK (pl:Int)++" ").length+(aK (m:Int)).length≤sizeLine; rw [sizeLine_eq]; omega),?_⟩)⟩)⟩
 have rz:(" "++bl.name++" "++aK (pl:Int)++" "++aK (m:Int)).length≤40:=by omega
 have r6:=aT "slow both" (" "++bl.name++" "++aK (pl:Int)++" "++aK (m:Int))
 have r7:=aT "slow a" (" "++bl.name++" "++aK (pl:Int)++" "++aK (m:Int))
 have r6':("slow both":Str).length=9:=by decide +kernel
 have r7':("slow a":Str).length=6:=by decide +kernel
 obtain ⟨⟨dx5,hD5⟩,hd5⟩:=id dk5
 refine ⟨_,rfl,C,D,dx5,_,rfl,s59 _ _ hD5,O.cl,O.say,rfl,_,rfl,_,_,rfl,rfl,(by show ("slow both":Str).length+(" "++bl.name++" "++aK (pl:Int)++" "++aK (m:Int)).length≤sizeLine; rw [sizeLine_eq]; omega),D,d,kv,_,rfl,dk5.same s59,by omega,(by show (("slow both":Str)++(" "++bl.name++" "++aK (pl:Int)++" "++aK (m:Int))).length≤3000; omega),.inr (.inr (.inr (.inl ⟨"both",vj,cf c1 c2,at_,pl,m,bl,ll,vg,c5,hvj,hcj.mono (Same.tup s59),gJ,xU S,by omega,by omega,fun HB vB bB hdB hcB=>?_⟩)))⟩
 refine ⟨rfl,_,rfl,ifE rfl ?_⟩
 rw [qP (List.getElem?_eq_some_iff.mp S.hb).1] at hcB
 have hd9:=s59 _ _ hd5
 have t9B:=gW bB hd9
 have b0B:But d H HB:=(b05.trans (Same.but s59)).trans bB
 have kaB:Keeps HB (putK kv (Sum.inr ("both":Str)) vB) "a" c1:=Keeps.put t9B wK ⟨va,hva,hca.mono (Same.tup s59)⟩
 have kbB:Keeps HB (putK kv (Sum.inr ("both":Str)) vB) "b" c2:=Keeps.put t9B wI ⟨vb,hvb,hcb.mono (Same.tup s59)⟩
 have kjB:Keeps HB (putK kv (Sum.inr ("both":Str)) vB) "both" (cf (bz c1 at_ pl m bl ll) c2):=Keeps.new hcB
 have klB:=cG kv (Sum.inr ("both":Str)) vB
 have dkB:=(dk5.same s59).but bB hdB
 have hc1B:=(hc15.mono (Same.tup s59)).mono t9B
 have hc2B:=(hc25.mono (Same.tup s59)).mono t9B
 have tb1:=tb1.but bB hd9
 have tb2:=tb2.but bB hd9
 generalize putK kv (Sum.inr ("both":Str)) vB=kvB at hdB kaB kbB kjB klB dkB
 clear hva hca hvb hcb hvj hcj hcB bB b05 s57 s58 s59 s6 s7 s8 s9 dk5 hD5 hd5 hd9 t9B hc15 hc25 ha1 pr1 hba p10 p20
 obtain ⟨va,hva,hca⟩:=kaB
 obtain ⟨vb,hvb,hcb⟩:=kbB
 obtain ⟨vj,hvj,hcj⟩:=kjB
 refine ⟨_,rfl,_,rfl,D,d,kvB,"both",ch2,vj,c2,_,_,rfl,dkB,by omega,c5,hvj,hcj,gJ',hc2B,g2,mX rfl,fun H10 p5 t5 s10 p50 tb5 tl5 tu5=>?_⟩
 have e5:t5=t2:=dQ f2.slow (by omega) (m6 tu5) tu2
 rw [e5] at tb5
 have n52:=tb2.ne p50
 refine ⟨_,rfl,2,true,p5,p2,rfl,rfl,n52,by decide,gu tb5 (tb2.same s10) n52,_,rfl,oN rfl ?_⟩
 have tb1:=tb1.same s10
 have tb2:=tb2.same s10
 refine ⟨_,rfl,_,rfl,D,d,kvB,"both",.ref a1,vj,c1,_,0,rfl,dkB.same s10,by omega,c5,hvj,hcj.mono (Same.tup s10),gJ',hc1B.mono (Same.tup s10),g1,jD n1'.symm,fun H11 p6 t6 s11 p60 tb6 tl6 tu6=>?_⟩
 have tu6':=jG (jQ g1') (by omega) tu6
 have sB11:=s10.trans s11
 have tb1:=tb1.same s11
 have tb2:=tb2.same s11
 refine ⟨_,rfl,_,rfl,_,rfl,p1,p6,t1,t6,m,rfl,tb1,tb6,Bb S sm f1.slow hm tl1 tl6 tu1 tu6',by omega,fun H12 s12=>⟨_,rfl,oN rfl ?_⟩⟩
 have sB12:=sB11.trans s12
 have tb1:=tb1.same s12
 have tb2:=tb2.same s12
 have tb6:=tb6.same s12
 refine ⟨_,rfl,_,rfl,D,d,kvB,"a",.ref a1,va,c1,c1,0,rfl,dkB.same sB12,by omega,iO,hva,hca.mono (Same.tup sB12),g1,hc1B.mono (Same.tup sB12),g1,fT c1,fun H13 p7 t7 s13 p70 tb7 tl7 tu7=>?_⟩
 have e7:t7=t1:=dQ f1.slow (by omega) tu7 tu1
 rw [e7] at tb7
 have n71:=tb1.ne p70
 refine ⟨_,rfl,2,true,p7,p1,rfl,rfl,n71,by decide,gu tb7 (tb1.same s13) n71,_,rfl,oN rfl ?_⟩
 have sB13:=sB12.trans s13
 have tb2:=tb2.same s13
 have tb6:=tb6.same s13
 obtain ⟨⟨dxB,hDB⟩,hdB'⟩:=id dkB
 refine ⟨_,rfl,C,D,dxB,_,rfl,sB13 _ _ hDB,O.cl,O.say,rfl,_,rfl,_,_,rfl,rfl,(by show ("slow a":Str).length+(" "++bl.name++" "++aK (pl:Int)++" "++aK (m:Int)).length≤sizeLine; rw [sizeLine_eq]; omega),D,d,kvB,_,rfl,dkB.same sB13,by omega,(by show (("slow a":Str)++(" "++bl.name++" "++aK (pl:Int)++" "++aK (m:Int))).length≤3000; omega),.inr (.inr (.inr (.inl ⟨"a",va,c1,at_,pl,m,bl,ll,Bd,iO,hva,hca.mono (Same.tup sB13),g1,S,by omega,by omega,fun HC vC bC hdC hcC=>?_⟩)))⟩
 refine ⟨rfl,_,rfl,ifE rfl ?_⟩
 have hd13:=sB13 _ _ hdB'
 have tBC:=gW bC hd13
 have b0C:But d H HC:=(b0B.trans (Same.but sB13)).trans bC
 have kaC:Keeps HC (putK kvB (Sum.inr ("a":Str)) vC) "a" (bz c1 at_ pl m bl ll):=Keeps.new hcC
 have kbC:Keeps HC (putK kvB (Sum.inr ("a":Str)) vC) "b" c2:=Keeps.put tBC CN ⟨vb,hvb,hcb.mono (Same.tup sB13)⟩
 have kjC:Keeps HC (putK kvB (Sum.inr ("a":Str)) vC) "both" (cf (bz c1 at_ pl m bl ll) c2):=Keeps.put tBC CB ⟨vj,hvj,hcj.mono (Same.tup sB13)⟩
 have klC:=cG kvB (Sum.inr ("a":Str)) vC
 have dkC:=(dkB.same sB13).but bC hdC
 have hc1C:=(hc1B.mono (Same.tup sB13)).mono tBC
 have hc2C:=(hc2B.mono (Same.tup sB13)).mono tBC
 have tb2:=tb2.but bC hd13
 have tb6:=tb6.but bC hd13
 generalize putK kvB (Sum.inr ("a":Str)) vC=kvC at hdC kaC kbC kjC klC dkC
 clear hva hca hvb hcb hvj hcj hcC bC b0B sB11 sB12 sB13 s10 s11 s12 s13 dkB hDB hdB hdB' hd13 tBC hc1B hc2B tb1 tb5 tb7 p50 p60 p70
 obtain ⟨va,hva,hca⟩:=kaC
 obtain ⟨vb,hvb,hcb⟩:=kbC
 obtain ⟨vj,hvj,hcj⟩:=kjC
 refine ⟨_,rfl,_,rfl,D,d,kvC,"a",.ref a1,va,c1,_,0,rfl,dkC,by omega,iO,hva,hca,g1',hc1C,g1,kG S,fun H14 p8 t8 s14 p80 tb8 tl8 tu8=>?_⟩
 have e8:t8=t6:=dQ f1'.slow (by omega) tu8 tu6'
 rw [e8] at tb8
 have n86:=tb6.ne p80
 refine ⟨_,rfl,2,true,p8,p6,rfl,rfl,n86,by decide,gu tb8 (tb6.same s14) n86,_,rfl,oN rfl ?_⟩
 have tb2:=tb2.same s14
 have tb6:=tb6.same s14
 refine ⟨_,rfl,_,rfl,D,d,kvC,"both",.ref a1,vj,c1,_,0,rfl,dkC.same s14,by omega,c5,hvj,hcj.mono (Same.tup s14),gJ',hc1C.mono (Same.tup s14),g1,jD n1'.symm,fun H15 p9 t9 s15 p90 tb9 tl9 tu9=>?_⟩
 have e9:t9=t6:=dQ f1'.slow (by omega) (jG (jQ g1') (by omega) tu9) tu6'
 rw [e9] at tb9
 have n96:=tb6.ne p90
 refine ⟨_,rfl,2,true,p9,p6,rfl,rfl,n96,by decide,gu tb9 (tb6.same s15) n96,_,rfl,oN rfl ?_⟩
 have sC15:=s14.trans s15
 have tb2:=tb2.same s15
 have tb6:=tb6.same s15
 obtain ⟨⟨dxC,hDC⟩,hdC'⟩:=id dkC
 refine ⟨_,rfl,C,D,dxC,_,rfl,sC15 _ _ hDC,O.cl,O.say,rfl,D,d,kvC,_,rfl,dkC.same sC15,by omega,(by decide +kernel),.inr (.inr (.inl ⟨"both",vj,qU,c5,hvj,fun HD bD hdD=>?_⟩))⟩
 refine ⟨rfl,_,rfl,ifE rfl ?_⟩
 have hd15:=sC15 _ _ hdC'
 have tCD:=gW bD hd15
 have b0D:But d H HD:=(b0C.trans (Same.but sC15)).trans bD
 have kaD:Keeps HD (dU kvC (Sum.inr ("both":Str))) "a" (bz c1 at_ pl m bl ll):=Keeps.drop tCD wK ⟨va,hva,hca.mono (Same.tup sC15)⟩
 have kbD:Keeps HD (dU kvC (Sum.inr ("both":Str))) "b" c2:=Keeps.drop tCD wI ⟨vb,hvb,hcb.mono (Same.tup sC15)⟩
 have klD:=length_drop kvC (Sum.inr ("both":Str))
 have dkD:=(dkC.same sC15).but bD hdD
 have hc1D:=(hc1C.mono (Same.tup sC15)).mono tCD
 have hc2D:=(hc2C.mono (Same.tup sC15)).mono tCD
 have tb2:=tb2.but bD hd15
 have tb6:=tb6.but bD hd15
 generalize dU kvC (Sum.inr ("both":Str))=kvD at hdD kaD kbD klD dkD
 obtain ⟨va',hva',hca'⟩:=kaD
 obtain ⟨vb',hvb',hcb'⟩:=kbD
 refine ⟨_,rfl,_,rfl,D,d,kvD,"a",.ref a1,va',c1,_,0,rfl,dkD,by omega,iO,hva',hca',g1',hc1D,g1,kG S,fun H16 pA tA s16 pA0 tbA tlA tuA=>?_⟩
 have eA:tA=t6:=dQ f1'.slow (by omega) tuA tu6'
 rw [eA] at tbA
 have nA6:=tb6.ne pA0
 refine ⟨_,rfl,2,true,pA,p6,rfl,rfl,nA6,by decide,gu tbA (tb6.same s16) nA6,_,rfl,DH rfl ?_⟩
 have tb2:=tb2.same s16
 refine ⟨_,rfl,_,rfl,D,d,kvD,"b",ch2,vb',c2,c2,0,rfl,dkD.same s16,by omega,nU,hvb',hcb'.mono (Same.tup s16),g2,hc2D.mono (Same.tup s16),g2,fT c2,fun H17 pB tB s17 pB0 tbB tlB tuB=>?_⟩
 have eB:tB=t2:=dQ f2.slow (by omega) tuB tu2
 rw [eB] at tbB
 have nB2:=tb2.ne pB0
 refine ⟨_,rfl,2,true,pB,p2,rfl,rfl,nB2,by decide,gu tbB (tb2.same s17) nB2,?_⟩
 have sD17:=s16.trans s17
 exact q H17 kvD (b0D.trans (Same.but sD17)) (sD17 _ _ hdD) (by omega)
end
end K83.S
namespace K83.S
open PySem L2
theorem wN:∀ h:Nat,h<64→2≤h→Builtin.Range.small 1 (h:Int) 18=true:=by decide +kernel
theorem yV:∀ h:Nat,h<64→2≤h→Builtin.Range.rangeSize 1 (h:Int) 18=(((h - 2) / 18+1:Nat):Int):=by decide +kernel
theorem Cr:("y":Str).cps.toList=[121]:=by decide +kernel
theorem CG:("z":Str).cps.toList=[122]:=by decide +kernel
theorem D4:∀ sz,sz<5→∀ i,i<3→a9 (nmS 121 sz i)=true∧¬ (nmS 121 sz i∈d7):=by decide +kernel
theorem DD:∀ sz,sz<5→∀ i,i<3→a9 (nmS 122 sz i)=true∧¬ (nmS 122 sz i∈d7):=by decide +kernel
theorem AA {L:Nat} (hL:L<123) (hL':121≤L) {sz:Nat} (h5:sz<5) {i:Nat} (h3:i<3):a9 (nmS L sz i)=true∧¬ (nmS L sz i∈d7):=by
 by_cases e:L=121
 ·subst e
  exact D4 sz h5 i h3
 ·have e2:L=122:=by omega
  subst e2
  exact DD sz h5 i h3
theorem Ci:∀ sz,sz<5→∀ i,i<3→∀ sz',sz'<5→∀ j,j<3→nmS 121 sz i≠nmS 122 sz' j:=by decide +kernel
theorem A9 {L sz i j:Nat} (h:nmS L sz i=nmS L sz j):i=j:=by
 have e:List.replicate (sz+1) L++[97+i]=List.replicate (sz+1) L++[97+j]:=congrArg (fun z:Str=>z.cps.toList) h
 have e2:=(List.cons.inj (List.append_cancel_left e)).1
 omega
theorem kE {c:List Bell} {L sz:Nat} (hL:L<123) (hL':121≤L) (c1:1≤c.length) (c3:c.length≤3) (s5:sz<5) (sb:∀ b∈c,SmB c.length b) (nm:∀ (i:Nat) b,c[i]?=some b→b.name=nmS L sz i):GoodC c:=by
 have key:∀ b∈c,∃ i,i<3∧b.name=nmS L sz i:=fun b hb=>by
  obtain ⟨i,hi⟩:=List.getElem?_of_mem hb
  have:=(List.getElem?_eq_some_iff.mp hi).1
  exact ⟨i,by omega,nm i b hi⟩
 refine ⟨c1,by omega,fun b hb=>(sb b hb).g,fun b hb=>?_,fun b hb=>?_,?_⟩
 ·obtain ⟨i,h3,e⟩:=key b hb
  rw [e]
  exact (AA hL hL' s5 h3).1
 ·obtain ⟨i,h3,e⟩:=key b hb
  rw [e]
  exact (AA hL hL' s5 h3).2
 ·refine List.pairwise_iff_getElem.mpr fun i j hi hj hij e=>?_
  rw [List.length_map] at hi hj
  rw [List.getElem_map,List.getElem_map,nm i _ (List.getElem?_eq_getElem hi),nm j _ (List.getElem?_eq_getElem hj)] at e
  have:=A9 e
  omega
theorem vW {c:List Bell} (c3:c.length≤3) (sb:∀ b∈c,SmB c.length b):SmC c:=⟨c3,fun b hb=>⟨(sb b hb).g.s0,(sb b hb).s9⟩,fun b hb l hl=>⟨((sb b hb).g.l l hl).2.1,(sb b hb).l9 l hl⟩⟩
theorem vR {c c':List Bell} {sz sz':Nat} (c3:c.length≤3) (c3':c'.length≤3) (s5:sz<5) (s5':sz'<5) (nm:∀ (i:Nat) b,c[i]?=some b→b.name=nmS 121 sz i) (nm':∀ (i:Nat) b,c'[i]?=some b→b.name=nmS 122 sz' i):∀ z∈c'.map (·.name),z∉c.map (·.name):=fun z hz hz'=>by
 obtain ⟨b',hb',rfl⟩:=List.mem_map.mp hz
 obtain ⟨b,hb,e⟩:=List.mem_map.mp hz'
 obtain ⟨j,hj⟩:=List.getElem?_of_mem hb'
 obtain ⟨i,hi⟩:=List.getElem?_of_mem hb
 have h1:=(List.getElem?_eq_some_iff.mp hj).1
 have h2:=(List.getElem?_eq_some_iff.mp hi).1
 rw [nm i b hi,nm' j b' hj] at e
 exact Ci sz s5 i (by omega) sz' s5' j (by omega) e
section
variable {P:Program} {w:World} {K:PySem.W.Frag} {mg:Str→Option Value} {base:Heap} {f:Addr} {fd:FuncData}
def rM (K:PySem.W.Frag):Sp:=fun vs H Q _=>∃ (a:Addr) (ns:List Int),vs=[.ref a]∧SqL K H a (ns.map V.int)∧ns.length≤63∧∀ H',Q (.bl true) H'
theorem gR:FnScope ["_law_script","_law_desk","_law_k","_law_one","_law_other","_law_pack_here","_law_at","_law_place"] ["_law_script"] (aq xb):=⟨rfl,rfl,rfl,by decide +kernel,rfl,by decide +kernel,by decide +kernel⟩
theorem AL {C fi fs ft fk fc fp fl fj:Addr} {di:FuncData} (F:Fun K "law" "law" xb f fd) (B:Blt mg) (O:DeskC K C fi fs ft fk fc fp fl fj) (mD:mg "Desk"=some (.ref C)) (GI:FnOk P w K mg base CX0 1 fi di ["self"] (lT K)) (bI:Binds K di ["self"] []) (C_small:Cal P w K mg base 3 "_law_small" ["_law_script","_law_k","_law_letter"] (mi K)) (C_pack:Cal P w K mg base 1 "_law_pack" ["_law_script","_law_k"] (kx K)) (C_take:Cal P w K mg base 1 "_law_take" ["_law_pack_here","_law_many"] i7)
  (C_right:Cal P w K mg base 13 "_law_right" ["_law_desk","_law_one","_law_other","_law_at","_law_place","_law_more"] (lA C)):FnOk P w K mg base CX0 14 f fd ["_law_script"] (rM K):=by
 refine F.ok gR (fun vs H Q E h=>?_) (fun cdv A outer s H vs Q E hr h=>?_)
 ·obtain ⟨a,ns,rfl,_⟩:=h
  rfl
 obtain ⟨a,ns,rfl,hS,h63,q⟩:=h
 have hr2:Room 2 _:=hr.mono (by decide)
 refine ⟨_,(af (aJ (i:=1) gR.nd rfl (Or.inl rfl) (mq O.mks GI hr2 rfl mD bI .nil bN))
  (af (cL PassesOwn.never rfl (uN rfl B.range_ (aa aj (aa (ay (uu rfl) rfl B.max_ PyProof.Rows.boot_max (aa aj (aa (ay (vp rfl) rfl B.min_ PyProof.Rows.boot_min (aa (ay aM rfl B.len_ PySem.boot_len (aa (pv 0) ae)) (aa aj ae))) ae))) (aa aj ae)))) (aI (i:=2) gR.nd rfl (Or.inl rfl))
  (af (aJ (i:=3) gR.nd rfl (Or.inl rfl) (az C_small hr (by decide) rfl (aa (pv 0) (aa (pv 2) (aa aB ae)))))
  (af (aJ (i:=4) gR.nd rfl (Or.inl rfl) (az C_small hr (by decide) rfl (aa (pv 0) (aa (aV cm (pv 2) aj) (aa aB ae)))))
  (af (aJ (i:=5) gR.nd rfl (Or.inl rfl) (az C_pack hr (by decide) rfl (aa (pv 0) (aa (aV cm (pv 2) aj) ae))))
  (af (aJ (i:=6) gR.nd rfl (Or.inl rfl) (az C_take hr (by decide) rfl (aa (pv 5) (aa (ay aM rfl B.len_ PySem.boot_len (aa (pv 3) ae)) ae))))
  (af (aJ (i:=7) gR.nd rfl (Or.inl rfl) (az C_take hr (by decide) rfl (aa (pv 5) (aa (ay aM rfl B.len_ PySem.boot_len (aa (ar aP (ar aP (pv 3) (pv 6) (fun _ _=>rfl)) aj (fun _ _=>rfl)) ae)) ae))))
  (ak (aU (bw (bG (az C_right hr (by decide) rfl (aa (pv 1) (aa (pv 3) (aa (pv 4) (aa (pv 6) (aa (pv 7) (aa (az C_take hr (by decide) rfl (aa (pv 5) (aa aj ae))) ae)))))))))
  aH
  aw))))))))
  (ak (av eQ)))),?_⟩
 refine fun D dx nD ndx ne=>⟨D,C,dx,rfl,ah,O.cl,O.nS,fun d hd=>⟨rfl,?_⟩⟩
 have dD:d≠D:=fun e=>by rw [e,ah] at hd; cases hd
 have hd0:H d=none:=by
  rw [au dD] at hd
  by_cases e:d=dx
  ·rw [e,ah] at hd; cases hd
  ·rw [au e] at hd; exact hd
 have dk0:DeskAt C (upd (upd (upd (upd H dx (.own D)) D (.ins C dx [])) d (.dK [])) D (.ins C dx [("stands",.ref d)])) D d []:=⟨⟨dx,ah⟩,by rw [au dD]; exact ah⟩
 have sH:Same H (upd (upd (upd (upd H dx (.own D)) D (.ins C dx [])) d (.dK [])) D (.ins C dx [("stands",.ref d)])):=fun b o e=>by
  rw [au (aG e nD),au (aG e hd0),au (aG e nD),au (aG e ndx)]
  exact e
 generalize upd (upd (upd (upd H dx (.own D)) D (.ins C dx [])) d (.dK [])) D (.ins C dx [("stands",.ref d)])=HD at dk0 sH ⊢
 refine ⟨_,rfl,a,_,rfl,.inl (sH.seq hS),_,_,rfl,_,_,rfl,?_⟩
 obtain ⟨hi,ehi,hi2,hi63⟩:∃ hi:Nat,(if (if (63:Int)<(((ns.map V.int).length:Nat):Int) then (63:Int) else (((ns.map V.int).length:Nat):Int)) > 2 then (if (63:Int)<(((ns.map V.int).length:Nat):Int) then (63:Int) else (((ns.map V.int).length:Nat):Int)) else 2)=(hi:Int)∧2≤hi∧hi<64:=by
  refine ⟨((if (if (63:Int)<(((ns.map V.int).length:Nat):Int) then (63:Int) else (((ns.map V.int).length:Nat):Int)) > 2 then (if (63:Int)<(((ns.map V.int).length:Nat):Int) then (63:Int) else (((ns.map V.int).length:Nat):Int)) else 2)).toNat,?_,?_,?_⟩ <;> (split <;> (try split) <;> omega)
 rw [ehi]
 refine ⟨1,(hi:Int),18,(hi - 2) / 18+1,rfl,by decide,by decide,wN hi hi63 hi2,yV hi hi63 hi2,?_⟩
 clear ehi
 refine qL (lo:=1) (c:=18) (n:=(hi - 2) / 18+1) (fun i σ H1=>∃ (o2 o3 o4 o5 o6 o7:Option V) (kvs:List (Key×V)),σ=[some (.ref a),some (.ref D),o2,o3,o4,o5,o6,o7]∧Same H H1∧DeskAt C H1 D d kvs∧kvs.length≤5 * i)
  ⟨none,none,none,none,none,none,[],rfl,sH,dk0,Nat.zero_le _⟩ ?_ ?_
 ·rintro i σ H0 hi' ⟨o2,o3,o4,o5,o6,o7,kvs,rfl,s0,dk,kl⟩
  have hi5:i≤5:=by omega
  have ek:(1:Int)+(i:Int) * 18=((1+i * 18:Nat):Int):=by omega
  rw [ek]
  have hk:1+i * 18≤100:=by omega
  generalize 1+i * 18=k at hk
  refine ⟨_,rfl,_,rfl,a,ns,k,"y",121,rfl,Cr,s0.seq hS,by omega,fun H1 v1 c1 sz1 s1 h1 c11 c13 sz15 sb1 nm1=>?_⟩
  have g1:=kE (by decide) (by decide) c11 c13 sz15 sb1 nm1
  have s01:=s0.trans s1
  refine ⟨_,rfl,_,rfl,_,_,rfl,rfl,a,ns,k+4,"z",122,(by show [V.ref a,V.int ((k:Int)+4),V.str "z"]=[V.ref a,V.int ((k+4:Nat):Int),V.str "z"]; rw [Int.natCast_add]; rfl),CG,s01.seq hS,by omega,fun H2 v2 c2 sz2 s2 h2 c21 c23 sz25 sb2 nm2=>?_⟩
  have g2:=kE (by decide) (by decide) c21 c23 sz25 sb2 nm2
  have s02:=s01.trans s2
  refine ⟨_,rfl,_,rfl,_,_,rfl,rfl,a,ns,k+8,(by show [V.ref a,V.int ((k:Int)+8)]=[V.ref a,V.int ((k+8:Nat):Int)]; rw [Int.natCast_add]; rfl),s02.seq hS,by omega,fun H3 p s3 p0 pk3=>?_⟩
  obtain ⟨a1,bs1,rfl,ha1,pr1⟩:=id h1
  have e1:=aE pr1
  have s13:=s2.trans s3
  refine ⟨_,rfl,_,rfl,a1,_,rfl,.inr (SqT.of (s13 _ _ ha1)),p,k+8,_,rfl,pk3,by omega,by omega,by omega,fun at_ H4 hat b4 pk4=>?_⟩
  have s24:Same H2 H4:=b4.same s3 p0
  have s14:=s2.trans s24
  obtain ⟨bl,hbl⟩:∃ bl,c1[at_]?=some bl:=⟨_,List.getElem?_eq_getElem (show at_<c1.length by omega)⟩
  obtain ⟨bv,ebv,ba,tt,ls,rfl,hba,htt,prl⟩:=dE pr1 hbl
  have hll:=aE prl
  have sbl:=sb1 bl (List.mem_of_getElem? hbl)
  have b1l:=sbl.g.n1
  have b6l:=sbl.g.n6
  refine ⟨_,rfl,_,rfl,_,rfl,a1,_,_,_,rfl,rfl,SqT.of (s14 _ _ ha1),bj ebv,ba,_,_,_,rfl,rfl,SqT.of (s14 _ _ hba),rfl,tt,_,rfl,.inr (SqT.of (s14 _ _ htt)),p,k+8,_,rfl,pk4,by omega,by omega,by omega,fun pl H5 hpl b5 pk5=>?_⟩
  refine ⟨_,rfl,_,rfl,_,rfl,_,rfl,_,rfl,_,rfl,p,k+8,_,rfl,pk5,by omega,by decide,by decide,fun m H6 hm b6 pk6=>?_⟩
  have s26:Same H2 H6:=(b4.trans (b5.trans b6)).same s3 p0
  have s16:=s2.trans s26
  have s06:=s1.trans s16
  obtain ⟨ll,hll2⟩:∃ ll,bl.lis[pl]?=some ll:=⟨_,List.getElem?_eq_getElem (show pl<bl.lis.length by omega)⟩
  have lb:=sbl.l9 ll (List.mem_of_getElem? hll2)
  refine ⟨D,d,kvs,.ref a1,v2,c1,c2,at_,pl,m,bl,ll,rfl,dk.same s06,by omega,h1.mono (Same.tup s16),h2.mono (Same.tup s26),g1,g2,vW c13 sb1,c23,vR c13 c23 sz15 sz25 nm1 nm2,⟨hbl,hll2,by omega,by omega⟩,by omega,by omega,fun H7 kvs' b7 hd7 kl7=>?_⟩
  refine ⟨_,rfl,bh ⟨_,_,_,_,_,_,kvs',rfl,?_,(dk.same s06).but b7 hd7,by omega⟩⟩
  exact b7.same (s0.trans s06) hd0
 ·rintro σ H1 ⟨o2,o3,o4,o5,o6,o7,kvs,rfl,_⟩
  exact q H1
end
end K83.S
namespace K83.S
open PySem L2
theorem rO {K:PySem.W.Frag} {C fi ff:Addr} (i:PySem.W.findIn K (.ref C) "__init__"=some (some (.ref fi))) (fl:PySem.W.findIn K (.ref C) "falls"=some (some (.ref ff))) (pg:PySem.W.plainGet K C Str.empty=true) (hd:PySem.W.hasDictIn K C=true) (po:PySem.W.plainOver K C=true)
  (sa:PySem.W.findIn K (.ref C) "__setattr__"=some (some (.builtin "object.__setattr__"))) (n:PySem.W.findIn K (.ref C) "need"=some none) (mk:PySem.W.makesIn K C=true) (fn:PySem.W.isFn K (.ref fi)=true) (kc:PySem.W.keepIn K (.ref C)=true)
  (ffn:PySem.W.isFn K (.ref ff)=true) (fk:PySem.W.keepIn K (.ref ff)=true):Own K C fi ff:=⟨⟨pg,hd,po,sa⟩,n,⟨mk,i,fn,kc⟩,⟨fl,ffn,fk⟩⟩
theorem xO {K:PySem.W.Frag} {C g:Addr} {m:Str} (a:PySem.W.findCls K (.ref C) (.type "type") m=some (.val (.ref g))) (rd:PySem.W.readsIn K C (.type "type")=true)
  (sp:PySem.W.specialIn K (.ref C) "__getattribute__"=some (some (.builtin "type.__getattribute__"))) (kp:PySem.W.keepIn K (.ref g)=true):ClsFn K C m g:=⟨rd,a,sp,kp⟩
theorem yJ {K:PySem.W.Frag} {C:Addr} (h:PySem.W.excIn K C [.type "ValueError",.type "Exception",.type "BaseException",.type "object"] "ValueError.__new__"=true):qw K C:=h
def Av (K:PySem.W.Frag) (a:Addr) (zs:List Str):Bool:=match K.lookup a with
 | some ⟨.type "tuple",_,.seq its _,_⟩=>decide (its.size≤sizeLine) && decide (its.toList.map xD=zs.map fun z=>some (V.str z))
 | _=>false
theorem Ad {z:Str} {u:Value} (h:xD u=some (V.str z)):RelV (.str z) u:=by
 cases u with
 | str x t =>
  have e:x=z:=V.str.inj (Option.some.inj h)
  subst e
  exact ⟨t,rfl⟩
 | _=>first | cases h | (unfold xD at h; cases h)
theorem pU:∀ {zs:List Str} {us:List Value},us.map xD=zs.map (fun z=>some (V.str z))→Vals (zs.map V.str) us
 | [],[],_=>.nil
 | [],_::_,h=>by cases h
 | _::_,[],h=>by cases h
 | z::zs,u::us,h=>.cons (Ad (List.cons.inj h).1) (pU (List.cons.inj h).2)
theorem BR {K:PySem.W.Frag} {a:Addr} {zs:List Str} (h:Av K a zs=true):∀ H,SqT K H a (zs.map V.str):=fun H=>by
 unfold Av at h
 split at h
 ·rename_i dd its n sl ho
  rw [Bool.and_eq_true] at h
  exact .inr ⟨_,its,n,ho,rfl,rfl,of_decide_eq_true h.1,pU (of_decide_eq_true h.2)⟩
 ·cases h
theorem oz {K:PySem.W.Frag} {C fw:Addr} (w1:PySem.W.findIn K (.ref C) "wants"=some (some (.ref fw))) (w2:PySem.W.isFn K (.ref fw)=true) (w3:PySem.W.keepIn K (.ref fw)=true):Meth K C "wants" fw:=⟨w1,w2,w3⟩
theorem DX {us:List Value} (h:us.length=6):∃ a b c d e f,us=[a,b,c,d,e,f]:=by
 match us,h with
 | [a,b,c,d,e,f],_=>exact ⟨a,b,c,d,e,f,rfl⟩
theorem qu {K:PySem.W.Frag} {x y:Str} {st:Stmt} {f:Addr} {oc:Value} {od an:Option Addr} {osl:Array (Option Value)} {kV doc pm cdv ct:Value} (a:PySem.W.nsIn K mainGlobals y=some (some (.ref f))) (l:K.lookup f=some ⟨oc,od,.func (PySem.W.fnOf x x (dH st) (cP st) (aq st) .none kV doc pm an cdv ct),osl⟩)
  (c:PySem.W.codeIn K cdv x=true) (k:PySem.W.keepIn K (.ref f)=true):∃ f fd,Fun K x x st f fd∧PySem.W.nsIn K mainGlobals y=some (some (.ref f)):=⟨f,_,rG (st:=st) l c k,a⟩
theorem xZ {P:Program} {w:World} {K:PySem.W.Frag} {a:Addr} {o:Obj} {es:Array DictEntry} {ep:Nat} (l:K.lookup a=some o) (c:o=⟨.type "dict",none,.dict es ep,#[]⟩) (m:es.toList.map (fun e=>(e.hash,strOf? e.key,strOf? e.val))=qO.map fun z=>(PyData.keyHash w.params z.1,some z.1,some z.2)) (hs:(a == sysModules)=false):qQ P w K a jC:=zi qO l c m (by decide +kernel) hs
theorem zm {K:PySem.W.Frag} {C fi fs ft fk fc fp fl fj:Addr} (i:PySem.W.findIn K (.ref C) "__init__"=some (some (.ref fi))) (afs:PySem.W.findIn K (.ref C) "say"=some (some (.ref fs))) (aft:PySem.W.findIn K (.ref C) "standing"=some (some (.ref ft))) (afk:PySem.W.findIn K (.ref C) "keep"=some (some (.ref fk))) (afc:PySem.W.findIn K (.ref C) "say_choir"=some (some (.ref fc))) (afp:PySem.W.findIn K (.ref C) "say_drop"=some (some (.ref fp))) (afl:PySem.W.findIn K (.ref C) "say_slow"=some (some (.ref fl))) (afj:PySem.W.findIn K (.ref C) "say_join"=some (some (.ref fj))) (pg:PySem.W.plainGet K C Str.empty=true) (hd:PySem.W.hasDictIn K C=true) (po:PySem.W.plainOver K C=true) (sa:PySem.W.findIn K (.ref C) "__setattr__"=some (some (.builtin "object.__setattr__"))) (n:PySem.W.findIn K (.ref C) "stands"=some none) (mk:PySem.W.makesIn K C=true) (fn:PySem.W.isFn K (.ref fi)=true) (kc:PySem.W.keepIn K (.ref C)=true) (bfs:PySem.W.isFn K (.ref fs)=true) (cfs:PySem.W.keepIn K (.ref fs)=true) (bft:PySem.W.isFn K (.ref ft)=true) (cft:PySem.W.keepIn K (.ref ft)=true) (bfk:PySem.W.isFn K (.ref fk)=true) (cfk:PySem.W.keepIn K (.ref fk)=true) (bfc:PySem.W.isFn K (.ref fc)=true) (cfc:PySem.W.keepIn K (.ref fc)=true) (bfp:PySem.W.isFn K (.ref fp)=true) (cfp:PySem.W.keepIn K (.ref fp)=true) (bfl:PySem.W.isFn K (.ref fl)=true) (cfl:PySem.W.keepIn K (.ref fl)=true) (bfj:PySem.W.isFn K (.ref fj)=true) (cfj:PySem.W.keepIn K (.ref fj)=true):DeskC K C fi fs ft fk fc fp fl fj:=⟨⟨pg,hd,po,sa⟩,n,⟨mk,i,fn,kc⟩,⟨afs,bfs,cfs⟩,⟨aft,bft,cft⟩,⟨afk,bfk,cfk⟩,⟨afc,bfc,cfc⟩,⟨afp,bfp,cfp⟩,⟨afl,bfl,cfl⟩,⟨afj,bfj,cfj⟩⟩
theorem all {P:Program} {w:World} {K:PySem.W.Frag} {h:Heap} {mg:Str→Option Value} {fa c0 R A Y S fR fA fY fS fW ff aN C fi fs ft fk fc fp fl fj aF:Addr} {tJ tF:Tok} {t_mI:Tok} {t_mM:Tok} {t_mL:Tok} {t_mS:Tok} {t_mO:Tok} {t_mG:Tok} {t_mFg:Tok} {t_mSt:Tok} (X:K.In h) (G:h.Ns mainGlobals mg) (hfa:mg "law"=some (.ref fa)) (B:Blt mg) (m0:mg "NoRule"=some (.ref c0)) (mI:mg "MOST_LETTERS"=some (.int 8 t_mI)) (mM:mg "MOST_BEATS"=some (.int 1000 t_mM)) (mL:mg "MOST_LISTENINGS"=some (.int 6 t_mL)) (mS:mg "MOST_START"=some (.int 1000 t_mS)) (mO:mg "MOST_BELLS"=some (.int 6 t_mO)) (mG:mg "MOST_FIGURES_choirtexts"=some (.int 9 t_mG)) (mFg:mg "MOST_FIGURES_desk"=some (.int 4 t_mFg)) (mSt:mg "MOST_STROKES"=some (.int 2000 t_mSt))
  (aR:PySem.W.nsIn K mainGlobals "Rule"=some (some (.ref R))) (aA:PySem.W.nsIn K mainGlobals "All"=some (some (.ref A))) (aY:PySem.W.nsIn K mainGlobals "Any"=some (some (.ref Y))) (aS:PySem.W.nsIn K mainGlobals "Some"=some (some (.ref S)))
  (cR:ClsFn K R "__init__" fR) (oA:Own K A fA ff) (oY:Own K Y fY ff) (oS:Own K S fS ff) (eA:Meth K A "wants" fW) (eY:Meth K Y "wants" fW) (eS:Meth K S "wants" fW) (xR:qw K c0) (xm0:PySem.W.exmOne K (.ref c0) (.ref c0)=some true)
  (FR:∃ fd,Fun K "__init__" "Rule.__init__" iV fR fd) (FA:∃ fd,Fun K "__init__" "All.__init__" i8 fA fd) (FY:∃ fd,Fun K "__init__" "Any.__init__" iZ fY fd) (FS:∃ fd,Fun K "__init__" "Some.__init__" iX fS fd) (FW:∃ fd,Fun K "wants" "Rule.wants" kN fW fd) (FF:∃ fd,Fun K "falls" "Rule.falls" nQ ff fd)
  (mJ:mg "LETTERS"=some (.str dP tJ)) (mF:mg "FIGURES"=some (.str dM tF)) (mN:mg "NO_NAMES"=some (.ref aN)) (hN:∀ H,SqT K H aN (d7.map V.str))
  (aD:PySem.W.nsIn K mainGlobals "Desk"=some (some (.ref C))) (O:DeskC K C fi fs ft fk fc fp fl fj) (aFo:PySem.W.nsIn K mainGlobals "FORMS"=some (some (.ref aF))) (kF:qQ P w K aF jC) (F_beyond:∃ f fd,Fun K "refuse_beyond" "refuse_beyond" d4 f fd∧PySem.W.nsIn K mainGlobals "refuse_beyond_desk"=some (some (.ref f))) (F_sbeyond:∃ f fd,Fun K "refuse_beyond" "refuse_beyond" cy f fd∧PySem.W.nsIn K mainGlobals "refuse_beyond_slower"=some (some (.ref f))) (FDI:∃ fd,Fun K "__init__" "Desk.__init__" nI fi fd) (FDT:∃ fd,Fun K "standing" "Desk.standing" gG ft fd) (FDK:∃ fd,Fun K "keep" "Desk.keep" nG fk fd) (FDC:∃ fd,Fun K "say_choir" "Desk.say_choir" f6 fc fd) (FDP:∃ fd,Fun K "say_drop" "Desk.say_drop" gU fp fd) (FDL:∃ fd,Fun K "say_slow" "Desk.say_slow" gS fl fd) (FDJ:∃ fd,Fun K "say_join" "Desk.say_join" gH fj fd) (FDS:∃ fd,Fun K "say" "Desk.say" qS fs fd)
  (F__law_pack:FunAt K "_law_pack" rZ) (F__law_take:FunAt K "_law_take" q0) (F__law_rule:FunAt K "_law_rule" nV) (F__law_small:FunAt K "_law_small" oi) (F_is_whole:FunAt K "is_whole" eE) (F_is_whole_within:FunAt K "is_whole_within" dq) (F_rule_of_text:FunAt K "rule_of_text" lV) (F_rule_of:FunAt K "rule_of" fo) (F_is_word:FunAt K "is_word" jK) (F_is_name:FunAt K "is_name" jw) (F_is_rule:FunAt K "is_rule" jI) (F_is_listening:FunAt K "is_listening" eJ) (F_are_listenings:FunAt K "are_listenings" dv) (F_is_bell:FunAt K "is_bell" jU) (F_is_written_whole:FunAt K "is_written_whole" cU) (F_read_number:FunAt K "read_number" eZ) (F_read_rule:FunAt K "read_rule" gs) (F_read_listening:FunAt K "read_listening" dy) (F_read_bell:FunAt K "read_bell" g6) (F_are_rows:FunAt K "are_rows" iJ) (F_read_choir:FunAt K "read_choir" fX) (F_names_of:FunAt K "names_of" ir) (F_checked:FunAt K "checked" jv) (F_moved:FunAt K "moved" og) (F_tied:FunAt K "tied" rm) (F_refuse_names_of_both:FunAt K "refuse_names_of_both" cx) (F_refuse_strange_ties:FunAt K "refuse_strange_ties" cC) (F_joined:FunAt K "joined" me) (F_rule_of_bell:FunAt K "rule_of_bell" eG) (F_listening_comes:FunAt K "listening_comes" oa) (F_next_found:FunAt K "next_found" ow) (F_strokes_behind:FunAt K "strokes_behind" lR) (F_strokes:FunAt K "strokes" jA) (F_with_other:FunAt K "with_other" gi) (F_made_slower:FunAt K "made_slower" eW) (F_place_of:FunAt K "place_of" iL) (F_form_of:FunAt K "form_of" jP) (F_refuse_wrong_words:FunAt K "refuse_wrong_words" cH) (F_tell_stroke:FunAt K "tell_stroke" eX) (F_tell_of:FunAt K "tell_of" jM) (F__law_rows:FunAt K "_law_rows" nZ) (F__law_strokes:FunAt K "_law_strokes" iH) (F__law_later:FunAt K "_law_later" oE) (F__law_right:FunAt K "_law_right" oy) (F_law:FunAt K "law" xb) :
  ∃ fd:FuncData,(∀ (s:Shared) (u:Value),BindsTo s fd ⟨[u],[]⟩ [("_law_script",u)])∧∀ base:Heap,K.In base→base.Ns mainGlobals mg→FnOk P w K mg base CX0 14 fa fd ["_law_script"] (rM K):=by
 refine F_law.law X G hfa (fun _ _ _ _ _ _ _=>rfl) fun base _ _ f fd F=>?_
 have wA:OwnW K A fW:=⟨oA.cl,oA.nN,eA⟩
 have wY:OwnW K Y fW:=⟨oY.cl,oY.nN,eY⟩
 have wS:OwnW K S fW:=⟨oS.cl,oS.nN,eS⟩
 have pA:K83.Own K A fA:=⟨oA.cl,oA.nN,oA.mks⟩
 have pY:K83.Own K Y fY:=⟨oY.cl,oY.nN,oY.mks⟩
 have pS:K83.Own K S fS:=⟨oS.cl,oS.nN,oS.mks⟩
 have mD:=PySem.W.mg_of X G aD
 obtain ⟨df,FF⟩:=FF
 obtain ⟨dR,FR⟩:=FR; obtain ⟨dA,FA⟩:=FA; obtain ⟨dY,FY⟩:=FY; obtain ⟨dS,FS⟩:=FS; obtain ⟨dW,FW⟩:=FW
 have mR:=PySem.W.mg_of X G aR
 have bR:Binds K dR ["self","need"] []:=FR.binds (ps:=["self","need"]) fun _ _ _ _ _ _ us hl=>by obtain ⟨a,b,rfl⟩:=dm hl; rfl
 have bA:Binds K dA ["self","many"] []:=FA.binds (ps:=["self","many"]) fun _ _ _ _ _ _ us hl=>by obtain ⟨a,b,rfl⟩:=dm hl; rfl
 have bY:Binds K dY ["self"] []:=FY.binds (ps:=["self"]) fun _ _ _ _ _ _ us hl=>by obtain ⟨a,rfl⟩:=gq hl; rfl
 have bS_:Binds K dS ["self","need"] []:=FS.binds (ps:=["self","need"]) fun _ _ _ _ _ _ us hl=>by obtain ⟨a,b,rfl⟩:=dm hl; rfl
 have bW:Binds K dW ["self"] []:=FW.binds (ps:=["self"]) fun _ _ _ _ _ _ us hl=>by obtain ⟨a,rfl⟩:=gq hl; rfl
 have bF:Binds K df ["self","beats"] []:=FF.binds (ps:=["self","beats"]) fun _ _ _ _ _ _ us hl=>by obtain ⟨a,b,rfl⟩:=dm hl; rfl
 have GR:FnOk P w K mg base CX0 1 fR dR ["self","need"] (K83.bu K):=K83.k6 FR
 have GA:FnOk P w K mg base CX0 2 fA dA ["self","many"] (K83.bu K):=K83.kX FA mR cR GR bR
 have GY:FnOk P w K mg base CX0 2 fY dY ["self"] (K83.et K):=K83.kZ FY mR cR GR bR
 have GS_:FnOk P w K mg base CX0 2 fS dS ["self","need"] (K83.bu K):=K83.mj FS mR cR GR bR
 have HR:FnOk P w K mg base CX0 1 fR dR ["self","need"] (K83.S.bu K):=K83.S.k6 FR
 have HA:FnOk P w K mg base CX0 2 fA dA ["self","many"] (K83.S.bu K):=K83.S.kX FA mR cR HR bR
 have HY:FnOk P w K mg base CX0 2 fY dY ["self"] (K83.S.et K):=K83.S.kZ FY mR cR HR bR
 have HS:FnOk P w K mg base CX0 2 fS dS ["self","need"] (K83.S.bu K):=K83.S.mj FS mR cR HR bR
 have GW:FnOk P w K mg base CX0 1 fW dW ["self"] (K83.nu K):=K83.vw FW
 have HF:FnOk P w K mg base CX0 1 ff df ["self","beats"] (K83.S.lP K):=K83.S.xk FF B
 have C__law_pack:Cal P w K mg base 1 "_law_pack" ["_law_script","_law_k"] (K83.kx K):=F__law_pack.cal X G (fun _ _ _ _ _ _ us hl=>by obtain ⟨a,b,rfl⟩:=dm hl; rfl) fun f fd F=>K83.yL F B
 have C__law_take:Cal P w K mg base 1 "_law_take" ["_law_pack_here","_law_many"] K83.i7:=F__law_take.cal X G (fun _ _ _ _ _ _ us hl=>by obtain ⟨a,b,rfl⟩:=dm hl; rfl) fun f fd F=>K83.zE F B
 have C__law_rule:Cal P w K mg base 2 "_law_rule" ["_law_pack_here","_law_sort","_law_many"] K83.mm:=F__law_rule.cal X G (fun _ _ _ _ _ _ us hl=>by obtain ⟨a,b,c,rfl⟩:=iY hl; rfl) fun f fd F=>K83.vN F B C__law_take
 have C__law_small:Cal P w K mg base 3 "_law_small" ["_law_script","_law_k","_law_letter"] (K83.mi K):=F__law_small.cal X G (fun _ _ _ _ _ _ us hl=>by obtain ⟨a,b,c,rfl⟩:=iY hl; rfl) fun f fd F=>K83.wO F B C__law_pack C__law_take C__law_rule
 have C_is_whole:Cal P w K mg base 1 "is_whole" ["thing"] (K83.dJ K):=F_is_whole.cal X G (fun _ _ _ _ _ _ us hl=>by obtain ⟨a,rfl⟩:=gq hl; rfl) fun f fd F=>K83.g7 F B
 have C_is_whole_within:Cal P w K mg base 2 "is_whole_within" ["thing","least","most"] K83.eg:=F_is_whole_within.cal X G (fun _ _ _ _ _ _ us hl=>by obtain ⟨a,b,c,rfl⟩:=iY hl; rfl) fun f fd F=>K83.uB F C_is_whole
 have C_rule_of_text:CalX P w K mg base 4 "rule_of_text" ["text","many"] (K83.fQ A Y c0):=F_rule_of_text.calX X G (fun _ _ _ _ _ _ us hl=>by obtain ⟨a,b,rfl⟩:=dm hl; rfl) fun f fd F=>K83.n5 F (PySem.W.mg_of X G aA) (PySem.W.mg_of X G aY) m0 xR pA pY GA bA GY bY
 have C_rule_of:CalX P w K mg base 5 "rule_of" ["word","many"] (K83.f7 K A Y S c0):=F_rule_of.calX X G (fun _ _ _ _ _ _ us hl=>by obtain ⟨a,b,rfl⟩:=dm hl; rfl) fun f fd F=>K83.iI F B (PySem.W.mg_of X G aS) m0 xR pS GS_ bS_ C_rule_of_text C_is_whole
 have C_is_word:Cal P w K mg base 1 "is_word" ["thing"] K83.ja:=F_is_word.cal X G (fun _ _ _ _ _ _ us hl=>by obtain ⟨a,rfl⟩:=gq hl; rfl) fun f fd F=>K83.za F B mI mJ
 have C_is_name:Cal P w K mg base 2 "is_name" ["thing"] K83.kq:=F_is_name.cal X G (fun _ _ _ _ _ _ us hl=>by obtain ⟨a,rfl⟩:=gq hl; rfl) fun f fd F=>K83.yY F mN hN C_is_word
 have C_is_rule:Cal P w K mg base 6 "is_rule" ["thing","many"] K83.jR:=F_is_rule.cal X G (fun _ _ _ _ _ _ us hl=>by obtain ⟨a,b,rfl⟩:=dm hl; rfl) fun f fd F=>K83.vh F m0 xm0 C_rule_of
 have C_is_listening:Cal P w K mg base 3 "is_listening" ["thing","bells"] K83.kB:=F_is_listening.cal X G (fun _ _ _ _ _ _ us hl=>by obtain ⟨a,b,rfl⟩:=dm hl; rfl) fun f fd F=>K83.xE F B mM C_is_whole_within
 have C_are_listenings:Cal P w K mg base 4 "are_listenings" ["thing","bells"] K83.jT:=F_are_listenings.cal X G (fun _ _ _ _ _ _ us hl=>by obtain ⟨a,b,rfl⟩:=dm hl; rfl) fun f fd F=>K83.uP F B mL C_is_listening
 have C_is_bell:Cal P w K mg base 7 "is_bell" ["thing","ahead","bells"] K83.ic:=F_is_bell.cal X G (fun _ _ _ _ _ _ us hl=>by obtain ⟨a,b,c,rfl⟩:=iY hl; rfl) fun f fd F=>K83.uX F B mS C_is_whole_within C_is_name C_are_listenings C_is_rule
 have C_is_written_whole:Cal P w K mg base 1 "is_written_whole" ["text","most_figures"] K83.km:=F_is_written_whole.cal X G (fun _ _ _ _ _ _ us hl=>by obtain ⟨a,b,rfl⟩:=dm hl; rfl) fun f fd F=>K83.zA F B mF
 have C_read_number:Cal P w K mg base 2 "read_number" ["text"] K83.jf:=F_read_number.cal X G (fun _ _ _ _ _ _ us hl=>by obtain ⟨a,rfl⟩:=gq hl; rfl) fun f fd F=>K83.Af F B mG C_is_written_whole
 have C_read_rule:Cal P w K mg base 3 "read_rule" ["text"] K83.kU:=F_read_rule.cal X G (fun _ _ _ _ _ _ us hl=>by obtain ⟨a,rfl⟩:=gq hl; rfl) fun f fd F=>K83.wU F C_read_number
 have C_read_listening:Cal P w K mg base 3 "read_listening" ["text","names"] K83.nM:=F_read_listening.cal X G (fun _ _ _ _ _ _ us hl=>by obtain ⟨a,b,rfl⟩:=dm hl; rfl) fun f fd F=>K83.zo F C_is_name C_read_number
 have C_read_bell:Cal P w K mg base 4 "read_bell" ["row","names"] K83.k7:=F_read_bell.cal X G (fun _ _ _ _ _ _ us hl=>by obtain ⟨a,b,rfl⟩:=dm hl; rfl) fun f fd F=>K83.vK F B C_read_number C_read_rule C_read_listening
 have C_are_rows:Cal P w K mg base 1 "are_rows" ["thing"] K83.lD:=F_are_rows.cal X G (fun _ _ _ _ _ _ us hl=>by obtain ⟨a,rfl⟩:=gq hl; rfl) fun f fd F=>K83.xc F B mO
 have C_read_choir:Cal P w K mg base 8 "read_choir" ["rows"] K83.ot:=F_read_choir.cal X G (fun _ _ _ _ _ _ us hl=>by obtain ⟨a,rfl⟩:=gq hl; rfl) fun f fd F=>K83.ze F B C_are_rows C_read_bell C_is_bell
 have C_names_of:Cal P w K mg base 1 "names_of" ["choir"] K83.eP:=F_names_of.cal X G (fun _ _ _ _ _ _ us hl=>by obtain ⟨a,rfl⟩:=gq hl; rfl) fun f fd F=>K83.pE F
 have C_checked:Cal P w K mg base 8 "checked" ["thing"] K83.gw:=F_checked.cal X G (fun _ _ _ _ _ _ us hl=>by obtain ⟨a,rfl⟩:=gq hl; rfl) fun f fd F=>K83.oM F B mO C_is_bell
 have C_moved:Cal P w K mg base 1 "moved" ["bell","by"] K83.kJ:=F_moved.cal X G (fun _ _ _ _ _ _ us hl=>by obtain ⟨a,b,rfl⟩:=dm hl; rfl) fun f fd F=>K83.yD F B
 have C_tied:Cal P w K mg base 1 "tied" ["bell","ties","names"] K83.n4:=F_tied.cal X G (fun _ _ _ _ _ _ us hl=>by obtain ⟨a,b,c,rfl⟩:=iY hl; rfl) fun f fd F=>K83.zX F B
 have C_refuse_names_of_both:Cal P w K mg base 3 "refuse_names_of_both" ["one","other"] K83.oF:=F_refuse_names_of_both.cal X G (fun _ _ _ _ _ _ us hl=>by obtain ⟨a,b,rfl⟩:=dm hl; rfl) fun f fd F=>K83.zu F C_names_of
 have C_refuse_strange_ties:Cal P w K mg base 1 "refuse_strange_ties" ["ties","names"] K83.iz:=F_refuse_strange_ties.cal X G (fun _ _ _ _ _ _ us hl=>by obtain ⟨a,b,rfl⟩:=dm hl; rfl) fun f fd F=>K83.qK F
 have C_joined:Cal P w K mg base 9 "joined" ["one","other","ties"] K83.jz:=F_joined.cal X G (fun _ _ _ _ _ _ us hl=>by obtain ⟨a,b,c,rfl⟩:=iY hl; rfl) fun f fd F=>K83.tU F B C_refuse_names_of_both C_refuse_strange_ties C_names_of C_moved C_tied C_checked
 have C_is_whole_S:Cal P w K mg base 1 "is_whole" ["thing"] K83.S.dJ:=F_is_whole.cal X G (fun _ _ _ _ _ _ us hl=>by obtain ⟨a,rfl⟩:=gq hl; rfl) fun f fd F=>K83.S.g7 F B
 have C_text_S:Cal P w K mg base 4 "rule_of_text" ["text","many"] (K83.S.fQ K ff):=F_rule_of_text.cal X G (fun _ _ _ _ _ _ us hl=>by obtain ⟨a,b,rfl⟩:=dm hl; rfl) fun f fd F=>K83.S.n5 F (PySem.W.mg_of X G aA) (PySem.W.mg_of X G aY) oA oY HA bA HY bY
 have C_rule_S:Cal P w K mg base 5 "rule_of" ["word","many"] (K83.S.f7 K ff):=F_rule_of.cal X G (fun _ _ _ _ _ _ us hl=>by obtain ⟨a,b,rfl⟩:=dm hl; rfl) fun f fd F=>K83.S.iI F B (PySem.W.mg_of X G aS) oS HS bS_ C_text_S C_is_whole_S
 have C_rob_S:Cal P w K mg base 6 "rule_of_bell" ["bell"] (K83.S.gB K ff):=F_rule_of_bell.cal X G (fun _ _ _ _ _ _ us hl=>by obtain ⟨a,rfl⟩:=gq hl; rfl) fun f fd F=>K83.S.ki F B C_rule_S
 have C_listening_comes:Cal P w K mg base 1 "listening_comes" ["listening","before","now"] K83.S.lM:=F_listening_comes.cal X G (fun _ _ _ _ _ _ us hl=>by obtain ⟨a,b,c,rfl⟩:=iY hl; rfl) fun f fd F=>K83.S.vV F
 have C_next_found:Cal P w K mg base 2 "next_found" ["choir","rules","before","now"] (K83.S.kI K ff):=F_next_found.cal X G (fun _ _ _ _ _ _ us hl=>by obtain ⟨a,b,c,d,rfl⟩:=Cz hl; rfl) fun f fd F=>K83.S.vH F B C_listening_comes HF bF
 have C_strokes_behind:Cal P w K mg base 3 "strokes_behind" ["choir","rules","before"] (K83.S.jH K ff):=F_strokes_behind.cal X G (fun _ _ _ _ _ _ us hl=>by obtain ⟨a,b,c,rfl⟩:=iY hl; rfl) fun f fd F=>K83.S.uG F C_next_found
 have C_strokes:Cal P w K mg base 7 "strokes" ["choir","many"] K83.S.iM:=F_strokes.cal X G (fun _ _ _ _ _ _ us hl=>by obtain ⟨a,b,rfl⟩:=dm hl; rfl) fun f fd F=>K83.S.ra F B C_rob_S C_strokes_behind
 have C_with_other:Cal P w K mg base 1 "with_other" ["things","place","thing"] K83.S.lE:=F_with_other.cal X G (fun _ _ _ _ _ _ us hl=>by obtain ⟨a,b,c,rfl⟩:=iY hl; rfl) fun f fd F=>K83.S.yz F
 have C_sbeyond:Cal P w K mg base 3 "refuse_beyond_slower" ["number","most"] iC:=by
  obtain ⟨f1,fd1,F1,a1⟩:=F_sbeyond
  exact ⟨f1,fd1,qB F1 C_is_whole_within,F1.binds (ps:=["number","most"]) (fun _ _ _ _ _ _ us hl=>by obtain ⟨a,b,rfl⟩:=dm hl; rfl),F1.kp,PySem.W.mg_of X G a1⟩
 have C_made_slower:Cal P w K mg base 4 "made_slower" ["choir","bell","place","more"] K83.S.jq:=F_made_slower.cal X G (fun _ _ _ _ _ _ us hl=>by obtain ⟨a,b,c,d,rfl⟩:=Cz hl; rfl) fun f fd F=>K83.S.uF F B mM C_sbeyond C_with_other
 have C_place_of:Cal P w K mg base 1 "place_of" ["choir","name"] K83.S.i4:=F_place_of.cal X G (fun _ _ _ _ _ _ us hl=>by obtain ⟨a,b,rfl⟩:=dm hl; rfl) fun f fd F=>K83.S.yG F B
 have C_form_of:Cal P w K mg base 1 "form_of" ["words"] K83.S.oh:=F_form_of.cal X G (fun _ _ _ _ _ _ us hl=>by obtain ⟨a,rfl⟩:=gq hl; rfl) fun f fd F=>K83.S.y8 F (PySem.W.mg_of X G aFo) kF
 have C_refuse_wrong_words:Cal P w K mg base 2 "refuse_wrong_words" ["words"] K83.S.rD:=F_refuse_wrong_words.cal X G (fun _ _ _ _ _ _ us hl=>by obtain ⟨a,rfl⟩:=gq hl; rfl) fun f fd F=>K83.S.A0 F B mFg C_form_of C_is_written_whole C_is_word
 have C_beyond:Cal P w K mg base 3 "refuse_beyond_desk" ["number","least","most"] jO:=by
  obtain ⟨f1,fd1,F1,a1⟩:=F_beyond
  exact ⟨f1,fd1,um F1 C_is_whole_within,F1.binds (ps:=["number","least","most"]) (fun _ _ _ _ _ _ us hl=>by obtain ⟨a,b,c,rfl⟩:=iY hl; rfl),F1.kp,PySem.W.mg_of X G a1⟩
 have C_tell_stroke:Cal P w K mg base 8 "tell_stroke" ["choir","bell","n"] K83.S.iB:=F_tell_stroke.cal X G (fun _ _ _ _ _ _ us hl=>by obtain ⟨a,b,c,rfl⟩:=iY hl; rfl) fun f fd F=>K83.S.rC F B mSt C_beyond C_strokes
 have C_tell_of:Cal P w K mg base 9 "tell_of" ["choir","words"] K83.S.oq:=F_tell_of.cal X G (fun _ _ _ _ _ _ us hl=>by obtain ⟨a,b,rfl⟩:=dm hl; rfl) fun f fd F=>K83.S.zW F B C_place_of C_tell_stroke
 obtain ⟨ddI,FI⟩:=FDI
 have GI:FnOk P w K mg base CX0 1 fi ddI ["self"] (lT K):=vF FI
 have bI:Binds K ddI ["self"] []:=FI.binds (ps:=["self"]) fun _ _ _ _ _ _ us hl=>by obtain ⟨a,rfl⟩:=gq hl; rfl
 obtain ⟨ddT,FT⟩:=FDT
 have GT:FnOk P w K mg base CX0 1 ft ddT ["self","word"] (fh C):=x5 FT O
 have bT:Binds K ddT ["self","word"] []:=FT.binds (ps:=["self","word"]) fun _ _ _ _ _ _ us hl=>by obtain ⟨a,b,rfl⟩:=dm hl; rfl
 obtain ⟨ddK,FK⟩:=FDK
 have GK:FnOk P w K mg base CX0 1 fk ddK ["self","word","choir"] (iW C):=zV FK O
 have bK:Binds K ddK ["self","word","choir"] []:=FK.binds (ps:=["self","word","choir"]) fun _ _ _ _ _ _ us hl=>by obtain ⟨a,b,c,rfl⟩:=iY hl; rfl
 obtain ⟨ddC,FC⟩:=FDC
 have GC:FnOk P w K mg base CX0 9 fc ddC ["self","parts"] (jm C):=ub FC B O GK bK C_is_word C_read_choir
 have bC:Binds K ddC ["self","parts"] []:=FC.binds (ps:=["self","parts"]) fun _ _ _ _ _ _ us hl=>by obtain ⟨a,b,rfl⟩:=dm hl; rfl
 obtain ⟨ddP,FP⟩:=FDP
 have GP:FnOk P w K mg base CX0 2 fp ddP ["self","words"] (lF C):=ym FP O GT bT
 have bP:Binds K ddP ["self","words"] []:=FP.binds (ps:=["self","words"]) fun _ _ _ _ _ _ us hl=>by obtain ⟨a,b,rfl⟩:=dm hl; rfl
 obtain ⟨ddL,FL⟩:=FDL
 have GL:FnOk P w K mg base CX0 5 fl ddL ["self","words"] (lO C):=xP FL B O GT bT GK bK C_place_of C_made_slower
 have bL:Binds K ddL ["self","words"] []:=FL.binds (ps:=["self","words"]) fun _ _ _ _ _ _ us hl=>by obtain ⟨a,b,rfl⟩:=dm hl; rfl
 obtain ⟨ddJ,FJ⟩:=FDJ
 have GJ:FnOk P w K mg base CX0 10 fj ddJ ["self","words"] (lK C):=x4 FJ O GT bT GK bK C_joined
 have bJ:Binds K ddJ ["self","words"] []:=FJ.binds (ps:=["self","words"]) fun _ _ _ _ _ _ us hl=>by obtain ⟨a,b,rfl⟩:=dm hl; rfl
 obtain ⟨ddS,FS_⟩:=FDS
 have GS:FnOk P w K mg base CX0 11 fs ddS ["self","row"] (nT C):=Bv FS_ B O GT bT GC bC GP bP GL bL GJ bJ C_refuse_wrong_words C_tell_of
 have bS:Binds K ddS ["self","row"] []:=FS_.binds (ps:=["self","row"]) fun _ _ _ _ _ _ us hl=>by obtain ⟨a,b,rfl⟩:=dm hl; rfl
 have C__law_rows:Cal P w K mg base 1 "_law_rows" ["_law_choir"] K83.S.lG:=F__law_rows.cal X G (fun _ _ _ _ _ _ us hl=>by obtain ⟨a,rfl⟩:=gq hl; rfl) fun f fd F=>K83.S.xQ F B
 have C__law_strokes:Cal P w K mg base 12 "_law_strokes" ["_law_desk","_law_word","_law_choir"] (K83.S.gM C):=F__law_strokes.cal X G (fun _ _ _ _ _ _ us hl=>by obtain ⟨a,b,c,rfl⟩:=iY hl; rfl) fun f fd F=>K83.S.oO F B O GS bS
 have C__law_later:Cal P w K mg base 1 "_law_later" ["_law_ahead","_law_behind","_law_more"] K83.S.lH:=F__law_later.cal X G (fun _ _ _ _ _ _ us hl=>by obtain ⟨a,b,c,rfl⟩:=iY hl; rfl) fun f fd F=>K83.S.yq F B
 have C__law_right:Cal P w K mg base 13 "_law_right" ["_law_desk","_law_one","_law_other","_law_at","_law_place","_law_more"] (K83.S.lA C):=F__law_right.cal X G (fun _ _ _ _ _ _ us hl=>by obtain ⟨a,b,c,d,e,f,rfl⟩:=DX hl; rfl) fun f fd F=>K83.S.wC F B O GS bS C__law_rows C__law_strokes C__law_later
 exact AL F B O mD GI bI C__law_small C__law_pack C__law_take C__law_right
end K83.S
def PySem.W.Fast.tw2692368204457102562:Nat:=0
def PySem.W.Fast.tw3302351419304427434:Nat:=0
def PySem.W.Fast.tw9538722367234099823:Nat:=0
def PySem.W.Fast.tw8546507041006858536:Nat:=0
def PySem.W.Fast.tw2679788389234545583:Nat:=0
def PySem.W.Fast.tw15375951284493781769:Nat:=0
def PySem.W.Fast.tw2818121581792889658:Nat:=0
def PySem.W.Fast.tw3581782055558731384:Nat:=0
def PySem.W.Fast.tw16616110253932934811:Nat:=0
def PySem.W.Fast.tw8929488612155971895:Nat:=0
def PySem.W.Fast.tw1226118583798460899:Nat:=0
def PySem.W.Fast.tw10644243621810665313:Nat:=0
def PySem.W.Fast.tw12129300761824805667:Nat:=0
def PySem.W.Fast.tw14810419705563969387:Nat:=0
def PySem.W.Fast.tw2966352991477363224:Nat:=0
def PySem.W.Fast.tw243403443602941803:Nat:=0
def PySem.W.Fast.tw1853113869142312454:Nat:=0
def PySem.W.Fast.tw197776621358200984:Nat:=0
def PySem.W.Fast.tw10777504871756904371:Nat:=0
def PySem.W.Fast.tw3616376080543593703:Nat:=0
def PySem.W.Fast.tw12176297255828026253:Nat:=0
def PySem.W.Fast.tw8404034462936280567:Nat:=0
def PySem.W.Fast.tw7630311816797302470:Nat:=0
def PySem.W.Fast.tw15116352696293337233:Nat:=0
def PySem.W.Fast.tw9366205071189730699:Nat:=0
def PySem.W.Fast.tw11718868967159084003:Nat:=0
def PySem.W.Fast.tw30747520096625864:Nat:=0
def PySem.W.Fast.tw12425692572791790279:Nat:=0
open PySem PySem.W PyProof.Rows
set_option maxRecDepth 100000 in
set_option maxHeartbeats 0 in
theorem PySem.Challenge.cw_earbells_k83_whole_slower_and_joined_holds : PySem.Challenge.rw_earbells_k83_whole_slower_and_joined.Holds := by
  w_on; o_law; k_head; (case hw=>w_witness2)
  k_fill
  refine L2.wW (l:=PySem.Challenge.rw_earbells_k83_whole_slower_and_joined) (n:=63) (k:=14) (x:="_law_script") (CX:=L2.CX0) (sp:=K83.S.rM) rfl (by decide) rfl ⟨rfl,by decide,by decide⟩ (fun w h Y=>PySem.W.kIn_of Y) ?F (fun K H a ns hl hO hS=>⟨a,ns,rfl,hS,hl,fun _=>rfl⟩) (fun _ _ _ _ z=>z)
  case F =>
    intro w mg fa h KX G hmg
    refine' K83.S.all KX G hmg ?B ?m0 ?mI ?mM ?mL ?mS ?mO ?mG ?mFg ?mSt ?aR ?aA ?aY ?aS ?cR ?oA ?oY ?oS ?eA ?eY ?eS ?xR ?xm0 ?FR ?FA ?FY ?FS ?FW ?FF ?mJ ?mF ?mN ?hN ?aD ?O ?aFo ?kF ?F_beyond ?F_sbeyond ?FDI ?FDT ?FDK ?FDC ?FDP ?FDL ?FDJ ?FDS ?F__law_pack ?F__law_take ?F__law_rule ?F__law_small ?F_is_whole ?F_is_whole_within ?F_rule_of_text ?F_rule_of ?F_is_word ?F_is_name ?F_is_rule ?F_is_listening ?F_are_listenings ?F_is_bell ?F_is_written_whole ?F_read_number ?F_read_rule ?F_read_listening ?F_read_bell ?F_are_rows ?F_read_choir ?F_names_of ?F_checked ?F_moved ?F_tied ?F_refuse_names_of_both ?F_refuse_strange_ties ?F_joined ?F_rule_of_bell ?F_listening_comes ?F_next_found ?F_strokes_behind ?F_strokes ?F_with_other ?F_made_slower ?F_place_of ?F_form_of ?F_refuse_wrong_words ?F_tell_stroke ?F_tell_of ?F__law_rows ?F__law_strokes ?F__law_later ?F__law_right ?F_law
    case B =>
      refine' K83.AW KX G ?z1 ?z2 ?z3 ?z4 ?z5 ?z6 ?z7 ?z8 ?z9 ?z10 ?z11 ?z12 ?z13 ?z14 ?z15 ?z16 ?z17 ?z18 ?z19 ?z20
      all_goals k_is
    (case m0=>refine' PySem.W.mg_of KX G ?im0; (case im0=>k_is))
    (case aR=>k_is); (case aA=>k_is); (case aY=>k_is); (case aS=>k_is); (case aD=>k_is); (case aFo=>k_is)
    (case cR=>refine' K83.S.xO ?cRa ?cRb ?cRc ?cRd; (case cRa=>k_is); (case cRb=>k_is); (case cRc=>k_is); (case cRd=>k_is))
    (case oA=>refine' K83.S.rO ?oAa ?oAb ?oAc ?oAd ?oAe ?oAf ?oAg ?oAh ?oAi ?oAj ?oAk ?oAl; (case oAa=>k_is); (case oAb=>k_is); all_goals k_is)
    (case oY=>refine' K83.S.rO ?oYa ?oYb ?oYc ?oYd ?oYe ?oYf ?oYg ?oYh ?oYi ?oYj ?oYk ?oYl; (case oYa=>k_is); (case oYb=>k_is); all_goals k_is)
    (case oS=>refine' K83.S.rO ?oSa ?oSb ?oSc ?oSd ?oSe ?oSf ?oSg ?oSh ?oSi ?oSj ?oSk ?oSl; (case oSa=>k_is); (case oSb=>k_is); all_goals k_is)
    (case eA=>refine' K83.S.oz ?eAa ?eAb ?eAc; (case eAa=>k_is); all_goals k_is)
    (case eY=>refine' K83.S.oz ?eYa ?eYb ?eYc; (case eYa=>k_is); all_goals k_is)
    (case eS=>refine' K83.S.oz ?eSa ?eSb ?eSc; (case eSa=>k_is); all_goals k_is)
    (case xR=>refine' K83.S.yJ ?xRa; (case xRa=>k_exc))
    (case xm0=>kts_exm)
    (case O=>refine' K83.S.zm ?dk0 ?dk1 ?dk2 ?dk3 ?dk4 ?dk5 ?dk6 ?dk7 ?dk8 ?dk9 ?dk10 ?dk11 ?dk12 ?dk13 ?dk14 ?dk15 ?dk16 ?dk17 ?dk18 ?dk19 ?dk20 ?dk21 ?dk22 ?dk23 ?dk24 ?dk25 ?dk26 ?dk27 ?dk28 ?dk29; (case dk0=>k_is); (case dk1=>k_is); (case dk2=>k_is); (case dk3=>k_is); (case dk4=>k_is); (case dk5=>k_is); (case dk6=>k_is); (case dk7=>k_is); all_goals k_is)
    (case kF=>refine' K83.S.xZ ?kfl ?kfc ?kfm ?kfs; (case kfl=>k_is); (case kfc=>exact rfl); (case kfm=>exact rfl); (case kfs=>exact rfl))
    (case F_beyond=>refine' K83.S.qu ?ya ?yl ?yc ?yk; (case ya=>k_is); (case yl=>k_is); (case yc=>k_is); (case yk=>k_is))
    (case F_sbeyond=>refine' K83.S.qu ?wa ?wl ?wc ?wk; (case wa=>k_is); (case wl=>k_is); (case wc=>k_is); (case wk=>k_is))
    (case FR=>refine' L2.de ?FRl ?FRc ?FRk; (case FRl=>k_is); (case FRc=>k_is); (case FRk=>k_is))
    (case FA=>refine' L2.de ?FAl ?FAc ?FAk; (case FAl=>k_is); (case FAc=>k_is); (case FAk=>k_is))
    (case FY=>refine' L2.de ?FYl ?FYc ?FYk; (case FYl=>k_is); (case FYc=>k_is); (case FYk=>k_is))
    (case FS=>refine' L2.de ?FSl ?FSc ?FSk; (case FSl=>k_is); (case FSc=>k_is); (case FSk=>k_is))
    (case FW=>refine' L2.de ?FWl ?FWc ?FWk; (case FWl=>k_is); (case FWc=>k_is); (case FWk=>k_is))
    (case FF=>refine' L2.de ?FFl ?FFc ?FFk; (case FFl=>k_is); (case FFc=>k_is); (case FFk=>k_is))
    (case FDI=>refine' L2.de ?FDIl ?FDIc ?FDIk; (case FDIl=>k_is); (case FDIc=>k_is); (case FDIk=>k_is))
    (case FDT=>refine' L2.de ?FDTl ?FDTc ?FDTk; (case FDTl=>k_is); (case FDTc=>k_is); (case FDTk=>k_is))
    (case FDK=>refine' L2.de ?FDKl ?FDKc ?FDKk; (case FDKl=>k_is); (case FDKc=>k_is); (case FDKk=>k_is))
    (case FDC=>refine' L2.de ?FDCl ?FDCc ?FDCk; (case FDCl=>k_is); (case FDCc=>k_is); (case FDCk=>k_is))
    (case FDP=>refine' L2.de ?FDPl ?FDPc ?FDPk; (case FDPl=>k_is); (case FDPc=>k_is); (case FDPk=>k_is))
    (case FDL=>refine' L2.de ?FDLl ?FDLc ?FDLk; (case FDLl=>k_is); (case FDLc=>k_is); (case FDLk=>k_is))
    (case FDJ=>refine' L2.de ?FDJl ?FDJc ?FDJk; (case FDJl=>k_is); (case FDJc=>k_is); (case FDJk=>k_is))
    (case FDS=>refine' L2.de ?FDSl ?FDSc ?FDSk; (case FDSl=>k_is); (case FDSc=>k_is); (case FDSk=>k_is))
    (case mJ=>refine' PySem.W.mg_of KX G ?imJ; (case imJ=>k_is))
    (case mF=>refine' PySem.W.mg_of KX G ?imF; (case imF=>k_is))
    (case mN=>refine' PySem.W.mg_of KX G ?imN; (case imN=>k_is))
    (case hN=>refine' K83.S.BR ?hNa; (case hNa=>kernel_rfl))
    (case mI=>refine' PySem.W.mg_of KX G ?imI; (case imI=>k_is))
    (case mM=>refine' PySem.W.mg_of KX G ?imM; (case imM=>k_is))
    (case mL=>refine' PySem.W.mg_of KX G ?imL; (case imL=>k_is))
    (case mS=>refine' PySem.W.mg_of KX G ?imS; (case imS=>k_is))
    (case mO=>refine' PySem.W.mg_of KX G ?imO; (case imO=>k_is))
    (case mG=>refine' PySem.W.mg_of KX G ?imG; (case imG=>k_is))
    (case mFg=>refine' PySem.W.mg_of KX G ?imFg; (case imFg=>k_is))
    (case mSt=>refine' PySem.W.mg_of KX G ?imSt; (case imSt=>k_is))
    all_goals (refine' L2.wt ?a ?l ?c ?k; (case a=>k_is); (case l=>k_is); (case c=>k_is); (case k=>k_is))
#print axioms PySem.Challenge.cw_earbells_k83_whole_slower_and_joined_holds
end
