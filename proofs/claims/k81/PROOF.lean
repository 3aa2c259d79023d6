import PyProof.Rows.All
import Wide.All
import OpenK.AllK
import Wide.FinOn
import Lean
import PyProof.EqAt
import PyProof.EqKinds
import PyProof.TupleCall
import PyProof.NeKinds
import PySem.Challenge.RW_earbells_k81_whole_rung_as_written
set_option Elab.async false
set_option linter.all false
set_option maxRecDepth 100000
noncomputable section
namespace PySem.W.Fast
def tw16998112163074431631:Nat:=0
def tw3391108293062336988:Nat:=0
def tw5214573188287981391:Nat:=0
def tw7008019914049288218:Nat:=0
def tw5831594990390200176:Nat:=0
def tw13093548339921074347:Nat:=0
def tw6208753844382228865:Nat:=0
def tw7142440321882546530:Nat:=0
def tw18337144046494375993:Nat:=0
def tw17894797638457730768:Nat:=0
def tw4003620106686040189:Nat:=0
def tw14608409869739425723:Nat:=0
def tw3680814479585543471:Nat:=0
def tw8598085561889599437:Nat:=0
def tw1883223754685363352:Nat:=0
def tw6855347086965270456:Nat:=0
def tw12017503473887944102:Nat:=0
def tw17589224265378048942:Nat:=0
def tw12998093336455802001:Nat:=0
def tw2054372496701582428:Nat:=0
def tw2680849769203416603:Nat:=0
def tw14534862199684208303:Nat:=0
def tw7338982003505522902:Nat:=0
def tw3699883389836387049:Nat:=0
def tw14717618472382588207:Nat:=0
def tw13011075253587107679:Nat:=0
def tw15549835013441871242:Nat:=0
def tw5266789411665013426:Nat:=0
def tw17965905043913613574:Nat:=0
def tw17130266953602679477:Nat:=0
def tw11354638708538623183:Nat:=0
def tw5518552183299629400:Nat:=0
def tw12635223081547858284:Nat:=0
def tw11429956261328979800:Nat:=0
def tw11358594088301282766:Nat:=0
def tw3107866379378497824:Nat:=0
def tw5577729267611406308:Nat:=0
def tw1733211329705379872:Nat:=0
def tw2671148070901772160:Nat:=0
def tw5370804576361731450:Nat:=0
def tw4950625734374927282:Nat:=0
def tw12358889821030635365:Nat:=0
def tw16850096979442058501:Nat:=0
def tw5577870319299854017:Nat:=0
def tw8644053133089641196:Nat:=0
def tw1377458914758026861:Nat:=0
def tw11685104974758961273:Nat:=0
def tw8541780887912805011:Nat:=0
def tw14229682498098154623:Nat:=0
def tw2264244766166601085:Nat:=0
def tw15545522424037619077:Nat:=0
def tw7492496013247525234:Nat:=0
def tw15155661740871175350:Nat:=0
def tw764374401672854575:Nat:=0
def tw13208750461228842717:Nat:=0
def tw9504392176893308035:Nat:=0
def tw4675198414327607604:Nat:=0
def tw14570054674527812322:Nat:=0
def tw4831543244402358080:Nat:=0
def tw7651053763917273720:Nat:=0
def tw13342959654739189717:Nat:=0
def tw8762722863747083746:Nat:=0
def tw8457469812444240802:Nat:=0
def tw12974639702590563856:Nat:=0
def tw17231901275541658349:Nat:=0
def tw2403359620927749015:Nat:=0
def tw3376509603909281227:Nat:=0
def tw2384886181887276129:Nat:=0
def tw5408702181580949670:Nat:=0
def tw1691054553417939118:Nat:=0
def tw1136995651132342428:Nat:=0
def tw10540674998285606499:Nat:=0
def tw8987892435586720097:Nat:=0
def tw17202510629251629620:Nat:=0
def tw10135403559663500210:Nat:=0
def tw16750717244255460030:Nat:=0
def tw16683349487027273539:Nat:=0
def tw8787934133514362139:Nat:=0
def tw463816570320561352:Nat:=0
def tw15491742241877841590:Nat:=0
def tw13216887288632708583:Nat:=0
def tw1099375175248275546:Nat:=0
def tw11519324860501692055:Nat:=0
def tw15979900896958866270:Nat:=0
def tw2702476078777626016:Nat:=0
def tw6779944522444898129:Nat:=0
def tw379981551130660324:Nat:=0
def tw12280831507274999573:Nat:=0
def tw14139877890341285916:Nat:=0
def tw14117417148528406876:Nat:=0
def tw9202739915205705925:Nat:=0
def tw11296822842834252547:Nat:=0
def tw15771592730910617593:Nat:=0
def tw5345311697380841356:Nat:=0
def tw16783891849688192952:Nat:=0
def tw8202497508228133573:Nat:=0
def tw6275013496493480870:Nat:=0
def tw14510790406263416075:Nat:=0
def tw3966275272253930969:Nat:=0
def tw5404064087824365889:Nat:=0
def tw10180808716386084209:Nat:=0
def tw12435031495172066331:Nat:=0
def tw3194728308947009179:Nat:=0
def tw15746943912355148964:Nat:=0
def tw1943757703930566224:Nat:=0
def tw14369895871113504774:Nat:=0
def tw3464854608577675373:Nat:=0
def tw4469442084245892656:Nat:=0
def tw30037705842134812:Nat:=0
def tw13097187791213994605:Nat:=0
def tw5990823163178995729:Nat:=0
def tw16424938181232161077:Nat:=0
def tw1971562307348892546:Nat:=0
def tw497541662343172953:Nat:=0
def tw18303884951125328153:Nat:=0
def tw1386402503145859006:Nat:=0
def tw12753328629008079124:Nat:=0
def tw17696657065935297271:Nat:=0
def tw4828394350214008089:Nat:=0
def tw11061391208565748662:Nat:=0
def tw8101525498225276282:Nat:=0
def tw16993436063527351619:Nat:=0
def tw4662223968678639363:Nat:=0
def tw10150228095429235013:Nat:=0
def tw230644452163508122:Nat:=0
def tw4663053266677153539:Nat:=0
def tw11280926035685142577:Nat:=0
def tw12314985008674059700:Nat:=0
def tw8731860398818329534:Nat:=0
def tw14809543384941521635:Nat:=0
def tw12667981987341087168:Nat:=0
def tw16770527545062483214:Nat:=0
def tw5505444425419231174:Nat:=0
def tw192601249979204226:Nat:=0
def tw18133351352271487518:Nat:=0
def tw13639479118162292256:Nat:=0
def tw12311589032837263050:Nat:=0
def tw5423405306718896566:Nat:=0
def tw8374870188368170853:Nat:=0
def tw5449646404214495577:Nat:=0
def tw12485600620653173643:Nat:=0
def tw9812460343954117851:Nat:=0
def tw18001501533347682780:Nat:=0
def tw14151344844288059874:Nat:=0
def tw4847892559039538690:Nat:=0
def tw7514917858524145176:Nat:=0
def tw10453385870033852491:Nat:=0
def tw6914542361158997826:Nat:=0
def tw14353991523305987836:Nat:=0
def tw6761852505916465939:Nat:=0
def tw5773526663706991662:Nat:=0
def tw5732939139675619765:Nat:=0
def tw8214180551690419406:Nat:=0
def tw11423734538471441842:Nat:=0
def tw11372814846186393:Nat:=0
def tw6841600481791827695:Nat:=0
def tw124780474116703550:Nat:=0
def tw6997043814645365957:Nat:=0
def tw9900645584578734173:Nat:=0
def tw12532825270394977678:Nat:=0
def tw4818251868119880881:Nat:=0
def tw9614607245025686211:Nat:=0
def tw13810660188305187132:Nat:=0
def tw10137223294742415413:Nat:=0
def tw3778901860176176755:Nat:=0
def tw13207892462200540197:Nat:=0
def tw241895932052183173:Nat:=0
def tw4679737175793321920:Nat:=0
def tw9046514173070264997:Nat:=0
def tw17186663682039796052:Nat:=0
def tw12182753552941692161:Nat:=0
def tw13435525315532076939:Nat:=0
def tw4144659030998017847:Nat:=0
def tw7573484893280049930:Nat:=0
def tw6577024825007462468:Nat:=0
def tw11390585485235066166:Nat:=0
def tw17950287340089981475:Nat:=0
def tw9577514760155308711:Nat:=0
def tw14979466871478816336:Nat:=0
def tw11075876962632947009:Nat:=0
def tw5845757610482529896:Nat:=0
def tw17584809556509985224:Nat:=0
def tw13901457324108646652:Nat:=0
def tw14250281678886609271:Nat:=0
def tw3256141245732719178:Nat:=0
def tw14125127627445700509:Nat:=0
def tw3550569761153548443:Nat:=0
def tw978783988416167105:Nat:=0
def tw17591539828827784945:Nat:=0
def tw4786177218235253886:Nat:=0
def tw14266721299318297598:Nat:=0
def tw15341831876374993192:Nat:=0
def tw2767796816558800675:Nat:=0
def tw15234778626912010565:Nat:=0
def tw4479901323158762235:Nat:=0
def tw5576230111268433594:Nat:=0
def tw4782988250454676542:Nat:=0
def tw7158490488343916028:Nat:=0
def tw12859156086993537352:Nat:=0
def tw927966507186024825:Nat:=0
def tw1222552875340980469:Nat:=0
def tw18444449869663063412:Nat:=0
def tw6164036567513885286:Nat:=0
def tw11686893575308684421:Nat:=0
def tw1961107589753307276:Nat:=0
def tw13686328578585916405:Nat:=0
def tw7412487072520014020:Nat:=0
def tw12125715572126638202:Nat:=0
def tw15914339264346597266:Nat:=0
def tw17913690643800530421:Nat:=0
def tw10029264979598464483:Nat:=0
def tw5103681952691190128:Nat:=0
def tw11334221426565051783:Nat:=0
def tw858300272998703052:Nat:=0
def tw17900559204152213775:Nat:=0
def tw6210073104361102064:Nat:=0
def tw11455672058866488329:Nat:=0
def tw6528205020754617931:Nat:=0
def tw7230234401860303212:Nat:=0
def tw14832638535553179421:Nat:=0
def tw4943943444809832850:Nat:=0
def tw1872573339023539910:Nat:=0
def tw16499992798152697245:Nat:=0
def tw11406789586545099256:Nat:=0
def tw8002768371851191541:Nat:=0
def tw6217677031544114710:Nat:=0
def tw10859823122255519711:Nat:=0
def tw5104147541093650782:Nat:=0
def tw6868454556763576821:Nat:=0
def tw332385796296447692:Nat:=0
def tw4230281664475781423:Nat:=0
def tw11347223968869191818:Nat:=0
def tw380897763482594580:Nat:=0
def tw4648173197799066270:Nat:=0
def tw12180960124364629048:Nat:=0
def tw2860637130919551391:Nat:=0
def tw11887463326329371691:Nat:=0
def tw14434521919637278318:Nat:=0
def tw1788013683512927919:Nat:=0
def tw13538013417418548080:Nat:=0
def tw13011336079279158069:Nat:=0
def tw12510136062902491949:Nat:=0
def tw7958643801109546875:Nat:=0
def tw4551644081383407914:Nat:=0
def tw3700502472505939273:Nat:=0
def tw9982706089794194859:Nat:=0
def tw6357522929621790218:Nat:=0
def tw13078198128911326731:Nat:=0
def tw16947693045982389850:Nat:=0
def tw18318550455729321792:Nat:=0
def tw15808124321183158235:Nat:=0
def tw8509750579203482127:Nat:=0
def tw17570947681565450443:Nat:=0
def tw11951799649823444041:Nat:=0
def tw14919604814202487421:Nat:=0
def tw7273762062843828090:Nat:=0
def tw2282818563041093603:Nat:=0
def tw16632304070568624928:Nat:=0
def tw11235789693869475162:Nat:=0
def tw12216430318593119912:Nat:=0
def tw4894790876346128840:Nat:=0
def tw12359150373926163939:Nat:=0
def tw15055068656666960026:Nat:=0
def tw13257641385339273371:Nat:=0
def tw8303479468374709212:Nat:=0
def tw16076797633010212782:Nat:=0
def tw6510150515229783728:Nat:=0
def tw11382385093155721436:Nat:=0
def tw12174094039623816885:Nat:=0
def tw16984773930070307570:Nat:=0
def tw3058187252196147134:Nat:=0
def tw552594642931101819:Nat:=0
def tw10427727246669231038:Nat:=0
def tw8238996182793267621:Nat:=0
def tw8687507212091118074:Nat:=0
def tw511339610602408296:Nat:=0
def tw1142492655197509012:Nat:=0
def tw3970774112779696602:Nat:=0
def tw13501856455149947529:Nat:=0
def tw1345837302761629278:Nat:=0
def tw14300678126303429272:Nat:=0
def tw2174585392295955349:Nat:=0
def tw1387147858576333039:Nat:=0
def tw639804730621961381:Nat:=0
def tw6257556548989505126:Nat:=0
def tw5642271703282949990:Nat:=0
def tw11661784131765867482:Nat:=0
def tw9112794588861016353:Nat:=0
def tw14952399039404521796:Nat:=0
def tw3773359468519447453:Nat:=0
def tw17893033189429372039:Nat:=0
def tw8259095576985358626:Nat:=0
def tw2748851569573404275:Nat:=0
def tw12154429932472655830:Nat:=0
def tw11345569999494659867:Nat:=0
def tw18435526099194777850:Nat:=0
def tw4649246202775568578:Nat:=0
def tw36371087244630303:Nat:=0
def tw11334846551258258836:Nat:=0
def tw3016608877438085355:Nat:=0
def tw5774909698699463587:Nat:=0
def tw14277650942531251857:Nat:=0
def tw12300511009463828297:Nat:=0
def tw17450356829758569935:Nat:=0
def tw13276403583538514437:Nat:=0
def tw2735413487535555078:Nat:=0
def tw13583401243671212311:Nat:=0
def tw11744590450729448551:Nat:=0
def tw6114046266625066583:Nat:=0
def tw12880618114828482512:Nat:=0
def tw15860520108308017554:Nat:=0
def tw10553000467019190165:Nat:=0
def tw12401790432082679057:Nat:=0
def tw746223647347793948:Nat:=0
def tw15497521272010886716:Nat:=0
def tw15145969878572127325:Nat:=0
def tw1445982751363559272:Nat:=0
def tw4856295761457265327:Nat:=0
def tw3361173619735281614:Nat:=0
def tw4699288172606373999:Nat:=0
def tw17191170533632069089:Nat:=0
def tw15328848519051056912:Nat:=0
def tw4868810877272399731:Nat:=0
def tw4991744666135965763:Nat:=0
def tw14639784473415354068:Nat:=0
def tw7037710676166720829:Nat:=0
def tw7498464355160857518:Nat:=0
def tw14423668623182221975:Nat:=0
def tw18250651534607783995:Nat:=0
def tw16193095879787877571:Nat:=0
def tw10256608908328070482:Nat:=0
def tw7997329290734326216:Nat:=0
def tw13637386015915738227:Nat:=0
def tw6526749067319700665:Nat:=0
def tw16435947787027582435:Nat:=0
def tw8953629254070579875:Nat:=0
def tw13328981333861760792:Nat:=0
def tw18387205301073099468:Nat:=0
def tw2076114743661347673:Nat:=0
def tw4531644044620357487:Nat:=0
def tw12048637116053151631:Nat:=0
def tw2406857883883525935:Nat:=0
def tw17690129960606496308:Nat:=0
def tw1356509850132341733:Nat:=0
def tw14417122548876515916:Nat:=0
def tw7082766375352709686:Nat:=0
def tw13133518369859053966:Nat:=0
def tw15938833542367839993:Nat:=0
def tw7154877081985147968:Nat:=0
def tw4723899548132895178:Nat:=0
def tw16942587869353478522:Nat:=0
def tw3336780487048320957:Nat:=0
def tw17507710426483811029:Nat:=0
def tw15115719888033497088:Nat:=0
def tw8986134313856313690:Nat:=0
def tw10278994635406657221:Nat:=0
def tw6576112753601398170:Nat:=0
def tw819033638071295678:Nat:=0
def tw14502237161487458551:Nat:=0
def tw7919200832398497785:Nat:=0
def tw4866307249671566929:Nat:=0
def tw4883196228642896572:Nat:=0
def tw1150917545661849081:Nat:=0
def tw4931578211879641628:Nat:=0
def tw13775113392101497169:Nat:=0
def tw13712269916206607873:Nat:=0
def tw16046680876533566222:Nat:=0
def tw9751048584849654477:Nat:=0
def tw9241932066490363366:Nat:=0
def tw13956587537901724331:Nat:=0
def tw536228180166978892:Nat:=0
def tw15632191289302149352:Nat:=0
def tw15830373429092140031:Nat:=0
def tw3052298908485214321:Nat:=0
def tw2400273088454468039:Nat:=0
def tw428974478707032555:Nat:=0
def tw13609492388543667308:Nat:=0
def tw7412880179652864010:Nat:=0
def tw9324825250899180281:Nat:=0
def tw4213790269049220131:Nat:=0
def tw9539622313369866182:Nat:=0
def tw13638144219513500949:Nat:=0
def tw1281733302794485408:Nat:=0
def tw7649159295281542545:Nat:=0
def tw14744658545851779323:Nat:=0
def tw2211109025078592452:Nat:=0
def tw13489265774936955184:Nat:=0
def tw1731648479419108635:Nat:=0
def tw9758424126525232070:Nat:=0
def tw11344703331948027465:Nat:=0
def tw12044771505585843902:Nat:=0
def tw4499356230982450553:Nat:=0
def tw10018381535568198176:Nat:=0
def tw9867784214599783200:Nat:=0
def tw1461669883687860494:Nat:=0
def tw14361108106359430836:Nat:=0
def tw9373655330155936323:Nat:=0
def tw14599976189420494578:Nat:=0
def tw8043175403535903589:Nat:=0
def tw3592418499965056957:Nat:=0
def tw1068730064586571335:Nat:=0
def tw8400643080304352814:Nat:=0
def tw44315967296459037:Nat:=0
def tw12327731768500478134:Nat:=0
def tw1944936939973862815:Nat:=0
def tw16928779184357411537:Nat:=0
def tw3268264967045788702:Nat:=0
def tw13770004799407021777:Nat:=0
def tw11075517537138732185:Nat:=0
def tw10168661219481844475:Nat:=0
def tw12345673740004398129:Nat:=0
def tw6844211949525948205:Nat:=0
def tw15043302622381582577:Nat:=0
def tw3957597039727707361:Nat:=0
def tw10023763320050103905:Nat:=0
def tw12766368159619971209:Nat:=0
def tw14998510526778344209:Nat:=0
def tw4044085447505542571:Nat:=0
def tw11526525023366101191:Nat:=0
def tw10059629505724245867:Nat:=0
def tw2043325315282919010:Nat:=0
def tw4063170145704588922:Nat:=0
def tw13888432900481839616:Nat:=0
def tw16502904005169958665:Nat:=0
def tw17761896914570143656:Nat:=0
def tw9229658969915926172:Nat:=0
def tw3209756245864398295:Nat:=0
def tw263684854775735516:Nat:=0
def tw15185474417371075385:Nat:=0
def tw11151110759013574346:Nat:=0
def tw8346797877819530356:Nat:=0
def tw11696278838547049029:Nat:=0
def tw10056871649538128974:Nat:=0
def tw16557096192141424828:Nat:=0
def tw13741097817009367029:Nat:=0
def tw10349902568470344117:Nat:=0
def tw13344576691798806176:Nat:=0
def tw5429218307740556260:Nat:=0
def tw2156208018168631830:Nat:=0
def tw4175329879901135161:Nat:=0
def tw16280749069255467363:Nat:=0
def tw17712421866731877316:Nat:=0
def tw13873521083928884096:Nat:=0
def tw15647360944644003866:Nat:=0
def tw16528618597653961647:Nat:=0
def tw6513223317721003106:Nat:=0
def tw8931887403196710264:Nat:=0
def tw14877182310647882228:Nat:=0
def tw13583623693392416116:Nat:=0
def tw2591351920264895899:Nat:=0
def tw12301495259866134979:Nat:=0
def tw10113866286036669729:Nat:=0
def tw5415780068953268606:Nat:=0
def tw1229150040306395218:Nat:=0
def tw9584892640219405896:Nat:=0
def tw13027509925132290016:Nat:=0
def tw2933452081764295519:Nat:=0
def tw1411494140950718897:Nat:=0
def tw11428035344521111427:Nat:=0
def tw7026464774961841516:Nat:=0
def tw2265918508465515757:Nat:=0
def tw17916518881101325147:Nat:=0
def tw11088838307011654110:Nat:=0
def tw11485670861731062209:Nat:=0
def tw10326268014355891052:Nat:=0
def tw9793162684421105569:Nat:=0
def tw2217348312365059696:Nat:=0
def tw2347617850048337650:Nat:=0
def tw7825123615912244829:Nat:=0
def tw11432334598193408723:Nat:=0
def tw4104359167666987105:Nat:=0
def tw9364683448754172080:Nat:=0
def tw617815643962376941:Nat:=0
def tw8129831437135219562:Nat:=0
def tw11376495264719165645:Nat:=0
def tw10333653911404306060:Nat:=0
def tw9334810488860668785:Nat:=0
def tw3344425111404780510:Nat:=0
def tw6610833315837977166:Nat:=0
def tw12490084878726295918:Nat:=0
def tw12851419653977733002:Nat:=0
def tw17484819519232545518:Nat:=0
def tw10588531134266957690:Nat:=0
def tw12698801549129318317:Nat:=0
def tw13264012054539200711:Nat:=0
def tw962369594835359186:Nat:=0
def tw10901537189128028109:Nat:=0
def tw16690612745265333844:Nat:=0
def tw18001475173807060334:Nat:=0
def tw13688359868457791866:Nat:=0
def tw17792193816209771838:Nat:=0
def tw7015810219438818708:Nat:=0
def tw119565979260956760:Nat:=0
def tw16435079065432033422:Nat:=0
def tw10578259854496650714:Nat:=0
def tw5907185194023778248:Nat:=0
def tw5359840507193697813:Nat:=0
def tw5724907669475182274:Nat:=0
def tw7537008436386782254:Nat:=0
def tw8471019667218895549:Nat:=0
def tw5260168227076531775:Nat:=0
def tw8164410805276582923:Nat:=0
def tw9283291997859262994:Nat:=0
def tw4997386492640356180:Nat:=0
def tw11051688091229225283:Nat:=0
def tw1574873069357317110:Nat:=0
def tw12340424679711848894:Nat:=0
def tw7369583966327569703:Nat:=0
def tw1112230483459592257:Nat:=0
def tw9532307195691402268:Nat:=0
def tw10774965954125064716:Nat:=0
def tw1182640963130519421:Nat:=0
def tw4541411016642738071:Nat:=0
def tw6265346570126195743:Nat:=0
def tw9475358421751474838:Nat:=0
def tw14009085955352132806:Nat:=0
def tw12281331392522313864:Nat:=0
def tw5818296311015549656:Nat:=0
def tw16942798282288505843:Nat:=0
def tw12804231417704037931:Nat:=0
def tw11695004969624148789:Nat:=0
def tw9136532203169547125:Nat:=0
def tw14918116357903330701:Nat:=0
def tw2653120961484860928:Nat:=0
def tw8515756257288537668:Nat:=0
def tw9406331429377915991:Nat:=0
def tw6625778179103395882:Nat:=0
def tw593549555680518467:Nat:=0
def tw17573498528607571986:Nat:=0
def tw6467795275400304564:Nat:=0
def tw16720636481689192718:Nat:=0
def tw5544564648506240430:Nat:=0
def tw16326997607918521674:Nat:=0
def tw2302657082029322255:Nat:=0
def tw10486717377804622611:Nat:=0
def tw16841659648616549305:Nat:=0
def tw12656647908432583305:Nat:=0
def tw5397604950681177880:Nat:=0
def tw2663338606896523195:Nat:=0
def tw3839765592468088763:Nat:=0
def tw18348865521752610128:Nat:=0
def tw11125617001978382324:Nat:=0
def tw1411570604194605438:Nat:=0
def tw3638924907034497553:Nat:=0
def tw4004972593156871285:Nat:=0
def tw4622412084644960944:Nat:=0
def tw7993016400888256195:Nat:=0
def tw3239124169035354678:Nat:=0
def tw1516014631706126501:Nat:=0
def tw17523068505446602502:Nat:=0
def tw5388257093637942460:Nat:=0
def tw1043872388924821626:Nat:=0
def tw14700317167938959882:Nat:=0
def tw4561476475349586869:Nat:=0
def tw14787191337127208715:Nat:=0
def tw17788221860740583035:Nat:=0
def tw16318778471262334495:Nat:=0
def tw16795214481598380192:Nat:=0
def tw2362793729404491058:Nat:=0
def tw12074640745213282962:Nat:=0
def tw12517049644039418512:Nat:=0
def tw7057904988219933440:Nat:=0
def tw17577988093876515178:Nat:=0
def tw8781779822665458959:Nat:=0
def tw10421933801295911091:Nat:=0
def tw12458860714163893244:Nat:=0
def tw15241901359840509165:Nat:=0
def tw6754978635949047806:Nat:=0
def tw4758634339030833139:Nat:=0
def tw9377175666822881228:Nat:=0
def tw8850028108289941283:Nat:=0
def tw6789575542363988201:Nat:=0
def tw13361225937907439465:Nat:=0
def tw16514934724494594314:Nat:=0
def tw8187724169060878844:Nat:=0
def tw11164951888696564098:Nat:=0
def tw16159271584677983712:Nat:=0
def tw14625747768229841576:Nat:=0
def tw12253014962112954852:Nat:=0
def tw2879442591938078572:Nat:=0
def tw8088443037491134122:Nat:=0
def tw13593660879334596212:Nat:=0
def tw10572249035979894700:Nat:=0
def tw4108979793316648876:Nat:=0
def tw10875537847366732889:Nat:=0
def tw1509878773112272532:Nat:=0
def tw3820842957022180905:Nat:=0
def tw1347241821641927942:Nat:=0
def tw16101197785089438243:Nat:=0
def tw9046650306015430418:Nat:=0
def tw5290972289516467405:Nat:=0
def tw10463744956462481236:Nat:=0
def tw7282996528306045156:Nat:=0
def tw15130959752696155058:Nat:=0
def tw1661541931135732660:Nat:=0
def tw8047642351461361069:Nat:=0
def tw7352248021741126157:Nat:=0
def tw2916820201284684281:Nat:=0
def tw9137266948588684841:Nat:=0
def tw4497576779076005318:Nat:=0
def tw4809228690052130617:Nat:=0
def tw7457322509628976261:Nat:=0
def tw1525798259554811533:Nat:=0
def tw6262485681163756272:Nat:=0
def tw1086854998145932185:Nat:=0
def tw4848442383933534357:Nat:=0
def tw9480969018590479379:Nat:=0
def tw18052663235425111651:Nat:=0
def tw16214488753478916845:Nat:=0
def tw5348618371150125041:Nat:=0
def tw14202073712394057222:Nat:=0
def tw3521293219249562714:Nat:=0
def tw11207243296102092682:Nat:=0
def tw14624378993128265610:Nat:=0
def tw10350949326578305042:Nat:=0
def tw3422578410464092077:Nat:=0
def tw12907624732637727930:Nat:=0
def tw9491363131859317929:Nat:=0
def tw2632702811745678656:Nat:=0
def tw9946692042850576458:Nat:=0
def tw11082460571634852051:Nat:=0
def tw17096296050846175202:Nat:=0
def tw8940005324811318650:Nat:=0
def tw11671319943952326867:Nat:=0
def tw15587438257719157301:Nat:=0
def tw9429572944560917582:Nat:=0
def tw11917244858367075893:Nat:=0
def tw14784965946583837237:Nat:=0
def tw15544582287173355125:Nat:=0
def tw5760405994011299979:Nat:=0
def tw8016849692196903379:Nat:=0
def tw16005212693740380858:Nat:=0
def tw5836864929972475584:Nat:=0
def tw8671362172385840897:Nat:=0
def tw14076474902613261114:Nat:=0
def tw1142634040301351648:Nat:=0
def tw5662867864466732627:Nat:=0
def tw7089139075266996419:Nat:=0
def tw8698299120135175098:Nat:=0
def tw13514670351369648723:Nat:=0
def tw15942759144345446246:Nat:=0
def tw6497859261069827467:Nat:=0
def tw12545120232228395778:Nat:=0
def tw14938487029485870097:Nat:=0
def tw3196228987833456110:Nat:=0
def tw13446697359823204354:Nat:=0
def tw1901095373275437028:Nat:=0
def tw2395358152522726067:Nat:=0
def tw5778077691875187939:Nat:=0
def tw9986840536374566299:Nat:=0
def tw10566416691476157494:Nat:=0
def tw1739543594126012859:Nat:=0
def tw1741332755990210981:Nat:=0
def tw17988510124232832571:Nat:=0
def tw4773222280068385065:Nat:=0
def tw11549379979053257475:Nat:=0
def tw13415997679320775342:Nat:=0
def tw10162076079911716584:Nat:=0
def tw3970376194449554126:Nat:=0
def tw17943282414604084502:Nat:=0
def tw7146665374292005582:Nat:=0
def tw12137416904038724886:Nat:=0
def tw1317556983606600297:Nat:=0
def tw3830620371189295414:Nat:=0
def tw14929403073977862486:Nat:=0
def tw8320885539781212123:Nat:=0
def tw8890078234310178347:Nat:=0
def tw6823266507297939214:Nat:=0
def tw16727969494662613494:Nat:=0
def tw14728687435588612915:Nat:=0
def tw5299145750199546632:Nat:=0
def tw9284568234926248883:Nat:=0
def tw17038510275284555600:Nat:=0
def tw18104343200433389831:Nat:=0
def tw14819037469812476585:Nat:=0
def tw2618858798825484901:Nat:=0
def tw12763847608796635830:Nat:=0
def tw14991430668474155367:Nat:=0
def tw796636633025657244:Nat:=0
def tw8438620014114212284:Nat:=0
def tw6055935503666919868:Nat:=0
def tw4759434521539999855:Nat:=0
def tw24330321966953615:Nat:=0
def tw8312342157676788598:Nat:=0
def tw6949835122077089159:Nat:=0
def tw5827000433202606100:Nat:=0
def tw9996870349442357035:Nat:=0
def tw2797221744510682409:Nat:=0
def tw365374622079749820:Nat:=0
def tw14553439765522683580:Nat:=0
def tw15129739306305713396:Nat:=0
def tw16881625644032879887:Nat:=0
def tw4025625981999468567:Nat:=0
def tw5068368633464051239:Nat:=0
def tw17202840254759118481:Nat:=0
def tw16304776778560734791:Nat:=0
def tw8832123697435995439:Nat:=0
def tw9922246545734295111:Nat:=0
def tw10508057656714381597:Nat:=0
def tw10963509562138157056:Nat:=0
def tw4324736954727839043:Nat:=0
def tw4843920775140499837:Nat:=0
def tw14601194241563241095:Nat:=0
def tw12138490434515760541:Nat:=0
def tw10225654095231766507:Nat:=0
def tw15979107789048109565:Nat:=0
def tw1573854066870934604:Nat:=0
def tw2778794064933769821:Nat:=0
def tw14706806108834237255:Nat:=0
def tw12168181999907846149:Nat:=0
def tw10240643227289750237:Nat:=0
def tw15505307595021520904:Nat:=0
def tw15307226102239082269:Nat:=0
def tw6210485741366632488:Nat:=0
def tw3720821195321822917:Nat:=0
def tw10122626793626999009:Nat:=0
def tw11004782164573564236:Nat:=0
def tw4801674816232469207:Nat:=0
def tw17833056478567166703:Nat:=0
def tw7283751173186984426:Nat:=0
def tw394395696573527855:Nat:=0
def tw8998484221950504899:Nat:=0
def tw13793225261171172200:Nat:=0
def tw10766769575287585763:Nat:=0
def tw5153128577611430679:Nat:=0
def tw4821641870541083232:Nat:=0
def tw762456195517240670:Nat:=0
def tw14579513552181977438:Nat:=0
def tw15000885010795654494:Nat:=0
def tw12139309052827729347:Nat:=0
def tw1160238562401229687:Nat:=0
def tw245443595870346654:Nat:=0
def tw5668243927177332631:Nat:=0
def tw6632804257945524596:Nat:=0
def tw8254254958751382629:Nat:=0
def tw18168879438928653886:Nat:=0
def tw5969184373275871183:Nat:=0
def tw2087561644478560862:Nat:=0
def tw17188261859525764176:Nat:=0
def tw929449586495307735:Nat:=0
def tw6135238544029125872:Nat:=0
def tw11315208192693622450:Nat:=0
def tw14213325614293451340:Nat:=0
def tw1854431631343615280:Nat:=0
def tw6067267490898951940:Nat:=0
def tw3196045895461528098:Nat:=0
def tw3447622085224728976:Nat:=0
def tw13183068403796948933:Nat:=0
def tw4501506776528142648:Nat:=0
def tw14218252130375237630:Nat:=0
def tw1487511732646358594:Nat:=0
def tw15442786275329951064:Nat:=0
def tw10879728521710160991:Nat:=0
def tw11588685847747256415:Nat:=0
def tw572787145599084074:Nat:=0
def tw17670963839671218018:Nat:=0
def tw11362351855975411336:Nat:=0
def tw12751557882847935633:Nat:=0
def tw6540804677467537855:Nat:=0
def tw12143573274490283551:Nat:=0
def tw18056027309345655201:Nat:=0
def tw9763159413447379544:Nat:=0
def tw14412026033858915585:Nat:=0
def tw3005421122792509164:Nat:=0
def tw13765338817815693215:Nat:=0
def tw13002693429902699060:Nat:=0
def tw2049401993067304554:Nat:=0
def tw2531607626107878447:Nat:=0
end PySem.W.Fast
namespace L2
open PySem PySem.Spec PyProof.Rows
abbrev Key:=Sum Int Str
def oq:Key→Value→Bool
 | .inl k,v=>Value.isInt k v
 | .inr x,v=>Value.isStrOf x v
def Ei (w:World):Key→Int
 | .inl k=>hashInt k
 | .inr x=>hashStr w x
theorem bX:∀ {k:Key} {v:Value},oq k v=true→(∃ i t,k=Sum.inl i∧v=Value.int i t)∨(∃ x t,k=Sum.inr x∧v=Value.str x t)
 | .inl i,v,h=>by
  obtain ⟨t,e⟩:=Value.isInt_shape (k:=i) (v:=v) h
  exact .inl ⟨i,t,rfl,e⟩
 | .inr x,v,h=>by
  obtain ⟨t,e⟩:=Value.isStrOf_shape (x:=x) (v:=v) h
  exact .inr ⟨x,t,rfl,e⟩
theorem vF (i:Int) (t:Tok):oq (.inl i) (.int i t)=true:=by simp [oq,Value.isInt]
theorem vR (x:Str) (t:Tok):oq (.inr x) (.str x t)=true:=by simp [oq,Value.isStrOf]
theorem Bv (a b:Int):decide ((Sum.inl a:Key)=Sum.inl b)=(a == b):=by
 by_cases e:a=b
 ·subst e; simp
 ·have h:¬ (Sum.inl a:Key)=Sum.inl b:=fun q=>e (Sum.inl.inj q)
  rw [decide_eq_false h]
  exact (beq_eq_false_iff_ne.mpr e).symm
theorem Ce (a b:Str):decide ((Sum.inr a:Key)=Sum.inr b)=decide (a=b):=by
 by_cases e:a=b
 ·subst e; simp
 ·have h:¬ (Sum.inr a:Key)=Sum.inr b:=fun q=>e (Sum.inr.inj q)
  rw [decide_eq_false h,decide_eq_false e]
theorem Cg (a:Int) (b:Str):decide ((Sum.inl a:Key)=Sum.inr b)=false:=decide_eq_false (fun q=>nomatch q)
theorem BB (a:Str) (b:Int):decide ((Sum.inr a:Key)=Sum.inl b)=false:=decide_eq_false (fun q=>nomatch q)
def bH (prog:Program) (w:World):PySem.KeyKind prog w Key where
 is:=oq
 hash:=Ei w
 inj:=fun v a b ha hb=>by
  rcases bX ha with ⟨i,t,rfl,rfl⟩ | ⟨x,t,rfl,rfl⟩
  ·rcases bX hb with ⟨j,u,rfl,e⟩ | ⟨y,u,rfl,e⟩
   ·injection e with e1 _; rw [e1]
   ·exact nomatch e
  ·rcases bX hb with ⟨j,u,rfl,e⟩ | ⟨y,u,rfl,e⟩
   ·exact nomatch e
   ·injection e with e1 _; rw [e1]
 byValue:=fun k v h=>by
  rcases bX h with ⟨i,t,rfl,rfl⟩ | ⟨x,t,rfl,rfl⟩ <;> rfl
 pyHash:=fun hv h=>by
  rcases bX hv with ⟨i,t,rfl,rfl⟩ | ⟨x,t,rfl,rfl⟩
  ·exact wpAny_pyHash_int h
  ·exact wpAny_pyHash_str h
 eqBool:=fun hu hv h=>by
  rcases bX hu with ⟨i,t,rfl,rfl⟩ | ⟨x,t,rfl,rfl⟩
  ·rcases bX hv with ⟨j,u,rfl,rfl⟩ | ⟨y,u,rfl,rfl⟩
   ·rw [Bv] at h; exact wpAny_eqBool_int h
   ·rw [Cg] at h; exact SeqAt.EqAt.int_str i t y u _ _ _ _ h
  ·rcases bX hv with ⟨j,u,rfl,rfl⟩ | ⟨y,u,rfl,rfl⟩
   ·rw [BB] at h; exact SeqAt.EqAt.str_int x t j u _ _ _ _ h
   ·rw [Ce] at h; exact wpAny_eqBool_str h
 «strs»:=fun k x t v h=>by
  rcases bX h with ⟨i,u,rfl,e⟩ | ⟨y,u,rfl,e⟩
  ·exact nomatch e
  ·injection e with e1 _
   subst e1
   cases v <;> rfl
theorem qL (prog:Program) (w:World) (i:Int) (t:Tok):(bH prog w).is (.inl i) (.int i t)=true:=vF i t
theorem kf (prog:Program) (w:World) (x:Str) (t:Tok):(bH prog w).is (.inr x) (.str x t)=true:=vR x t
end L2
namespace L2
open PySem PySem.Spec PyProof.Rows
inductive V where
 | non | bl (b:Bool) | int (i:Int) | str (x:Str) | byt (b:Array UInt8) | flt (b:UInt64) | ref (a:Addr) | ty (n:String)
 deriving DecidableEq
def RelV:V→Value→Prop
 | .non,u=>u=Value.none
 | .bl b,u=>u=Value.bool b
 | .int i,u=>∃ t,u=Value.int i t
 | .str x,u=>∃ t,u=Value.str x t
 | .byt b,u=>∃ t,u=Value.bytes b t
 | .flt b,u=>∃ t,u=Value.float b t
 | .ref a,u=>u=Value.ref a
 | .ty n,u=>u=Value.type n
abbrev Vals:List V→List Value→Prop:=Paired RelV
theorem Vals.length {xs:List V} {us:List Value} (r:Vals xs us):xs.length=us.length:=Paired.length r
theorem Vals.get:∀ {xs:List V} {us:List Value} {i:Nat} {x:V},Vals xs us→xs[i]?=some x→∃ u,us[i]?=some u∧RelV x u
 | _,_,_,_,.nil,e=>by simp at e
 | _,_,0,_,.cons r _,e=>by simp at e; subst e; exact ⟨_,rfl,r⟩
 | _,_,i+1,x,.cons _ t,e=>by
  obtain ⟨u,h1,h2⟩:=Vals.get (i:=i) (x:=x) t (by simpa using e)
  exact ⟨u,by simpa using h1,h2⟩
theorem Vals.set {x:V} {u:Value} (r:RelV x u):∀ {xs:List V} {us:List Value} (i:Nat),Vals xs us→Vals (xs.set i x) (us.set i u)
 | _,_,_,.nil=>.nil
 | _,_,0,.cons _ t=>.cons r t
 | _,_,i+1,.cons q t=>.cons q (Vals.set r i t)
theorem Vals.append:∀ {xs ys:List V} {us ws:List Value},Vals xs us→Vals ys ws→Vals (xs++ys) (us++ws)
 | _,_,_,_,.nil,s=>s
 | _,_,_,_,.cons r t,s=>.cons r (Vals.append t s)
theorem Vals.take:∀ {xs:List V} {us:List Value} (n:Nat),Vals xs us→Vals (xs.take n) (us.take n)
 | _,_,0,_=>.nil
 | _,_,_+1,.nil=>.nil
 | _,_,n+1,.cons r t=>.cons r (Vals.take n t)
theorem Vals.drop:∀ {xs:List V} {us:List Value} (n:Nat),Vals xs us→Vals (xs.drop n) (us.drop n)
 | _,_,0,r=>r
 | _,_,_+1,.nil=>.nil
 | _,_,n+1,.cons _ t=>Vals.drop n t
def RelO:Option V→Option Value→Prop
 | some v,some u=>RelV v u
 | none,none=>True
 | _,_=>False
def KV {κ:Type}:List (κ×V)→List (κ×Value)→Prop:=Paired fun (p:κ×V) (q:κ×Value)=>p.1=q.1∧RelV p.2 q.2
def kV:Key→V
 | .inl i=>.int i
 | .inr x=>.str x
inductive HO where
 | lst (xs:List V)
 | tup (xs:List V)
 | dK (kvs:List (Key×V)) | dT (kvs:List (List Key×V))
 | set (S:Int→Bool) (n:Nat)
 | ins (C dx:Addr) (fs:List (Str×V))
 | own (x:Addr)
 | xd (fs:List (Str×V))
 | met (f x:Addr)
 | rng (lo hi:Int)
 | frz (o:Obj) (u:HO)
 | tbl (ps:Array Value)
 | ext (φ:Heap→Prop)
abbrev Hp:=Addr→Option HO
def upd (H:Hp) (a:Addr) (o:HO):Hp:=fun b=>if b=a then some o else H b
theorem ah {H:Hp} {a:Addr} {o:HO}:upd H a o a=some o:=by unfold upd; rw [if_pos rfl]
theorem aC {H:Hp} {a b:Addr} {o:HO} (h:b≠a):upd H a o b=H b:=by unfold upd; rw [if_neg h]
theorem iH {H:Hp} {a b:Addr} {o u:HO} (h:H a=some o) (h':H b=some u) (d:o≠u):a≠b:=by
 intro e; subst e; rw [h] at h'; exact d (Option.some.inj h')
theorem aM {H:Hp} {a b:Addr} {o:HO} (h:H a=some o) (h':H b=none):a≠b:=by
 intro e; subst e; rw [h] at h'; cases h'
section
variable (P:Program) (w:World)
def ObjOk (H:Hp) (h:Heap) (a:Addr):HO→Prop
 | .lst xs=>xs.length≤sizeLine∧∃ (its:List Value) (n:Nat),Vals xs its∧h.get? a=some { cls:=.type "list",data:=.seq its.toArray n }
 | .tup xs=>xs.length≤sizeLine∧∃ its:List Value,Vals xs its∧IsTup h a its.toArray
 | .dK kvs=>kvs.length≤sizeLine∧(a == sysModules)=false∧∃ vs,KV kvs vs∧h.DictOf (bH P w) a vs
 | .dT kvs=>kvs.length≤sizeLine∧(a == sysModules)=false∧∃ xs:List (List Key×Addr×Value),
   Paired (fun (p:List Key×V) (q:List Key×Addr×Value)=>p.1=q.1∧H q.2.1=some (.tup (p.1.map kV))∧RelV p.2 q.2.2) kvs xs∧
   ∃ o es ep,h.get? a=some o∧o.ExactDict∧o.data=.dict es ep∧es.toList=xs.map (entryOfKey (tupleKind (bH P w)))∧(xs.map (·.1)).Nodup
 | .set S n=>h.SetOf (intKind P w) a S n
 | .ins C dx fs=>H dx=some (.own a)∧fs.length≤1000∧dx≠a∧h.get? a=some (PySem.W.instObj C dx)∧
   ∃ mA,h.Ns1 dx mA∧(∀ f,RelO (fs.lookup f) (mA f))∧PySem.Within mA (fs.map (·.1))
 | .own _=>∃ o,h.get? a=some o
 | .xd fs=>∃ mA,h.Ns1 a mA∧∀ f,RelO (fs.lookup f) (mA f)
 | .rng lo hi=>∃ t u v,h.get? a=some { cls:=.type "range",data:=.fields #[.int lo t,.int hi u,.int 1 v] }
 | .frz o u=>h.get? a=some o∧ObjOk H h a u
 | .tbl ps=>h.get? a=some { cls:=.none,data:=.fields ps }
 | .met f x=>h.get? a=some (PySem.W.methodObj (.ref f) (.ref x))
 | .ext φ=>φ h∧(∃ o,h.get? a=some o)∧∀ h1 h2:Heap,φ h1→(∀ o,h1.get? a=some o→h2.get? a=some o)→φ h2
def HOk (H:Hp) (h:Heap):Prop:=∀ a o,H a=some o→ObjOk P w H h a o
end
section
variable {P:Program} {w:World} {H H':Hp} {h h':Heap} {a:Addr} {o:HO}
theorem ObjOk.lt (x:ObjOk P w H h a o):a<h.objs.size:=by
 cases o with
 | lst xs=>obtain ⟨_,_,_,_,e⟩:=x; exact Heap.lt_size e
 | tup xs=>obtain ⟨_,_,_,p⟩:=x; exact p.lt
 | dK kvs=>obtain ⟨_,_,_,_,o,_,_,e,_⟩:=x; exact Heap.lt_size e
 | dT kvs=>obtain ⟨_,_,_,_,o,_,_,e,_⟩:=x; exact Heap.lt_size e
 | set S n=>obtain ⟨o,_,_,_,e,_⟩:=x; exact Heap.lt_size e
 | ins C dx fs=>obtain ⟨_,_,_,e,_⟩:=x; exact Heap.lt_size e
 | own y=>obtain ⟨_,e⟩:=x; exact Heap.lt_size e
 | xd fs=>obtain ⟨_,⟨_,_,_,e,_⟩,_⟩:=x; exact Heap.lt_size e
 | rng lo hi=>obtain ⟨_,_,_,e⟩:=x; exact Heap.lt_size e
 | frz ob u=>obtain ⟨e,_⟩:=x; exact Heap.lt_size e
 | tbl ps=>exact Heap.lt_size (show h.get? a=some _ from x)
 | met f y=>exact Heap.lt_size (show h.get? a=some _ from x)
 | ext φ=>obtain ⟨_,⟨_,e⟩,_⟩:=x; exact Heap.lt_size e
theorem Paired.mapP {α β:Type} {F G:α→β→Prop}:∀ {l₁:List α} {l₂:List β},Paired F l₁ l₂→(∀ a b,F a b→G a b)→Paired G l₁ l₂
 | _,_,.nil,_=>.nil
 | _,_,.cons r t,f=>.cons (f _ _ r) (Paired.mapP t f)
theorem ObjOk.stay (x:ObjOk P w H h a o) (k:∀ b u,(b=a∨H b=some (.own a))→h.get? b=some u→h'.get? b=some u)
  (ho:∀ b,H b=some (.own a)→H' b=some (.own a)) (ht:∀ b xs,H b=some (.tup xs)→H' b=some (.tup xs)):ObjOk P w H' h' a o:=by
 induction o with
 | lst xs=>obtain ⟨z,its,n,r,e⟩:=x; exact ⟨z,its,n,r,k _ _ (.inl rfl) e⟩
 | tup xs=>obtain ⟨z,its,r,ob,e,c⟩:=x; exact ⟨z,its,r,ob,k _ _ (.inl rfl) e,c⟩
 | dK kvs=>obtain ⟨z,y,vs,r,ob,es,ep,e,c⟩:=x; exact ⟨z,y,vs,r,ob,es,ep,k _ _ (.inl rfl) e,c⟩
 | dT kvs =>
  obtain ⟨z,y,xs,r,ob,es,ep,e,c⟩:=x
  exact ⟨z,y,xs,Paired.mapP r fun p q z=>⟨z.1,ht _ _ z.2.1,z.2.2⟩,ob,es,ep,k _ _ (.inl rfl) e,c⟩
 | set S n=>obtain ⟨ob,es,ep,t,e,c⟩:=x; exact ⟨ob,es,ep,t,k _ _ (.inl rfl) e,c⟩
 | ins C dx fs =>
  obtain ⟨d,z,ne,e,mA,⟨od,es,ep,e2,c⟩,r⟩:=x
  exact ⟨ho _ d,z,ne,k _ _ (.inl rfl) e,mA,⟨od,es,ep,k _ _ (.inr d) e2,c⟩,r⟩
 | own y=>obtain ⟨ob,e⟩:=x; exact ⟨ob,k _ _ (.inl rfl) e⟩
 | xd fs=>obtain ⟨mA,⟨od,es,ep,e,c⟩,r⟩:=x; exact ⟨mA,⟨od,es,ep,k _ _ (.inl rfl) e,c⟩,r⟩
 | rng lo hi=>obtain ⟨t,u,v,e⟩:=x; exact ⟨t,u,v,k _ _ (.inl rfl) e⟩
 | frz ob u ih=>obtain ⟨e,q⟩:=x; exact ⟨k _ _ (.inl rfl) e,ih q⟩
 | tbl ps =>
  have e:h.get? a=some { cls:=.none,data:=.fields ps }:=x
  show h'.get? a=some { cls:=.none,data:=.fields ps }
  exact k a _ (.inl rfl) e
 | met f y =>
  have e:h.get? a=some (PySem.W.methodObj (.ref f) (.ref y)):=x
  show h'.get? a=some (PySem.W.methodObj (.ref f) (.ref y))
  exact k a _ (.inl rfl) e
 | ext φ=>obtain ⟨p,⟨o,e⟩,st⟩:=x; exact ⟨st _ _ p fun o q=>k _ _ (.inl rfl) q,⟨o,k _ _ (.inl rfl) e⟩,st⟩
theorem HOk.lt (x:HOk P w H h) (e:H a=some o):a<h.objs.size:=(x a o e).lt
theorem HOk.fresh (x:HOk P w H h) (e:h.objs.size≤a):H a=none:=by
 cases q:H a with
 | none=>rfl
 | some u=>exact absurd (Nat.lt_of_lt_of_le (x.lt q) e) (Nat.lt_irrefl _)
theorem HOk.kept (x:HOk P w H h) (k:∀ b u,h.get? b=some u→h'.get? b=some u):HOk P w H h':=fun a o e =>
 (x a o e).stay (fun b u _ q=>k b u q) (fun _ q=>q) fun _ _ q=>q
theorem HOk.laid (x:HOk P w H h) (k:∀ b u,h.get? b=some u→h'.get? b=some u) (hp:h.objs.size≤a) (new:ObjOk P w (upd H a o) h' a o):HOk P w (upd H a o) h':=fun b u e=>by
 have hn:=x.fresh hp
 by_cases hb:b=a
 ·subst hb; rw [ah] at e; cases e; exact new
 ·rw [aC hb] at e
  exact (x b u e).stay (fun c v _ q=>k c v q) (fun c q=>by rw [aC (aM q hn)]; exact q) fun c xs q=>by rw [aC (aM q hn)]; exact q
end
def Rd (H:Hp) (a:Addr) (u:HO):Prop:=H a=some u∨∃ o,H a=some (.frz o u)
theorem Rd.ok {P:Program} {w:World} {H:Hp} {h:Heap} {a:Addr} {u:HO} (r:Rd H a u) (x:HOk P w H h):ObjOk P w H h a u:=by
 rcases r with r | ⟨o,r⟩
 ·exact x a u r
 ·obtain ⟨_,q⟩:=x a _ r
  exact q
def Mut:Option HO→Prop
 | some (.lst _)=>True
 | some (.dK _)=>True
 | some (.dT _)=>True
 | some (.set _ _)=>True
 | some (.ins _ _ _)=>True
 | some (.ext _)=>True
 | _=>False
section
variable {P:Program} {w:World} {H:Hp} {h h':Heap} {x e:Addr} {o':HO}
theorem HOk.write (ok:HOk P w H h) (mu:Mut (H x)) (he:e=x∨H e=some (.own x)) (k:∀ b u,b≠e→h.get? b=some u→h'.get? b=some u) (heo:∃ u,h'.get? e=some u)
  (new:ObjOk P w (upd H x o') h' x o'):HOk P w (upd H x o') h':=fun b u q=>by
 have nown:∀ c y,H c=some (.own y)→c≠x:=fun c y r z=>by subst z; rw [r] at mu; exact mu
 have ntup:∀ c xs,H c=some (.tup xs)→c≠x:=fun c xs r z=>by subst z; rw [r] at mu; exact mu
 by_cases hb:b=x
 ·subst hb; rw [ah] at q; cases q; exact new
 ·rw [aC hb] at q
  by_cases hbe:b=e
  ·have q':H b=some (.own x):=by
    rcases he with z | z
    ·exact absurd (hbe.trans z) hb
    ·rw [hbe]; exact z
   rw [q] at q'; cases q'
   obtain ⟨v,hv⟩:=heo
   exact ⟨v,by rw [hbe]; exact hv⟩
  ·refine (ok b u q).stay (fun c v hc r=>k c v ?_ r) (fun c r=>by rw [aC (nown c b r)]; exact r) fun c xs r=>by rw [aC (ntup c xs r)]; exact r
   rcases hc with rfl | hc
   ·exact hbe
   ·rintro rfl
    rcases he with z | z
    ·exact nown c b hc z
    ·rw [hc] at z; cases z; exact hb rfl
end
structure Un (fs ex:List Addr) (H H':Hp) (h h':Heap):Prop where
 keep:∀ b o,h.get? b=some o→H b=none→b∉fs→b∉ex→h'.get? b=some o
 slot:∀ b o,h.get? b=some o→H b=none→b∈fs→b∉ex→∃ sl,h'.get? b=some { o with slots:=sl }
 free:∀ b o,h.get? b=some o→H b=none→b∉ex→H' b=none
 there:∀ b o,h.get? b=some o→b∉ex→∃ o',h'.get? b=some o'
 tups:∀ b xs,H b=some (.tup xs)→H' b=some (.tup xs)
 frzs:∀ b o u,H b=some (.frz o u)→H' b=some (.frz o u)
 tbls:∀ b ps,H b=some (.tbl ps)→∃ more,H' b=some (.tbl (ps++more))
section
variable {fs fs' ex ex':List Addr} {H H1 H2:Hp} {h h1 h2 h':Heap} {a x e:Addr} {o:HO}
theorem Un.any (u:Un fs ex H H1 h h1) {b:Addr} {ob:Obj} (q:h.get? b=some ob) (n:H b=none) (hx:b∉ex):∃ sl,h1.get? b=some { ob with slots:=sl }:=by
 by_cases hb:b∈fs
 ·exact u.slot b ob q n hb hx
 ·exact ⟨ob.slots,u.keep b ob q n hb hx⟩
theorem Un.kept (k:∀ b u,h.get? b=some u→h'.get? b=some u):Un fs ex H H h h' :=
 ⟨fun b ob q _ _ _=>k b ob q,fun b ob q _ _ _=>⟨ob.slots,k b ob q⟩,fun _ _ _ n _=>n,fun b ob q _=>⟨ob,k b ob q⟩,fun _ _ q=>q,fun _ _ _ q=>q,fun _ ps q=>⟨#[],by rw [q]; simp⟩⟩
theorem Un.refl:Un fs ex H H h h:=Un.kept fun _ _ q=>q
theorem Un.laid (k:∀ b u,h.get? b=some u→h'.get? b=some u) (hp:h.objs.size≤a) (hn:H a=none):Un fs ex H (upd H a o) h h' where
 keep:=fun b u q _ _ _=>k b u q
 slot:=fun b u q _ _ _=>⟨u.slots,k b u q⟩
 free:=fun b u q n _=>by rw [aC (Nat.ne_of_lt (Nat.lt_of_lt_of_le (Heap.lt_size q) hp))]; exact n
 there:=fun b u q _=>⟨u,k b u q⟩
 tups:=fun b xs q=>by rw [aC (aM q hn)]; exact q
 frzs:=fun b u xs q=>by rw [aC (aM q hn)]; exact q
 tbls:=fun b ps q=>⟨#[],by rw [aC (aM q hn),q]; simp⟩
theorem Un.write (mu:Mut (H x)) (he:e=x∨H e=some (.own x)) (k:∀ b u,b≠e→h.get? b=some u→h'.get? b=some u) (heo:∃ u,h'.get? e=some u):Un fs ex H (upd H x o) h h':=by
 have hx:∀ b,H b=none→b≠x:=fun b n z=>by subst z; rw [n] at mu; exact mu
 have hb:∀ b,H b=none→b≠e:=fun b n z=>by
  subst z
  rcases he with r | r
  ·exact hx b n r
  ·rw [n] at r; cases r
 have hm:∀ b u,H b=some u→¬ Mut (some u)→b≠x:=fun b u q nm z=>by subst z; rw [q] at mu; exact nm mu
 refine ⟨fun b u q n _ _=>k b u (hb b n) q,fun b u q n _ _=>⟨u.slots,k b u (hb b n) q⟩,fun b u q n _=>by rw [aC (hx b n)]; exact n,fun b u q _=>?_,
  fun b xs q=>by rw [aC (hm b _ q fun z=>z)]; exact q,fun b u xs q=>by rw [aC (hm b _ q fun z=>z)]; exact q,fun b ps q=>⟨#[],by rw [aC (hm b _ q fun z=>z),q]; simp⟩⟩
 by_cases hbe:b=e
 ·subst hbe; exact heo
 ·exact ⟨u,k b u hbe q⟩
end
def trk (h:Heap) (H:Hp):List Addr:=(List.range h.objs.size).filter fun a=>(H a).isSome
def oH (h:Heap) (H:Hp):Heap:=PySem.W.hideAll h (trk h H)
theorem va (h:Heap) (H:Hp):(oH h H).objs.size=h.objs.size:=PySem.W.hideAll_size _ _
theorem ze {h:Heap} {H:Hp} {b:Addr} {o:Obj} (e:h.get? b=some o) (n:H b=none):(oH h H).get? b=some o :=
 PySem.W.hideAll_get _ e fun hm=>by
  have q:(H b).isSome=true:=(List.mem_filter.mp hm).2
  rw [n] at q; simp at q
theorem zU {h:Heap} {H:Hp} {b:Addr} {o:Obj} (e:(oH h H).get? b=some o):h.get? b=some o∧H b=none:=by
 have e':h.get? b=some o:=PySem.W.of_hideAll (trk h H) e
 refine ⟨e',?_⟩
 cases q:H b with
 | none=>rfl
 | some x =>
  have hm:b∈trk h H:=List.mem_filter.mpr ⟨List.mem_range.mpr (Heap.lt_size e'),by simp [q]⟩
  have z:(oH h H).get? b=none:=PySem.W.hideAll_none (trk h H) hm
  rw [z] at e; cases e
def zT (g h:Heap) (L:Addr):List (Addr×Obj):=(List.range h.objs.size).filterMap fun a=>if a=L∨(g.get? a).isSome=true then none else (h.get? a).map fun o=>(a,o)
def rest (g h:Heap) (L d:Addr):List (Addr×Obj):=(zT g h L).filter fun p=>decide (p.1≠d)
end L2
namespace L2
open PySem PySem.Spec PyProof.Rows
structure Mod (K:PySem.W.Frag) (mg:Str→Option Value) (base:Heap):Prop where
 kin:K.In base
 glob:base.Ns mainGlobals mg
 blt:∃ mb,base.Ns builtinsNs mb∧∀ x:Str,x≠"__name__"→mb x=bootBuiltins x
 nolimit:base.NoLimit
structure Cx where
 prog:Program
 w:World
 K:PySem.W.Frag
 mg:Str→Option Value
 base:Heap
 A:Around
 N:List Str
 s₀:Shared
 H₀:Hp
 env:Env
 outer:List Env
 stack:List Env
 ex:List Addr
 fn:Str→Bool
 calm:Bool
 pn:List (Addr×Obj)
 xe:Value→Shared→Prop
def frs (l:List Env):List Addr:=l.filterMap (·.frame)
abbrev Cx.fs (X:Cx):List Addr:=frs X.outer
def Vis (sc:Scope) (x:Str):Prop:=sc.names.lookup x=some .local∨sc.names.lookup x=some .cell∨sc.names.lookup x=some .free
def Loc (sc:Scope) (x:Str):Prop:=sc.names.lookup x=some .local∨sc.names.lookup x=some .cell
def Look (env:Env) (h:Heap) (m:Str→Option Value) (x:Str) (u:Value):Prop :=
 (env.kindOf x=some .local∧m x=some u)∨((env.kindOf x=some .cell∨env.kindOf x=some .free)∧∃ c,env.cells.lookup x=some c∧h.IsCell c (some u))
structure Cx.Ok (X:Cx):Prop where
 mod:Mod X.K X.mg X.base
 kind:X.env.scope.kind=.function
 glob:X.env.globals=mainGlobals
 blt:X.env.builtins=builtinsNs
 above:X.s₀.heap.objs.size≤X.env.locals
 inj:∀ x y c,X.env.cells.lookup x=some c→X.env.cells.lookup y=some c→x=y
 has:∀ x,(X.env.kindOf x=some .cell∨X.env.kindOf x=some .free)→∃ c,X.env.cells.lookup x=some c
 cab:∀ x c,X.fn x=true→X.env.cells.lookup x=some c→X.s₀.heap.objs.size≤c
 hd:X.calm=true→X.A.handled=none
 frames:X.A.frames=some X.stack
 stk:X.stack=X.outer∨(X.stack=X.env::X.outer∧X.env.frame=some X.env.locals)
 exf:∀ b∈X.ex,b≠X.env.locals∧∀ x c,X.env.cells.lookup x=some c→c≠b
 bs:∀ b o,X.base.get? b=some o→X.s₀.heap.get? b=some o∧X.H₀ b=none
 bsz:X.base.objs.size≤X.s₀.heap.objs.size
 noex:∀ b o,X.base.get? b=some o→b∉X.ex
 exfs:∀ b∈X.ex,b∉X.fs
 funs:X.s₀.heap.FunFrames X.base X.outer
 frf:∀ b∈X.fs,X.H₀ b=none
structure Inv (X:Cx) (pins:List (Addr×Obj)) (σ:List (Option V)) (H:Hp) (s:Shared):Prop where
 ok:X.Ok
 os:s.os=X.s₀.os
 bare:AllBare s.gens
 base:Un X.fs X.ex X.H₀ H X.s₀.heap s.heap
 loc:∃ m,s.heap.Ns X.env.locals m∧∀ (i:Nat) (x:Str) (v:V),X.N[i]?=some x→σ[i]?=some (some v)→Vis X.env.scope x→∃ u,RelV v u∧Look X.env s.heap m x u
 cell:∀ x c,X.env.cells.lookup x=some c→∃ v,s.heap.IsCell c v
 free:H X.env.locals=none
 freeC:∀ x c,X.env.cells.lookup x=some c→H c=none
 pin:∀ p∈X.pn++pins,s.heap.get? p.1=some p.2∧H p.1=none∧p.1≠X.env.locals∧p.1∉X.fs∧∀ v,p.2.data≠.cell v
 hok:HOk X.prog X.w H s.heap
 len:σ.length=X.N.length
section
variable {X:Cx} {pins:List (Addr×Obj)} {σ:List (Option V)} {H H':Hp} {s:Shared} {h':Heap}
theorem Cx.Ok.nofr (ok:X.Ok) {b:Addr} {o:Obj} (e:X.base.get? b=some o):b∉X.fs:=fun hb=>by
 have:=(ok.funs.mem hb).1
 rw [e] at this; cases this
theorem Inv.bs (I:Inv X pins σ H s):∀ b o,X.base.get? b=some o→s.heap.get? b=some o∧H b=none:=fun b o e =>
 ⟨I.base.keep b o (I.ok.bs b o e).1 (I.ok.bs b o e).2 (I.ok.nofr e) (I.ok.noex b o e),I.base.free b o (I.ok.bs b o e).1 (I.ok.bs b o e).2 (I.ok.noex b o e)⟩
theorem Inv.bk (I:Inv X pins σ H s):∀ b o,X.base.get? b=some o→s.heap.get? b=some o:=fun b o e=>(I.bs b o e).1
theorem Inv.mod (I:Inv X pins σ H s):Mod X.K X.mg X.base:=I.ok.mod
theorem Inv.kIn (I:Inv X pins σ H s):X.K.In s.heap:=I.ok.mod.kin.keeps I.bk
theorem Inv.fr (I:Inv X pins σ H s):∃ m,Fr X.base X.env.locals s.heap m :=
 let ⟨m,hn,_⟩:=I.loc
 ⟨m,hn,I.bk,Nat.le_trans I.ok.bsz I.ok.above⟩
theorem Inv.lt (I:Inv X pins σ H s):X.env.locals<s.heap.objs.size:=let ⟨_,hn,_⟩:=I.loc; hn.lt
theorem Inv.sz (I:Inv X pins σ H s):X.s₀.heap.objs.size≤s.heap.objs.size:=Nat.le_trans I.ok.above (Nat.le_of_lt I.lt)
theorem Inv.nofs (I:Inv X pins σ H s) {a:Addr} (h:s.heap.objs.size≤a):a∉X.fs:=fun hb=>by
 obtain ⟨_,o,ho,_⟩:=I.ok.funs.mem hb
 exact absurd (Nat.lt_of_lt_of_le (Heap.lt_size ho) (Nat.le_trans I.sz h)) (Nat.lt_irrefl _)
theorem Inv.cne (I:Inv X pins σ H s):∀ x c,X.env.cells.lookup x=some c→c≠X.env.locals:=fun x c e z=>by
 obtain ⟨v,o,ho,hd⟩:=I.cell x c e
 obtain ⟨m,⟨o',es,ep,ho',hd',_⟩,_⟩:=I.loc
 rw [z,ho'] at ho; cases ho; rw [hd'] at hd; cases hd
theorem Inv.funs (I:Inv X pins σ H s):s.heap.FunFrames X.base X.outer:=by
 have all:∀ (l:List Env),(∀ b∈frs l,b∈X.fs)→X.s₀.heap.FunFrames X.base l→s.heap.FunFrames X.base l:=by
  intro l
  induction l with
  | nil=>intro _ _; trivial
  | cons env r ih =>
   intro hs hl
   obtain ⟨hk,⟨L,o,hf,hn,ho,hd⟩,hr⟩:=hl
   have hL:L∈X.fs:=hs L (by unfold frs; rw [List.filterMap_cons,hf]; exact List.mem_cons_self)
   obtain ⟨sl,e⟩:=I.base.slot L o ho (I.ok.frf L hL) hL fun z=>I.ok.exfs L z hL
   exact ⟨hk,⟨L,_,hf,hn,e,hd⟩,ih (fun b hb=>hs b (by unfold frs; rw [List.filterMap_cons,hf]; exact List.mem_cons_of_mem _ hb)) hr⟩
 exact all X.outer (fun _ hb=>hb) I.ok.funs
theorem Inv.stack (I:Inv X pins σ H s):s.heap.FunFrames X.base X.stack:=by
 rcases I.ok.stk with e | ⟨e,hf⟩
 ·rw [e]; exact I.funs
 ·rw [e]
  obtain ⟨m,hn,_⟩:=I.loc
  refine .cons (by rw [I.ok.kind]; decide) hf hn ?_ I.funs
  exact Heap.get?_none_of_le (Nat.le_trans I.ok.bsz I.ok.above)
theorem Inv.stkSub (I:Inv X pins σ H s):∀ b∈frs X.stack,b∈X.env.locals::X.fs:=fun b hb=>by
 rcases I.ok.stk with e | ⟨e,hf⟩
 ·rw [e] at hb; exact List.mem_cons_of_mem _ hb
 ·rw [e] at hb
  unfold frs at hb
  rw [List.filterMap_cons,hf] at hb
  exact hb
theorem Inv.stkFree (I:Inv X pins σ H s):∀ b∈frs X.stack,H b=none:=fun b hb=>by
 rcases List.mem_cons.mp (I.stkSub b hb) with e | hb
 ·rw [e]; exact I.free
 ·obtain ⟨_,o,ho,_⟩:=I.ok.funs.mem hb
  exact I.base.free b o ho (I.ok.frf b hb) fun z=>I.ok.exfs b z hb
theorem Inv.step {g':Array GenState} {t':Nat} {d':Drawn} {ch:List Addr} (I:Inv X pins σ H s)
  (hch:∀ b∈ch,(b∈X.ex∨X.s₀.heap.objs.size≤b)∧b≠X.env.locals∧(∀ x c,X.env.cells.lookup x=some c→c≠b)∧∀ p∈X.pn++pins,p.1≠b)
  (keep:∀ b o,b≠X.env.locals→b∉X.fs→b∉ch→s.heap.get? b=some o→H b=none→h'.get? b=some o)
  (slot:∀ b o,b≠X.env.locals→b∈X.fs→b∉ch→s.heap.get? b=some o→H b=none→∃ sl,h'.get? b=some { o with slots:=sl }) (free:∀ b o,b∉ch→s.heap.get? b=some o→H b=none→H' b=none)
  (there:∀ b o,b∉ch→s.heap.get? b=some o→∃ o',h'.get? b=some o')
  (tups:∀ b xs,H b=some (.tup xs)→H' b=some (.tup xs)) (frzs:∀ b o u,H b=some (.frz o u)→H' b=some (.frz o u)) (tbls:∀ b ps,H b=some (.tbl ps)→∃ more,H' b=some (.tbl (ps++more)))
  (ns:∀ m,s.heap.Ns X.env.locals m→h'.Ns X.env.locals m) (hok:HOk X.prog X.w H' h') (hg:AllBare g') :
  Inv X pins σ H' { s with heap:=h',gens:=g',drawn:=d',toks:=t' }:=by
 have neL:∀ b o,X.s₀.heap.get? b=some o→b≠X.env.locals:=fun b o e=>Nat.ne_of_lt (Nat.lt_of_lt_of_le (Heap.lt_size e) I.ok.above)
 have neC:∀ b o,X.s₀.heap.get? b=some o→b∉X.ex→b∉ch:=fun b o e hx hb=>by
  rcases (hch b hb).1 with z | z
  ·exact hx z
  ·exact absurd (Nat.lt_of_lt_of_le (Heap.lt_size e) z) (Nat.lt_irrefl _)
 have cellK:∀ x c,X.env.cells.lookup x=some c→∀ v,s.heap.IsCell c v→h'.IsCell c v:=fun x c e v ⟨o,ho,hd⟩=>by
  have nch:c∉ch:=fun z=>(hch c z).2.2.1 x c e rfl
  by_cases hc:c∈X.fs
  ·obtain ⟨sl,q⟩:=slot c o (I.cne x c e) hc nch ho (I.freeC x c e)
   exact ⟨_,q,hd⟩
  ·exact ⟨o,keep c o (I.cne x c e) hc nch ho (I.freeC x c e),hd⟩
 refine ⟨I.ok,I.os,hg,⟨fun b o e n hb hx=>?_,fun b o e n hb hx=>?_,fun b o e n hx=>?_,fun b o e hx=>?_,fun b xs e=>tups b xs (I.base.tups b xs e),fun b o xs e=>frzs b o xs (I.base.frzs b o xs e),fun b ps e=>?_⟩,?_,fun x c e=>?_,?_,fun x c e=>?_,fun p hp=>?_,hok,I.len⟩
 ·exact keep b o (neL b o e) hb (neC b o e hx) (I.base.keep b o e n hb hx) (I.base.free b o e n hx)
 ·obtain ⟨sl,e1⟩:=I.base.slot b o e n hb hx
  obtain ⟨sl',e2⟩:=slot b _ (neL b o e) hb (neC b o e hx) e1 (I.base.free b o e n hx)
  exact ⟨sl',e2⟩
 ·obtain ⟨o',e1⟩:=I.base.there b o e hx
  exact free b o' (neC b o e hx) e1 (I.base.free b o e n hx)
 ·obtain ⟨o',e1⟩:=I.base.there b o e hx
  exact there b o' (neC b o e hx) e1
 ·obtain ⟨m1,e1⟩:=I.base.tbls b ps e
  obtain ⟨m2,e2⟩:=tbls b _ e1
  exact ⟨m1++m2,by rw [e2,Array.append_assoc]⟩
 ·obtain ⟨m,hn,hl⟩:=I.loc
  refine ⟨m,ns m hn,fun i x v e1 e2 e3=>?_⟩
  obtain ⟨u,r,l⟩:=hl i x v e1 e2 e3
  refine ⟨u,r,?_⟩
  rcases l with l | ⟨k,c,e,z⟩
  ·exact .inl l
  ·exact .inr ⟨k,c,e,cellK x c e _ z⟩
 ·obtain ⟨v,z⟩:=I.cell x c e
  exact ⟨v,cellK x c e v z⟩
 ·obtain ⟨m,⟨o,_,_,ho,_⟩,_⟩:=I.loc
  exact free _ o (fun z=>(hch _ z).2.1 rfl) ho I.free
 ·obtain ⟨v,o,ho,hd⟩:=I.cell x c e
  exact free c o (fun z=>(hch c z).2.2.1 x c e rfl) ho (I.freeC x c e)
 ·obtain ⟨e,n,ne,nf,d⟩:=I.pin p hp
  have nch:p.1∉ch:=fun z=>(hch p.1 z).2.2.2 p hp rfl
  exact ⟨keep p.1 p.2 ne nf nch e n,free p.1 p.2 nch e n,ne,nf,d⟩
theorem Inv.un {t':Nat} (I:Inv X pins σ H s) (u:Un X.fs [] H H' s.heap h') (hok:HOk X.prog X.w H' h'):Inv X pins σ H' { s with heap:=h',toks:=t' }:=by
 obtain ⟨m,⟨o,es,ep,ho,r⟩,_⟩:=id I.loc
 obtain ⟨sl,hL⟩:=u.any ho I.free (by simp)
 exact I.step (g':=s.gens) (d':=s.drawn) (ch:=[]) (fun _ z=>nomatch z) (fun b o _ hb _ e n=>u.keep b o e n hb (by simp)) (fun b o _ hb _ e n=>u.slot b o e n hb (by simp)) (fun b o _ e n=>u.free b o e n (by simp)) (fun b o _ e=>u.there b o e (by simp)) u.tups u.frzs u.tbls (fun m' hm=>by
  obtain ⟨o',es',ep',ho',r'⟩:=hm
  rw [ho] at ho'; cases ho'
  exact ⟨_,es',ep',hL,r'⟩) hok I.bare
theorem Inv.call {g':Array GenState} {t':Nat} {d':Drawn} {ch:List Addr} (I:Inv X pins σ H s) (u:Un (frs X.stack) ch H H' s.heap h') (hok:HOk X.prog X.w H' h') (hg:AllBare g')
  (hch:∀ b∈ch,(b∈X.ex∨X.s₀.heap.objs.size≤b)∧b≠X.env.locals∧(∀ x c,X.env.cells.lookup x=some c→c≠b)∧∀ p∈X.pn++pins,p.1≠b) :
  Inv X pins σ H' { s with heap:=h',gens:=g',drawn:=d',toks:=t' }:=by
 obtain ⟨m,⟨o,es,ep,ho,r⟩,_⟩:=id I.loc
 obtain ⟨sl,hL⟩:=u.any ho I.free fun z=>(hch _ z).2.1 rfl
 exact I.step (ch:=ch) hch (fun b o hL hb hc e n=>u.keep b o e n (fun z=>(List.mem_cons.mp (I.stkSub b z)).elim hL hb) hc) (fun b o _ _ hc e n=>u.any e n hc) (fun b o hc e n=>u.free b o e n hc) (fun b o hc e=>u.there b o e hc) u.tups u.frzs u.tbls (fun m' hm=>by
  obtain ⟨o',es',ep',ho',r'⟩:=hm
  rw [ho] at ho'; cases ho'
  exact ⟨_,es',ep',hL,r'⟩) hok hg
theorem Inv.turned {t':Nat} {it:Addr} (I:Inv X pins σ H s) (k:∀ b o,b≠it→s.heap.get? b=some o→h'.get? b=some o) (hn:H it=none) (hL:it≠X.env.locals)
  (h1:it∈X.ex∨X.s₀.heap.objs.size≤it) (h2:∀ x c,X.env.cells.lookup x=some c→c≠it) (h3:∀ p∈X.pn++pins,p.1≠it):Inv X pins σ H { s with heap:=h',toks:=t' }:=by
 have nit:∀ b u,H b=some u→b≠it:=fun b u e z=>by rw [z,hn] at e; cases e
 refine I.step (g':=s.gens) (d':=s.drawn) (ch:=[it]) (fun b hb=>?_) (fun b o _ _ hc e _=>k b o (fun z=>hc (by simp [z])) e) (fun b o _ _ hc e _=>⟨o.slots,k b o (fun z=>hc (by simp [z])) e⟩) (fun _ _ _ _ n=>n)
  (fun b o hc e=>⟨o,k b o (fun z=>hc (by simp [z])) e⟩) (fun _ _ e=>e) (fun _ _ _ e=>e) (fun b ps e=>⟨#[],by rw [e]; simp⟩) (fun m hm=>?_) (fun b u e=>?_) I.bare
 ·have e:b=it:=by simpa using hb
  subst e
  exact ⟨h1,hL,h2,h3⟩
 ·obtain ⟨o,es,ep,ho,r⟩:=hm
  exact ⟨o,es,ep,k _ o (Ne.symm hL) ho,r⟩
 ·refine (I.hok b u e).stay (fun c v hc q=>k c v ?_ q) (fun _ q=>q) fun _ _ q=>q
  rcases hc with z | z
  ·rw [z]; exact nit b u e
  ·exact nit c _ z
theorem Inv.tok (I:Inv X pins σ H s) (t:Nat):Inv X pins σ H { s with toks:=t }:=I.un (h':=s.heap) (t':=t) Un.refl I.hok
theorem Inv.kept {t':Nat} (I:Inv X pins σ H s) (k:∀ b u,s.heap.get? b=some u→h'.get? b=some u):Inv X pins σ H { s with heap:=h',toks:=t' }:=I.un (Un.kept k) (I.hok.kept k)
theorem Inv.laid {a:Addr} {o:HO} {t':Nat} (I:Inv X pins σ H s) (k:∀ b u,s.heap.get? b=some u→h'.get? b=some u) (hp:s.heap.objs.size≤a) (new:ObjOk X.prog X.w (upd H a o) h' a o) :
  Inv X pins σ (upd H a o) { s with heap:=h',toks:=t' }:=I.un (Un.laid k hp (I.hok.fresh hp)) (I.hok.laid k hp new)
theorem Inv.write {x e:Addr} {o:HO} {t':Nat} (I:Inv X pins σ H s) (mu:Mut (H x)) (he:e=x∨H e=some (.own x)) (k:∀ b u,b≠e→s.heap.get? b=some u→h'.get? b=some u) (heo:∃ u,h'.get? e=some u)
  (new:ObjOk X.prog X.w (upd H x o) h' x o):Inv X pins σ (upd H x o) { s with heap:=h',toks:=t' }:=I.un (Un.write mu he k heo) (I.hok.write mu he k heo new)
theorem Inv.weak {σ':List (Option V)} (I:Inv X pins σ H s) (hl:σ'.length=σ.length) (w:∀ (i:Nat) v,σ'[i]?=some (some v)→σ[i]?=some (some v)):Inv X pins σ' H s :=
 ⟨I.ok,I.os,I.bare,I.base,let ⟨m,hn,hl'⟩:=I.loc; ⟨m,hn,fun i x v e1 e2 e3=>hl' i x v e1 (w i v e2) e3⟩,I.cell,I.free,I.freeC,I.pin,I.hok,hl.trans I.len⟩
theorem Inv.pins_of {pins':List (Addr×Obj)} (I:Inv X pins σ H s) (h:∀ p∈pins',s.heap.get? p.1=some p.2∧H p.1=none∧p.1≠X.env.locals∧p.1∉X.fs∧∀ v,p.2.data≠.cell v):Inv X pins' σ H s :=
 ⟨I.ok,I.os,I.bare,I.base,I.loc,I.cell,I.free,I.freeC,fun p hp=>(List.mem_append.mp hp).elim (fun z=>I.pin p (List.mem_append_left _ z)) (h p),I.hok,I.len⟩
theorem qK {N:List Str} (hN:N.Nodup) {i j:Nat} {x:Str} (a:N[i]?=some x) (b:N[j]?=some x):i=j:=by
 obtain ⟨h1,e1⟩:=List.getElem?_eq_some_iff.mp a
 obtain ⟨h2,e2⟩:=List.getElem?_eq_some_iff.mp b
 exact (List.getElem_inj hN).mp (e1.trans e2.symm)
theorem uU {M:Model} {A:Around} {E:Value→Shared→Prop} {i:Nat} {x:Str} {v:V} {u:Value} {Q:Unit→Shared→Prop} (I:Inv X pins σ H s) (hN:X.N.Nodup) (hi:X.N[i]?=some x) (hx:Loc X.env.scope x) (r:RelV v u)
  (h:∀ s',Inv X pins (σ.set i (some v)) H s'→(∃ a,Heap.SameBut a s.heap s'.heap∧(a=X.env.locals∨X.env.cells.lookup x=some a))→Q () s') (hf:X.fn x=true∨X.env.scope.names.lookup x=some .local:=by first | exact .inl rfl | exact .inr rfl | assumption):wpAny M A (storeName X.env x u) Q E s:=by
 obtain ⟨m,hn,hl⟩:=id I.loc
 have hcls:(X.env.scope.kind == .class || (X.env.scope.kind == .module && X.env.locals != X.env.globals))=false:=by rw [I.ok.kind]; rfl
 have hiσ:i<σ.length:=by rw [I.len]; exact (List.getElem?_eq_some_iff.mp hi).1
 have cne:=I.cne
 have tracked:∀ {a:Addr} {h':Heap},(∃ o,s.heap.get? a=some o∧H a=none)→Heap.SameBut a s.heap h'→HOk X.prog X.w H h':=fun {a h'} ha hs b ob e=>by
  obtain ⟨_,_,hfree⟩:=ha
  refine (I.hok b ob e).stay (fun c w' hc q=>(hs.2 c ?_).trans q) (fun _ q=>q) fun _ _ q=>q
  rintro rfl
  rcases hc with rfl | hc
  ·rw [hfree] at e; cases e
  ·rw [hfree] at hc; cases hc
 rcases hx with hk | hk
 ·refine wpAny_storeName_local hk hn (fun h' hn' hs=>?_) hcls
  obtain ⟨oL,_,_,hoL,_⟩:=id hn
  refine h _ ⟨I.ok,I.os,I.bare,⟨fun b o e n hb hx=>?_,fun b o e n hb hx=>?_,I.base.free,fun b o e hx=>?_,I.base.tups,I.base.frzs,I.base.tbls⟩,⟨_,hn',fun j y v' e1 e2 e3=>?_⟩,fun y c e=>?_,I.free,I.freeC,fun p hp=>?_,tracked ⟨oL,hoL,I.free⟩ hs,by simpa using I.len⟩ ⟨_,hs,.inl rfl⟩
  ·exact (hs.2 b (Nat.ne_of_lt (Nat.lt_of_lt_of_le (Heap.lt_size e) I.ok.above))).trans (I.base.keep b o e n hb hx)
  ·obtain ⟨sl,e1⟩:=I.base.slot b o e n hb hx
   exact ⟨sl,(hs.2 b (Nat.ne_of_lt (Nat.lt_of_lt_of_le (Heap.lt_size e) I.ok.above))).trans e1⟩
  ·obtain ⟨o',e1⟩:=I.base.there b o e hx
   exact ⟨o',(hs.2 b (Nat.ne_of_lt (Nat.lt_of_lt_of_le (Heap.lt_size e) I.ok.above))).trans e1⟩
  ·by_cases hj:j=i
   ·subst hj
    rw [hi] at e1; cases e1
    rw [List.getElem?_set_self hiσ] at e2
    cases e2
    exact ⟨u,r,.inl ⟨hk,by simp⟩⟩
   ·rw [List.getElem?_set_ne (Ne.symm hj)] at e2
    obtain ⟨u',r',q⟩:=hl j y v' e1 e2 e3
    refine ⟨u',r',?_⟩
    rcases q with ⟨k,e⟩ | ⟨k,c,e,z⟩
    ·refine .inl ⟨k,?_⟩
     have:y≠x:=fun e=>hj (qK hN e1 (e▸hi))
     simp [this,e]
    ·exact .inr ⟨k,c,e,z.sameBut hs (cne y c e)⟩
  ·obtain ⟨w',z⟩:=I.cell y c e
   exact ⟨w',z.sameBut hs (cne y c e)⟩
  ·obtain ⟨e,n,ne,nf,d⟩:=I.pin p hp
   exact ⟨(hs.2 p.1 ne).trans e,n,ne,nf,d⟩
 ·have hfn:X.fn x=true:=by
   rcases hf with z | z
   ·exact z
   ·rw [z] at hk; cases hk
  obtain ⟨c,hc⟩:=I.ok.has x (.inl hk)
  obtain ⟨w',z⟩:=I.cell x c hc
  refine wpAny_storeName_cell I.ok.kind hk hc z (fun h' hc' hs=>?_)
  obtain ⟨oc,hoc,hocd⟩:=id z
  refine h { s with heap:=h' } ⟨I.ok,I.os,I.bare,⟨fun b o e n hb hx=>?_,fun b o e n hb hx=>?_,I.base.free,fun b o e hx=>?_,I.base.tups,I.base.frzs,I.base.tbls⟩,⟨m,hn.sameBut hs (Ne.symm (cne x c hc)),fun j y v' e1 e2 e3=>?_⟩,fun y c' e=>?_,I.free,I.freeC,fun p hp=>?_,tracked ⟨oc,hoc,I.freeC x c hc⟩ hs,by simpa using I.len⟩ ⟨c,hs,.inr hc⟩
  ·exact (hs.2 b (Nat.ne_of_lt (Nat.lt_of_lt_of_le (Heap.lt_size e) (I.ok.cab x c hfn hc)))).trans (I.base.keep b o e n hb hx)
  ·obtain ⟨sl,e1⟩:=I.base.slot b o e n hb hx
   exact ⟨sl,(hs.2 b (Nat.ne_of_lt (Nat.lt_of_lt_of_le (Heap.lt_size e) (I.ok.cab x c hfn hc)))).trans e1⟩
  ·obtain ⟨o',e1⟩:=I.base.there b o e hx
   exact ⟨o',(hs.2 b (Nat.ne_of_lt (Nat.lt_of_lt_of_le (Heap.lt_size e) (I.ok.cab x c hfn hc)))).trans e1⟩
  ·by_cases hj:j=i
   ·subst hj
    rw [hi] at e1; cases e1
    rw [List.getElem?_set_self hiσ] at e2
    cases e2
    exact ⟨u,r,.inr ⟨.inl hk,c,hc,hc'⟩⟩
   ·rw [List.getElem?_set_ne (Ne.symm hj)] at e2
    obtain ⟨u',r',q⟩:=hl j y v' e1 e2 e3
    refine ⟨u',r',?_⟩
    rcases q with q | ⟨k,c',e,z'⟩
    ·exact .inl q
    ·refine .inr ⟨k,c',e,z'.sameBut hs ?_⟩
     rintro rfl
     exact hj (qK hN e1 (I.ok.inj _ _ _ e hc▸hi))
  ·by_cases hcc:c'=c
   ·subst hcc; exact ⟨_,hc'⟩
   ·obtain ⟨w2,z2⟩:=I.cell y c' e
    exact ⟨w2,z2.sameBut hs hcc⟩
  ·obtain ⟨e,n,ne,nf,d⟩:=I.pin p hp
   refine ⟨(hs.2 p.1 ?_).trans e,n,ne,nf,d⟩
   intro q
   rw [q,hoc] at e
   have q':oc=p.2:=Option.some.inj e
   exact d w' (by rw [← q']; exact hocd)
theorem rB {M:Model} {A:Around} {E:Value→Shared→Prop} {i:Nat} {x:Str} {v:V} {u:Value} {Q:Unit→Shared→Prop} (I:Inv X pins σ H s) (hN:X.N.Nodup) (hi:X.N[i]?=some x) (hx:Loc X.env.scope x) (r:RelV v u)
  (h:∀ s',Inv X pins (σ.set i (some v)) H s'→Q () s') (hf:X.fn x=true∨X.env.scope.names.lookup x=some .local:=by first | exact .inl rfl | exact .inr rfl | assumption):wpAny M A (storeName X.env x u) Q E s :=
 uU I hN hi hx r (fun s' I' _=>h s' I') hf
theorem Inv.call' {s':Shared} {ch:List Addr} (I:Inv X pins σ H s) (ho:s'.os=s.os) (u:Un (frs X.stack) ch H H' s.heap s'.heap) (hok:HOk X.prog X.w H' s'.heap) (hg:AllBare s'.gens)
  (hch:∀ b∈ch,(b∈X.ex∨X.s₀.heap.objs.size≤b)∧b≠X.env.locals∧(∀ x c,X.env.cells.lookup x=some c→c≠b)∧∀ p∈X.pn++pins,p.1≠b):Inv X pins σ H' s':=by
 obtain ⟨h',g',d',t',o'⟩:=s'
 have e:o'=s.os:=ho
 subst e
 exact I.call (g':=g') (t':=t') (d':=d') u hok hg hch
end
abbrev XK:=Value→Option Addr→Hp→Prop
abbrev St:=List (Option V)
abbrev VK:=V→Hp→Prop
abbrev TE:=St→Hp→VK→Prop
abbrev TT:=St→Hp→(Bool→Hp→Prop)→Prop
abbrev TA:=St→Hp→(List V→Hp→Prop)→Prop
structure Ends where
 nx:St→Hp→Prop
 rt:VK
 bk:St→Hp→Prop:=fun _ _=>False
 ct:St→Hp→Prop:=fun _ _=>False
abbrev TS:=Ends→St→Hp→Prop
def EP (X:Cx) (pins:List (Addr×Obj)) (σ:St) (Q:VK) (u:Value) (s':Shared):Prop:=∃ v H',Inv X pins σ H' s'∧RelV v u∧Q v H'
def TP (X:Cx) (pins:List (Addr×Obj)) (σ:St) (Q:Bool→Hp→Prop) (b:Bool) (s':Shared):Prop:=∃ H',Inv X pins σ H' s'∧Q b H'
def AP (X:Cx) (pins:List (Addr×Obj)) (σ:St) (Q:List V→Hp→Prop) (us:List Value) (s':Shared):Prop:=∃ vs H',Inv X pins σ H' s'∧Vals vs us∧Q vs H'
def SP (X:Cx) (pins:List (Addr×Obj)) (D:Ends) (f:Flow) (s':Shared):Prop :=
 match f with
 | .next=>∃ σ' H',Inv X pins σ' H' s'∧D.nx σ' H'
 | .brk=>∃ σ' H',Inv X pins σ' H' s'∧D.bk σ' H'
 | .cont=>∃ σ' H',Inv X pins σ' H' s'∧D.ct σ' H'
 | .ret u=>∃ v σ' H',Inv X pins σ' H' s'∧RelV v u∧D.rt v H'
def PE (X:Cx) (e:Expr) (t:TE):Prop :=
 ∀ (pins:List (Addr×Obj)) (s:Shared) (σ:St) (H:Hp) (Q:VK),Inv X pins σ H s→t σ H Q→wpAny (model X.prog X.w) X.A (eval e X.env) (EP X pins σ Q) X.xe s
def PT (X:Cx) (e:Expr) (t:TT):Prop :=
 ∀ (pins:List (Addr×Obj)) (s:Shared) (σ:St) (H:Hp) (Q:Bool→Hp→Prop),Inv X pins σ H s→t σ H Q→wpAny (model X.prog X.w) X.A (isTrue e X.env (eval e X.env)) (TP X pins σ Q) X.xe s
def PW (X:Cx) (e:Expr) (t:TT):Prop :=
 ∀ (whole:Sem Value) (pins:List (Addr×Obj)) (s:Shared) (σ:St) (H:Hp) (Q:Bool→Hp→Prop),Inv X pins σ H s→t σ H Q→wpAny (model X.prog X.w) X.A (isTrue e X.env whole) (TP X pins σ Q) X.xe s
theorem PW.pt {X:Cx} {e:Expr} {t:TT} (h:PW X e t):PT X e t:=h _
def PA (X:Cx) (es:List Expr) (t:TA):Prop :=
 ∀ (pos:Pos) (pins:List (Addr×Obj)) (s:Shared) (σ:St) (H:Hp) (Q:List V→Hp→Prop),Inv X pins σ H s→t σ H Q→wpAny (model X.prog X.w) X.A (spliced (backTo pos (starEach es X.env))) (AP X pins σ Q) X.xe s
def PS (X:Cx) (st:Stmt) (t:TS):Prop :=
 ∀ (pins:List (Addr×Obj)) (s:Shared) (σ:St) (H:Hp) (D:Ends),Inv X pins σ H s→t D σ H→wpAny (model X.prog X.w) X.A (exec st X.env) (SP X pins D) X.xe s
def PSs (X:Cx) (st:List Stmt) (t:TS):Prop :=
 ∀ (pins:List (Addr×Obj)) (s:Shared) (σ:St) (H:Hp) (D:Ends),Inv X pins σ H s→t D σ H→wpAny (model X.prog X.w) X.A (execs st X.env) (SP X pins D) X.xe s
theorem thn {α:Type} {t:Sem α} {Q Q':α→Shared→Prop} {M:Model} {A:Around} {E:Value→Shared→Prop} {s:Shared} (h:wpAny M A t Q E s) (hQ:∀ a s,Q a s→Q' a s):wpAny M A t Q' E s:=wpAny_mono h hQ fun _ _ x=>x
end L2
namespace L2
open PySem PySem.Spec PyProof.Rows
section
variable {X:Cx}
theorem bin {a b:Expr} {ta tb:TE} (ha:PE X a ta) (hb:PE X b tb) {pins:List (Addr×Obj)} {s:Shared} {σ:St} {H:Hp} {R:V→V→Hp→Prop} (I:Inv X pins σ H s) (h:ta σ H fun x H1=>tb σ H1 fun y H2=>R x y H2)
  {α:Type} {Q:α→Shared→Prop} {f:Value→Value→Sem α}
  (hf:∀ v u s2 x y H2,Inv X pins σ H2 s2→RelV x v→RelV y u→R x y H2→wpAny (model X.prog X.w) X.A (f v u) Q X.xe s2) :
  wpAny (model X.prog X.w) X.A (eval a X.env) (fun v s₁=>wpAny (model X.prog X.w) X.A (eval b X.env) (fun u s₂=>wpAny (model X.prog X.w) X.A (f v u) Q X.xe s₂) X.xe s₁) X.xe s:=by
 refine thn (ha pins s σ H _ I h) fun v s1 ⟨x,H1,I1,r1,q1⟩=>?_
 refine thn (hb pins s1 σ H1 _ I1 q1) fun u s2 ⟨y,H2,I2,r2,q2⟩=>?_
 exact hf v u s2 x y H2 I2 r1 r2 q2
def DB (i:Nat):TE:=fun σ H Q=>∃ v,σ[i]?=some (some v)∧Q v H
def tC (v:V):TE:=fun _ H Q=>Q v H
theorem Bu {i:Nat} {x:Str} {pos:Pos} (hN:X.N[i]?=some x) (hv:Vis X.env.scope x) (hd:(x == ("__debug__":Str))=false:=by decide) (hcd:(x == ("__classdict__":Str))=false:=by decide):PE X (.Name x pos) (DB i):=by
 intro pins s σ H Q I h
 obtain ⟨v,e,h⟩:=h
 obtain ⟨m,hn,hl⟩:=I.loc
 obtain ⟨u,r,l⟩:=hl i x v hN e hv
 have fin:EP X pins σ Q u s:=⟨v,H,I,r,h⟩
 rcases l with ⟨hk,hm⟩ | ⟨hk,c,hc,hcell⟩
 ·exact wpAny_Name (wpAny_loadName_local I.ok.kind hk hn hm fin) hd
 ·rcases hk with hk | hk
  ·exact wpAny_Name (wpAny_loadName_cell I.ok.kind hk hc hcell fin) hd
  ·exact wpAny_Name (wpAny_loadName_free I.ok.kind hk hc hcell fin hcd) hd
theorem ak {i j pos}:PE X (.Constant (.int i) j pos) (tC (.int i)):=fun _ _ _ H _ I h=>wpAny_Constant_int ⟨.int i,H,I.tok _,⟨_,rfl⟩,h⟩
theorem dj {b j pos}:PE X (.Constant (.bool b) j pos) (tC (.bl b)):=fun _ _ _ H _ I h=>Constant_bool ⟨.bl b,H,I,rfl,h⟩
theorem bG {j pos}:PE X (.Constant .none j pos) (tC .non):=fun _ _ _ H _ I h=>Constant_none ⟨.non,H,I,rfl,h⟩
theorem aG {x j pos}:PE X (.Constant (.str x) j pos) (tC (.str x)):=fun _ _ _ H _ I h=>Calls.Constant_str ⟨.str x,H,I.tok _,⟨_,rfl⟩,h⟩
def Gl (X:Cx) (x:Str):Prop:=X.env.kindOf x=some .globalImplicit
theorem fG {E:Value→Shared→Prop} {pins:List (Addr×Obj)} {s:Shared} {σ:St} {H:Hp} {x:Str} {u:Value} {pos:Pos} {Q:Value→Shared→Prop} (I:Inv X pins σ H s) (hg:Gl X x) (hm:X.mg x=some u) (h:Q u s)
  (hd:(x == ("__debug__":Str))=false:=by decide):wpAny (model X.prog X.w) X.A (eval (.Name x pos) X.env) Q E s :=
 Calls.Name_function_global I.ok.kind hg (Calls.loadGlobal_global (by rw [I.ok.glob]; exact I.mod.glob.keeps I.bk) hm h) hd
theorem fL {E:Value→Shared→Prop} {pins:List (Addr×Obj)} {s:Shared} {σ:St} {H:Hp} {x:Str} {u:Value} {pos:Pos} {Q:Value→Shared→Prop} (I:Inv X pins σ H s) (hg:Gl X x) (hm:X.mg x=none) (hv:bootBuiltins x=some u) (h:Q u s)
  (hn:x≠"__name__":=by decide) (hd:(x == ("__debug__":Str))=false:=by decide):wpAny (model X.prog X.w) X.A (eval (.Name x pos) X.env) Q E s:=by
 obtain ⟨mb,h1,h2⟩:=I.mod.blt
 exact Calls.Name_function_global I.ok.kind hg (Calls.loadGlobal_builtin (by rw [I.ok.glob]; exact I.mod.glob.keeps I.bk) hm (by rw [I.ok.blt]; exact h1.keeps I.bk) ((h2 x hn).trans hv) h) hd
theorem cB {x:Str} {v:V} {u:Value} {pos:Pos} (hg:Gl X x) (hm:X.mg x=some u) (r:RelV v u) (hd:(x == ("__debug__":Str))=false:=by decide):PE X (.Name x pos) (tC v) :=
 fun _ _ _ H _ I h=>fG I hg hm ⟨v,H,I,r,h⟩ hd
theorem cJ {x:Str} {v:V} {u:Value} {pos:Pos} (hg:Gl X x) (hm:X.mg x=none) (hv:bootBuiltins x=some u) (r:RelV v u) (hn:x≠"__name__":=by decide) (hd:(x == ("__debug__":Str))=false:=by decide):PE X (.Name x pos) (tC v) :=
 fun _ _ _ H _ I h=>fL I hg hm hv ⟨v,H,I,r,h⟩ hn hd
def t2I (ta tb:TE) (k:Int→Int→Hp→Prop):St→Hp→Prop:=fun σ H=>ta σ H fun x H1=>tb σ H1 fun y H2=>∃ i j,x=.int i∧y=.int j∧k i j H2
def Ft (ta tb:TE):TE:=fun σ H Q=>t2I ta tb (fun i j H2=>Q (.int (i+j)) H2) σ H
def Fu (ta tb:TE):TE:=fun σ H Q=>t2I ta tb (fun i j H2=>Q (.int (i - j)) H2) σ H
def FL (ta tb:TE):TE:=fun σ H Q=>t2I ta tb (fun i j H2=>(-(2 ^ 64)<i∧i<2 ^ 64)∧Q (.int (i * j)) H2) σ H
variable {a b:Expr} {ta tb:TE} {pos:Pos}
def PC (X:Cx) (op:CmpOp) (a b:Expr) (t:TE):Prop :=
 ∀ (pins:List (Addr×Obj)) (s:Shared) (σ:St) (H:Hp) (Q:VK),Inv X pins σ H s→t σ H Q→
  wpAny (model X.prog X.w) X.A (eval a X.env) (fun v s₁=>wpAny (model X.prog X.w) X.A (eval b X.env) (fun u s₂=>wpAny (model X.prog X.w) X.A (compareOp op v u) (EP X pins σ Q) X.xe s₂) X.xe s₁) X.xe s
def wk (p:Int→Int→Bool) (ta tb:TE):TE:=fun σ H Q=>t2I ta tb (fun i j H2=>Q (.bl (p i j)) H2) σ H
abbrev tLt:TE→TE→TE:=wk fun i j=>decide (i<j)
abbrev tLe:TE→TE→TE:=wk fun i j=>decide (i≤j)
abbrev tGt:TE→TE→TE:=wk fun i j=>decide (j<i)
abbrev tGe:TE→TE→TE:=wk fun i j=>decide (j≤i)
abbrev Fj:TE→TE→TE:=wk fun i j=>decide (i=j)
abbrev Fx:TE→TE→TE:=wk fun i j=>!decide (i=j)
def FE (ta:TE):TE:=fun σ H Q=>ta σ H fun x H1=>Q (.bl (decide (x=.non))) H1
def Fi (ta:TE):TE:=fun σ H Q=>ta σ H fun x H1=>Q (.bl (!decide (x=.non))) H1
def tB (t:TE):TT:=fun σ H Q=>t σ H fun x H1=>∃ c,x=.bl c∧Q c H1
theorem tG {op:CmpOp} {t:TE} (h:PC X op a b t) (h1:behindInMarks op b=false:=by first | exact nobehind _ (by decide) (by decide) | rfl):PT X (.Compare a [op] [b] pos) (tB t):=by
 intro pins s σ H Q I hw
 refine wpAny_isTrue_Compare1 (thn (h pins s σ H _ I hw) fun v s1 h1=>thn h1 fun u s2 h2=>thn h2 fun c s3 ⟨x,H1,I1,r1,q1⟩=>?_) h1
 obtain ⟨d,rfl,q⟩:=q1
 cases r1
 exact wpAny_truthy_bool ⟨H1,I1,q⟩
theorem bD {e:Expr} {t:TE} (h:PE X e t) (he:∀ whole,isTrue e X.env whole=(do let v ← whole; standAt e.pos; holding [v] (truthy v)):=by intro _; rfl):PT X e (tB t):=by
 intro pins s σ H Q I hw
 refine isTrue_plain (thn (h pins s σ H _ I hw) fun v s1 ⟨x,H1,I1,r1,q1⟩=>?_) (he _)
 obtain ⟨d,rfl,q⟩:=q1
 cases r1
 exact wpAny_truthy_bool ⟨H1,I1,q⟩
variable {tA tB':TT} {rest:List Expr}
def ER (t u:TT):TT:=fun σ H Q=>t σ H fun c H1=>if c=true then u σ H1 Q else Q false H1
def tOr (t u:TT):TT:=fun σ H Q=>t σ H fun c H1=>if c=true then Q true H1 else u σ H1 Q
def EJ (t:TT):TT:=fun σ H Q=>t σ H fun c H1=>Q (!c) H1
theorem jm (ha:PT X a tA):PW X (.BoolOp .And [a] pos) tA:=by
 intro wh pins s σ H Q I h
 refine isTrue_and (thn (ha pins s σ H Q I h) fun c s1 e=>?_)
 cases c with
 | true=>exact isTrue_and_nil e
 | false=>exact e
theorem e7 (ha:PT X a tA):PW X (.BoolOp .Or [a] pos) tA:=by
 intro wh pins s σ H Q I h
 refine isTrue_or (thn (ha pins s σ H Q I h) fun c s1 e=>?_)
 cases c with
 | false=>exact isTrue_or_nil e
 | true=>exact e
theorem me (ha:PT X a tA) (hb:PW X (.BoolOp .And (b::rest) pos) tB'):PW X (.BoolOp .And (a::b::rest) pos) (ER tA tB'):=by
 intro wh pins s σ H Q I h
 refine isTrue_and (thn (ha pins s σ H _ I h) fun c s1 ⟨H1,I1,q1⟩=>?_)
 cases c with
 | true=>exact hb wh pins s1 σ H1 Q I1 q1
 | false=>exact ⟨H1,I1,q1⟩
theorem ie (ha:PT X a tA) (hb:PW X (.BoolOp .Or (b::rest) pos) tB'):PW X (.BoolOp .Or (a::b::rest) pos) (tOr tA tB'):=by
 intro wh pins s σ H Q I h
 refine isTrue_or (thn (ha pins s σ H _ I h) fun c s1 ⟨H1,I1,q1⟩=>?_)
 cases c with
 | true=>exact ⟨H1,I1,q1⟩
 | false=>exact hb wh pins s1 σ H1 Q I1 q1
theorem bQ (ha:PT X a tA):PT X (.UnaryOp .Not a pos) (EJ tA):=by
 intro pins s σ H Q I h
 exact isTrue_not (ha pins s σ H (fun c H1=>Q (!c) H1) I h)
def DM (ta tb:TE):TE:=fun σ H Q=>ta σ H fun x H1=>∃ c,x=.bl c∧if c=true then tb σ H1 Q else Q (.bl false) H1
def Eg (ta tb:TE):TE:=fun σ H Q=>ta σ H fun x H1=>∃ c,x=.bl c∧if c=true then Q (.bl true) H1 else tb σ H1 Q
def C6 (ta:TE):TE:=fun σ H Q=>ta σ H fun x H1=>∃ c,x=.bl c∧Q (.bl (!c)) H1
theorem i3 {op} {t:TE} (h:PE X a t):PE X (.BoolOp op [a] pos) t:=fun pins s σ H Q I hw=>BoolOp_one (h pins s σ H Q I hw)
theorem ka (ha:PE X a ta) (hb:PE X (.BoolOp .And (b::rest) pos) tb):PE X (.BoolOp .And (a::b::rest) pos) (DM ta tb):=by
 intro pins s σ H Q I h
 refine BoolOp_and (thn (ha pins s σ H _ I h) fun v s1 ⟨x,H1,I1,r1,q1⟩=>?_)
 obtain ⟨c,rfl,q1⟩:=q1
 cases r1
 refine wpAny_truthy_bool ?_
 cases c with
 | true=>exact hb pins s1 σ H1 Q I1 q1
 | false=>exact ⟨.bl false,H1,I1,rfl,q1⟩
theorem Dh (ha:PE X a ta) (hb:PE X (.BoolOp .Or (b::rest) pos) tb):PE X (.BoolOp .Or (a::b::rest) pos) (Eg ta tb):=by
 intro pins s σ H Q I h
 refine BoolOp_or (thn (ha pins s σ H _ I h) fun v s1 ⟨x,H1,I1,r1,q1⟩=>?_)
 obtain ⟨c,rfl,q1⟩:=q1
 cases r1
 refine wpAny_truthy_bool ?_
 cases c with
 | false=>exact hb pins s1 σ H1 Q I1 q1
 | true=>exact ⟨.bl true,H1,I1,rfl,q1⟩
theorem yz (ha:PE X a ta):PE X (.UnaryOp .Not a pos) (C6 ta):=by
 intro pins s σ H Q I h
 refine UnaryOp_ (thn (ha pins s σ H _ I h) fun v s1 ⟨x,H1,I1,r1,q1⟩=>?_)
 obtain ⟨c,rfl,q1⟩:=q1
 cases r1
 exact not_of (wpAny_truthy_bool ⟨.bl (!c),H1,I1,rfl,q1⟩)
def tIf (t:TT) (ta tb:TE):TE:=fun σ H Q=>t σ H fun c H1=>if c=true then ta σ H1 Q else tb σ H1 Q
theorem fo {c:Expr} (hc:PT X c tA) (ha:PE X a ta) (hb:PE X b tb):PE X (.IfExp c a b pos) (tIf tA ta tb):=by
 intro pins s σ H Q I h
 refine wpAny_IfExp (thn (hc pins s σ H _ I h) fun d s1 ⟨H1,I1,q1⟩=>?_)
 cases d with
 | true=>exact ha pins s1 σ H1 Q I1 q1
 | false=>exact hb pins s1 σ H1 Q I1 q1
end
end L2
namespace L2
open PySem PySem.Spec PyProof.Rows
def SqL (K:PySem.W.Frag) (H:Hp) (a:Addr) (xs:List V):Prop :=
 Rd H a (.lst xs)∨
  ∃ (o:Obj) (its:Array Value) (n:Nat),K.lookup a=some o∧o.cls=.type "list"∧o.dict=none∧o.data=.seq its n∧its.size≤sizeLine∧Vals xs its.toList
def SqT (K:PySem.W.Frag) (H:Hp) (a:Addr) (xs:List V):Prop :=
 Rd H a (.tup xs)∨
  ∃ (o:Obj) (its:Array Value) (n:Nat),K.lookup a=some o∧o.cls=.type "tuple"∧o.data=.seq its n∧its.size≤sizeLine∧Vals xs its.toList
def xu:Value→Option V
 | .none=>some .non
 | .bool b=>some (.bl b)
 | .int i _=>some (.int i)
 | .str x _=>some (.str x)
 | .bytes b _=>some (.byt b)
 | .float b _=>some (.flt b)
 | .ref a=>some (.ref a)
 | .type n=>some (.ty n)
 | _=>none
theorem RelV.abs {x:V} {u:Value} (r:RelV x u):xu u=some x:=by
 cases x with
 | non=>cases r; rfl
 | bl _=>cases r; rfl
 | int _=>obtain ⟨t,rfl⟩:=r; rfl
 | str _=>obtain ⟨t,rfl⟩:=r; rfl
 | byt _=>obtain ⟨t,rfl⟩:=r; rfl
 | flt _=>obtain ⟨t,rfl⟩:=r; rfl
 | ref _=>cases r; rfl
 | ty _=>cases r; rfl
theorem RelV.inj {x y:V} {u:Value} (r:RelV x u) (q:RelV y u):x=y:=Option.some.inj (r.abs.symm.trans q.abs)
theorem Vals.inj:∀ {xs ys:List V} {us:List Value},Vals xs us→Vals ys us→xs=ys
 | _,_,_,.nil,.nil=>rfl
 | _,_,_,.cons r t,.cons r' t'=>by rw [r.inj r',Vals.inj t t']
section
variable {X:Cx} {pins:List (Addr×Obj)} {σ:St} {H:Hp} {s:Shared} {a:Addr} {xs ys:List V}
theorem SqL.of {K:PySem.W.Frag} (h:H a=some (.lst xs)):SqL K H a xs:=.inl (.inl h)
theorem SqT.of {K:PySem.W.Frag} (h:H a=some (.tup xs)):SqT K H a xs:=.inl (.inl h)
theorem Inv.list (I:Inv X pins σ H s) (h:SqL X.K H a xs):∃ its:List Value,Vals xs its∧PlainL s.heap a its.toArray∧xs.length≤sizeLine:=by
 rcases h with h | ⟨o,its,n,hk,hc,hd,hs,hz,r⟩
 ·obtain ⟨z,its,n,r,e⟩:=h.ok I.hok
  exact ⟨its,r,⟨_,n,e,rfl,rfl,rfl⟩,z⟩
 ·refine ⟨its.toList,r,⟨o,n,I.kIn a o hk,hc,hd,by simpa using hs⟩,?_⟩
  have e:=r.length
  simp only [Array.length_toList] at e
  omega
theorem Inv.tuple (I:Inv X pins σ H s) (h:SqT X.K H a xs):∃ its:List Value,Vals xs its∧IsTup s.heap a its.toArray∧xs.length≤sizeLine:=by
 rcases h with h | ⟨o,its,n,hk,hc,hs,hz,r⟩
 ·obtain ⟨z,its,r,p⟩:=h.ok I.hok
  exact ⟨its,r,p,z⟩
 ·refine ⟨its.toList,r,⟨o,I.kIn a o hk,hc,n,by simpa using hs⟩,?_⟩
  have e:=r.length
  simp only [Array.length_toList] at e
  omega
theorem Inv.list_inj (I:Inv X pins σ H s) (h:SqL X.K H a xs) (h':SqL X.K H a ys):xs=ys:=by
 obtain ⟨its,r,⟨o,n,e,_,_,d⟩,_⟩:=I.list h
 obtain ⟨its',r',⟨o',n',e',_,_,d'⟩,_⟩:=I.list h'
 rw [e] at e'; cases e'
 rw [d] at d'
 injection d' with d1 _
 have:its=its':=by simpa using congrArg Array.toList d1
 subst this
 exact r.inj r'
theorem Inv.tuple_inj (I:Inv X pins σ H s) (h:SqT X.K H a xs) (h':SqT X.K H a ys):xs=ys:=by
 obtain ⟨its,r,⟨o,e,_,n,d⟩,_⟩:=I.tuple h
 obtain ⟨its',r',⟨o',e',_,n',d'⟩,_⟩:=I.tuple h'
 rw [e] at e'; cases e'
 rw [d] at d'
 injection d' with d1 _
 have:its=its':=by simpa using congrArg Array.toList d1
 subst this
 exact r.inj r'
end
abbrev Cx.wish (X:Cx) (E:Value→Shared→Prop):Cx:={ X with xe:=E }
abbrev Cx.nox (X:Cx):Cx:=X.wish fun _ _=>False
theorem Cx.Ok.wish {X:Cx} (ok:X.Ok) (E:Value→Shared→Prop):(X.wish E).Ok :=
 ⟨ok.mod,ok.kind,ok.glob,ok.blt,ok.above,ok.inj,ok.has,ok.cab,ok.hd,ok.frames,ok.stk,ok.exf,ok.bs,ok.bsz,ok.noex,ok.exfs,ok.funs,ok.frf⟩
theorem Cx.Ok.unwish {X:Cx} {E:Value→Shared→Prop} (ok:(X.wish E).Ok):X.Ok :=
 ⟨ok.mod,ok.kind,ok.glob,ok.blt,ok.above,ok.inj,ok.has,ok.cab,ok.hd,ok.frames,ok.stk,ok.exf,ok.bs,ok.bsz,ok.noex,ok.exfs,ok.funs,ok.frf⟩
section
variable {X:Cx} {pins:List (Addr×Obj)} {σ:St} {H:Hp} {s:Shared} {E:Value→Shared→Prop}
theorem Inv.wish (I:Inv X pins σ H s) (E:Value→Shared→Prop):Inv (X.wish E) pins σ H s:=⟨I.ok.wish E,I.os,I.bare,I.base,I.loc,I.cell,I.free,I.freeC,I.pin,I.hok,I.len⟩
theorem Inv.unwish (I:Inv (X.wish E) pins σ H s):Inv X pins σ H s:=⟨I.ok.unwish,I.os,I.bare,I.base,I.loc,I.cell,I.free,I.freeC,I.pin,I.hok,I.len⟩
theorem SP.unwish {D:Ends} {f:Flow} {s':Shared} (h:SP (X.wish E) pins D f s'):SP X pins D f s':=by
 cases f with
 | next=>obtain ⟨σ',H',I,q⟩:=h; exact ⟨σ',H',I.unwish,q⟩
 | brk=>obtain ⟨σ',H',I,q⟩:=h; exact ⟨σ',H',I.unwish,q⟩
 | cont=>obtain ⟨σ',H',I,q⟩:=h; exact ⟨σ',H',I.unwish,q⟩
 | ret u=>obtain ⟨v,σ',H',I,r,q⟩:=h; exact ⟨v,σ',H',I.unwish,r,q⟩
theorem PSs.nox {st:List Stmt} {t:TS} (h:PSs X.nox st t):PSs X st t:=fun pins s σ H D I hw =>
 wpAny_mono (h pins s σ H D (I.wish _) hw) (fun _ _ q=>q.unwish) fun _ _ z=>False.elim z
end
section
variable {X:Cx} {st:Stmt} {rest:List Stmt} {t u:TS} {e:Expr} {te:TE} {pos:Pos}
def DK:TS:=fun D σ H=>D.nx σ H
def D5 (t u:TS):TS:=fun D σ H=>t { D with nx:=u D } σ H
theorem aw:PSs X [] DK:=fun _ _ σ H _ I h=>wpAny_execs_nil ⟨σ,H,I,h⟩
theorem af (h1:PS X st t) (h2:PSs X rest u):PSs X (st::rest) (D5 t u):=by
 intro pins s σ H D I h
 refine wpAny_execs_cons (thn (h1 pins s σ H { D with nx:=u D } I h) fun f s1 q=>?_)
 cases f with
 | next =>
  obtain ⟨σ',H',I',q⟩:=q
  exact h2 pins s1 σ' H' D I' q
 | ret v=>exact q
 | brk=>exact q
 | cont=>exact q
theorem ao (h1:PS X st t):PSs X [st] t:=by
 intro pins s σ H D I h
 refine wpAny_execs_cons (thn (h1 pins s σ H D I h) fun f s1 q=>?_)
 cases f with
 | next=>exact wpAny_execs_nil q
 | ret v=>exact q
 | brk=>exact q
 | cont=>exact q
def Ek:TS:=fun D σ H=>D.bk σ H
def EY:TS:=fun D σ H=>D.ct σ H
theorem Inv.quiet {pins:List (Addr×Obj)} {σ:St} {H:Hp} {s:Shared} (I:Inv X pins σ H s):interactive X.env=false:=by simp [interactive,I.ok.kind]
def CS (te:TE):TS:=fun D σ H=>te σ H fun _ H1=>D.nx σ H1
theorem bL (he:PE X e te) (hs:swapsWith e none pos.line X.env=pure false:=by rfl):PS X (.Expr e pos) (CS te):=by
 intro pins s σ H D I h
 exact wpAny_Expr_any (thn (he pins s σ H _ I h) fun v s1 ⟨x,H1,I1,r1,q1⟩=>⟨σ,H1,I1,q1⟩) I.quiet hs
def EG (te:TE):TS:=fun D σ H=>te σ H D.rt
theorem au (he:PE X e te):PS X (.Return (some e) pos) (EG te):=by
 intro pins s σ H D I h
 exact wpAny_Return_some (thn (he pins s σ H _ I h) fun v s1 ⟨x,H1,I1,r1,q1⟩=>⟨x,σ,H1,I1,r1,q1⟩)
def EZ:TS:=fun D _ H=>D.rt .non H
def EE (c:TT) (t u:TS):TS:=fun D σ H=>c σ H fun b H1=>if b=true then t D σ H1 else u D σ H1
theorem aP {c:Expr} {a b:List Stmt} {tc:TT} (hc:PT X c tc) (ha:PSs X a t) (hb:PSs X b u):PS X (.If c a b pos) (EE tc t u):=by
 intro pins s σ H D I h
 refine wpAny_If (thn (hc pins s σ H _ I h) fun d s1 ⟨H1,I1,q1⟩=>?_)
 cases d with
 | true=>exact ha pins s1 σ H1 D I1 q1
 | false=>exact hb pins s1 σ H1 D I1 q1
def Bo:TS:=fun _ _ _=>False
theorem bf {sts:List Stmt}:PSs X sts Bo:=fun _ _ _ _ _ _ h=>h.elim
end
abbrev TG:=V→St→Hp→(St→Hp→Prop)→Prop
abbrev TGs:=List V→St→Hp→(St→Hp→Prop)→Prop
def PG (X:Cx) (target:Expr) (t:TG):Prop :=
 ∀ (pins:List (Addr×Obj)) (s:Shared) (σ:St) (H:Hp) (v:V) (u:Value) (Q:St→Hp→Prop),Inv X pins σ H s→RelV v u→t v σ H Q→
  wpAny (model X.prog X.w) X.A (assign target X.env u) (fun _ s'=>∃ σ' H',Inv X pins σ' H' s'∧Q σ' H') X.xe s
def PGs (X:Cx) (ts:List Expr) (t:TGs):Prop :=
 ∀ (pins:List (Addr×Obj)) (s:Shared) (σ:St) (H:Hp) (vs:List V) (us:List Value) (Q:St→Hp→Prop),Inv X pins σ H s→Vals vs us→t vs σ H Q→
  wpAny (model X.prog X.w) X.A (assignInOrder ((assignEach ts X.env).map (·.2)) us) (fun _ s'=>∃ σ' H',Inv X pins σ' H' s'∧Q σ' H') X.xe s
abbrev AL:=V→V→V→Hp→(Hp→Prop)→Prop
def Dq (X:Cx) (t:AL):Prop :=
 ∀ (pins:List (Addr×Obj)) (s:Shared) (σ:St) (H:Hp) (o i v:V) (ov iv u:Value) (Q:Hp→Prop),Inv X pins σ H s→RelV o ov→RelV i iv→RelV v u→t o i v H Q→
  wpAny (model X.prog X.w) X.A (setItem ov iv u) (fun _ s'=>∃ H',Inv X pins σ H' s'∧Q H') X.xe s
abbrev TIp:=V→V→Hp→VK→Prop
def PIp (X:Cx) (op:Operator) (t:TIp):Prop :=
 ∀ (pins:List (Addr×Obj)) (s:Shared) (σ:St) (H:Hp) (x y:V) (v u:Value) (Q:VK),Inv X pins σ H s→RelV x v→RelV y u→t x y H Q→
  wpAny (model X.prog X.w) X.A (inplaceOp op v u) (EP X pins σ Q) X.xe s
section
variable {X:Cx} {pos:Pos}
def uj (i:Nat):TG:=fun v σ H Q=>Q (σ.set i (some v)) H
theorem ay {i:Nat} {x:Str} (hN:X.N.Nodup) (hi:X.N[i]?=some x) (hx:Loc X.env.scope x) (hf:X.fn x=true∨X.env.scope.names.lookup x=some .local:=by first | exact .inl rfl | exact .inr rfl | assumption):PG X (.Name x pos) (uj i):=by
 intro pins s σ H v u Q I r h
 exact wpAny_assign_Name (rB I hN hi hx r (fun s' I'=>⟨_,H,I',h⟩) hf)
def EM:TGs:=fun vs σ H Q=>vs=[]∧Q σ H
def Dt (t:TG) (u:TGs):TGs:=fun vs σ H Q=>∃ v r,vs=v::r∧t v σ H fun σ' H'=>u r σ' H' Q
theorem dy:PGs X [] EM:=by
 intro pins s σ H vs us Q I r h
 obtain ⟨e,h⟩:=h
 subst e
 cases r
 exact assignInOrder_nil ⟨σ,H,I,h⟩
theorem aZ {e:Expr} {es:List Expr} {t:TG} {u:TGs} (h1:PG X e t) (h2:PGs X es u)
  (hs:(assignEach (e::es) X.env).map (·.2)=assign e X.env::(assignEach es X.env).map (·.2):=by rfl):PGs X (e::es) (Dt t u):=by
 intro pins s σ H vs us Q I r h
 obtain ⟨v,vr,e1,h⟩:=h
 subst e1
 cases r with
 | cons r rr =>
  rw [hs]
  refine assignInOrder_cons (thn (h1 pins s σ H _ _ _ I r h) fun _ s1 ⟨σ1,H1,I1,q1⟩=>?_)
  exact h2 pins s1 σ1 H1 _ _ Q I1 rr q1
def Du (K:PySem.W.Frag) (n:Nat) (t:TGs):TG:=fun v σ H Q=>∃ a xs,v=.ref a∧SqT K H a xs∧xs.length=n∧t xs σ H Q
theorem eR {es:List Expr} {k:Nat} {t:TGs} {n:Nat} (hc:X.calm=true) (h:PGs X es t)
  (hn:(assignEach es X.env).length=n:=by rfl) (hst:(assignEach es X.env).findIdx? (·.1)=none:=by rfl):PG X (.Tuple es k pos) (Du X.K n t):=by
 intro pins s σ H v u Q I r hw
 obtain ⟨a,xs,e1,hq,hl,hw⟩:=hw
 subst e1
 cases r
 obtain ⟨its,rv,ht,hz⟩:=I.tuple hq
 refine assign_Tuple_tuple (I.ok.hd hc) ht (by simp [hn,← hl,rv.length]) hst fun h' hx=>?_
 have I1:Inv X pins σ H { s with heap:=h' }:=I.kept (t':=s.toks) fun b o e=>hx b o (Nat.ne_of_lt (Heap.lt_size e)) e
 exact h pins _ σ H xs _ Q I1 (by simpa using rv) hw
def EK (to ti:TE) (t:AL):TG:=fun v σ H Q=>to σ H fun o H1=>ti σ H1 fun i H2=>t o i v H2 fun H3=>Q σ H3
theorem oI {o i:Expr} {to ti:TE} {t:AL} (ho:PE X o to) (hi:PE X i ti) (hs:Dq X t)
  (ha:∀ v,assign (.Subscript o i pos) X.env v=(do
   let ov ← holding [v] (eval o X.env)
   let iv ← holding [v,ov] (eval i X.env)
   standAt pos
   holding [v,ov,iv] (setItem ov iv v)
   release [v,ov,iv] []):=by intro _; rfl):PG X (.Subscript o i pos) (EK to ti t):=by
 intro pins s σ H v u Q I r h
 rw [ha]
 refine wpAny_bind (wpAny_holding (thn (ho pins s σ H _ I h) fun ov s1 ⟨x,H1,I1,r1,q1⟩=>?_))
 refine wpAny_bind (wpAny_holding (thn (hi pins s1 σ H1 _ I1 q1) fun iv s2 ⟨y,H2,I2,r2,q2⟩=>?_))
 refine wpAny_bind (wpAny_standAt (wpAny_bind (wpAny_holding (thn (hs pins s2 σ H2 x y v ov iv u _ I2 r1 r2 r q2) fun _ s3 ⟨H3,I3,q3⟩=>?_))))
 exact wpAny_release ⟨σ,H3,I3,q3⟩
def B7 (te:TE) (g:TG):TS:=fun D σ H=>te σ H fun x H1=>g x σ H1 D.nx
theorem j3 {tg e:Expr} {te:TE} {g:TG} (he:PE X e te) (hg:PG X tg g) (hs:swapsWithSole [tg] e pos.line X.env=pure false:=by rfl) (hw:swappedStores [tg] e X.env=pure none:=by rfl)
  (h1:(assignEach [tg] X.env).map (·.2)=[assign tg X.env]:=by rfl):PS X (.Assign [tg] e pos) (B7 te g):=by
 intro pins s σ H D I h
 refine wpAny_Assign_stores (thn (he pins s σ H _ I h) fun v s1 ⟨x,H1,I1,r1,q1⟩=>?_) hs hw
 rw [h1]
 exact thn (hg pins s1 σ H1 x v _ I1 r1 q1) fun _ s2 q=>q
theorem aB {i:Nat} {x:Str} {e:Expr} {te:TE} {pos':Pos} (hN:X.N.Nodup) (hi:X.N[i]?=some x) (hx:Loc X.env.scope x) (he:PE X e te) (hs:swapsWith e (some (.Name x pos')) pos.line X.env=pure false:=by rfl) (hf:X.fn x=true∨X.env.scope.names.lookup x=some .local:=by first | exact .inl rfl | exact .inr rfl | assumption) :
  PS X (.Assign [.Name x pos'] e pos) (B7 te (uj i)):=by
 intro pins s σ H D I h
 refine wpAny_Assign_Name (thn (he pins s σ H _ I h) fun v s1 ⟨y,H1,I1,r1,q1⟩=>?_) hs
 exact rB I1 hN hi hx r1 (fun s2 I2=>⟨_,H1,I2,q1⟩) hf
def FD (i j:Nat) (ta:TA):TS:=fun D σ H=>ta σ H fun vs H1=>∃ v w,vs=[v,w]∧D.nx ((σ.set i (some v)).set j (some w)) H1
def Fo (i:Nat) (te:TE) (ti:TIp):TS:=fun D σ H=>∃ x,σ[i]?=some (some x)∧te σ H fun y H1=>ti x y H1 fun z H2=>D.nx (σ.set i (some z)) H2
def E9 (to ti te:TE) (tget:V→V→Hp→VK→Prop) (tip:TIp) (tset:AL):TS:=fun D σ H=>to σ H fun o H1=>ti σ H1 fun i H2=>tget o i H2 fun x H3=>te σ H3 fun y H4=>tip x y H4 fun z H5=>tset o i z H5 fun H6=>D.nx σ H6
def Fz (X:Cx) (t:V→V→Hp→VK→Prop):Prop :=
 ∀ (pins:List (Addr×Obj)) (s:Shared) (σ:St) (H:Hp) (o i:V) (ov iv:Value) (Q:VK),Inv X pins σ H s→RelV o ov→RelV i iv→t o i H Q→
  wpAny (model X.prog X.w) X.A (getItem ov iv) (EP X pins σ Q) X.xe s
def ipI (f:Int→Int→Int):TIp:=fun x y H Q=>∃ i j,x=.int i∧y=.int j∧Q (.int (f i j)) H
end
section
variable {X:Cx} {pos:Pos}
def yT (c:TT) (tb:TS):TS:=fun D σ H=>∃ W:Nat→St→Hp→Prop,(∃ m,W m σ H)∧∀ m σ H,W m σ H→
 c σ H fun b H1=>if b=true then ∃ N:St→Hp→Prop,(∀ σ' H',N σ' H'→∃ m',m'<m∧W m' σ' H')∧tb { D with nx:=N,ct:=N,bk:=D.nx } σ H1 else D.nx σ H1
theorem qS {c:Expr} {body:List Stmt} {tc:TT} {tb:TS} (hp:PassesOwn (model X.prog X.w) X.A X.env X.xe) (hc:PT X c tc) (hb:PSs X body tb):PS X (.While c body [] pos) (yT tc tb):=by
 intro pins s σ H D I h
 obtain ⟨W,⟨m0,w0⟩,turn⟩:=h
 refine wpAny_While (codeAny_whileLoop (fun n s'=>∃ σ' H',Inv X pins σ' H' s'∧W n σ' H') ?_ m0 ⟨σ,H,I,w0⟩)
 rintro n s1 ⟨σ1,H1,I1,w1⟩
 refine wpAny_passesOwn hp (thn (hc pins s1 σ1 H1 _ I1 (turn n σ1 H1 w1)) fun b s2 ⟨H2,I2,q2⟩=>?_)
 cases b with
 | true =>
  obtain ⟨N,hN,q2⟩:=q2
  rw [if_pos rfl]
  refine wpAny_passesOwn hp (thn (hb pins s2 σ1 H2 _ I2 q2) fun f s3 q3=>?_)
  cases f with
  | next =>
   obtain ⟨σ3,H3,I3,n3⟩:=q3
   obtain ⟨m',hm,w3⟩:=hN σ3 H3 n3
   exact ⟨m',hm,σ3,H3,I3,w3⟩
  | cont =>
   obtain ⟨σ3,H3,I3,n3⟩:=q3
   obtain ⟨m',hm,w3⟩:=hN σ3 H3 n3
   exact ⟨m',hm,σ3,H3,I3,w3⟩
  | brk=>exact q3
  | ret v=>exact q3
 | false =>
  rw [if_neg Bool.false_ne_true]
  exact wpAny_execs_nil ⟨σ1,H2,I2,q2⟩
end
structure It where
 go:Nat→Hp→Prop
 yld:Nat→Hp→V→Hp→Prop
 stop:Nat→Hp→Prop
def iF (X:Cx) (pins:List (Addr×Obj)) (H:Hp) (b:Addr):Prop :=
 H b=none∧b≠X.env.locals∧b∉X.fs∧(b∈X.ex∨X.s₀.heap.objs.size≤b)∧(∀ x c,X.env.cells.lookup x=some c→c≠b)∧∀ p∈X.pn++pins,p.1≠b
theorem Inv.fpOk {X:Cx} {pins:List (Addr×Obj)} {σ:St} {H H':Hp} {s:Shared} {b:Addr} (I:Inv X pins σ H s) (hb:s.heap.objs.size≤b) (hn:H' b=none):iF X pins H' b:=by
 refine ⟨hn,Nat.ne_of_gt (Nat.lt_of_lt_of_le I.lt hb),I.nofs hb,.inr (Nat.le_trans I.sz hb),fun x c e z=>?_,fun p hp z=>?_⟩
 ·obtain ⟨v,q⟩:=I.cell x c e
  exact absurd (Nat.lt_of_lt_of_le q.lt (by rw [z]; exact hb)) (Nat.lt_irrefl _)
 ·exact absurd (Nat.lt_of_lt_of_le (Heap.lt_size (I.pin p hp).1) (by rw [z]; exact hb)) (Nat.lt_irrefl _)
structure Turn (P:Program) (w:World) (K:PySem.W.Frag) (tg:Expr) (J:It) (fp:List Addr) (it:Addr) (tn:Nat→Heap→Prop):Prop where
 mem:it∈fp
 obj:∀ i h,tn i h→∀ b∈fp,∃ o,h.get? b=some o∧∀ v,o.data≠.cell v
 keep:∀ i h h',tn i h→(∀ b∈fp,∀ o,h.get? b=some o→h'.get? b=some o)→tn i h'
 item:∀ (X:Cx),X.prog=P→X.w=w→X.K=K→X.calm=true→∀ (i:Nat) (pins:List (Addr×Obj)) (s:Shared) (σ:St) (H:Hp) (E:Value→Shared→Prop),Inv X pins σ H s→(∀ b∈fp,iF X pins H b)→tn i s.heap→J.go i H→
  wpAny (model P w) X.A (pyNext (.ref it)) (fun r s1=>∃ u,r=some u∧
   wpAny (model P w) X.A (letOwnedTupleGo tg (.ref it) u) (fun _ s2=>∃ x H',Inv X pins σ H' s2∧RelV x u∧J.yld i H x H'∧tn (i+1) s2.heap∧∀ b∈fp,H' b=none) E s1) E s
 done:∀ (X:Cx),X.prog=P→X.w=w→X.K=K→X.calm=true→∀ (i:Nat) (pins:List (Addr×Obj)) (s:Shared) (σ:St) (H:Hp) (E:Value→Shared→Prop),Inv X pins σ H s→(∀ b∈fp,iF X pins H b)→tn i s.heap→J.stop i H→
  wpAny (model P w) X.A (pyNext (.ref it)) (fun r s1=>r=none∧Inv X pins σ H s1) E s
 self:∀ (A:Around) (i:Nat) (s:Shared) (Q:Value→Shared→Prop) (E:Value→Shared→Prop),tn i s.heap→Q (.ref it) s→wpAny (model P w) A (pyIter (.ref it)) Q E s
abbrev TI:=St→Hp→(It→Hp→Prop)→Prop
def PIE (X:Cx) (pins:List (Addr×Obj)) (σ:St) (tg:Expr) (R:It→Hp→Prop) (itv:Value) (s2:Shared):Prop :=
 ∃ (it:Addr) (fp:List Addr) (tn:Nat→Heap→Prop) (J:It) (H':Hp),itv=.ref it∧Inv X pins σ H' s2∧Turn X.prog X.w X.K tg J fp it tn∧tn 0 s2.heap∧(∀ b∈fp,iF X pins H' b)∧R J H'
def PI (X:Cx) (tg iter:Expr) (wi:TI):Prop :=
 ∀ (pins:List (Addr×Obj)) (s:Shared) (σ:St) (H:Hp) (R:It→Hp→Prop),Inv X pins σ H s→wi σ H R→
  wpAny (model X.prog X.w) X.A (eval iter X.env) (fun v s1=>wpAny (model X.prog X.w) X.A (pyIter v) (PIE X pins σ tg R) X.xe s1) X.xe s
theorem p8 {M:Model} {A:Around} {E:Value→Shared→Prop} {s:Shared} {tg:Expr} {it:Addr} {u:Value} {o:Obj} {n:String} {vs:Array Value} {Q:Unit→Shared→Prop} (ho:s.heap.get? it=some o) (hc:o.cls=.type n) (hd:o.data=.fields vs)
    (hn:["enumerate","zip","dict_itemiterator","dict_reverseitemiterator","odict_iterator","itertools.zip_longest","itertools.pairwise"].contains n=false) (hQ:Q () s):wpAny M A (letOwnedTupleGo tg (.ref it) u) Q E s:=by
  unfold letOwnedTupleGo
  cases tg <;> first
    | exact wpAny_pure hQ
    | (cases u <;> first
        | exact wpAny_pure hQ
        | (refine wpAny_bind (wpAny_load ho ?_)
           rw [hc,hd]
           show wpAny M A (if (["enumerate","zip","dict_itemiterator","dict_reverseitemiterator","odict_iterator","itertools.zip_longest","itertools.pairwise"].contains n && vs[0]? == some (rawInt _))=true then _ else _) Q E s
           rw [if_neg (by intro h; rw [hn,Bool.false_and] at h; cases h)]
           exact wpAny_pure hQ))
def Itl (K:PySem.W.Frag) (a:Addr):It :=
 ⟨fun i H=>∃ xs x,SqL K H a xs∧xs[i]?=some x,fun i H x H'=>H'=H∧∀ xs,SqL K H a xs→xs[i]?=some x,fun i H=>∃ xs,SqL K H a xs∧xs.length≤i⟩
def Itt (K:PySem.W.Frag) (a:Addr):It :=
 ⟨fun i H=>∃ xs x,SqT K H a xs∧xs[i]?=some x,fun i H x H'=>H'=H∧∀ xs,SqT K H a xs→xs[i]?=some x,fun i H=>∃ xs,SqT K H a xs∧xs.length≤i⟩
def Itr (lo:Int) (n:Nat):It:=⟨fun i _=>i<n,fun i H x H'=>H'=H∧x=.int (lo+i),fun i _=>n≤i⟩
theorem wF {P:Program} {w:World} {K:PySem.W.Frag} {tg:Expr} (a it:Addr):Turn P w K tg (Itl K a) [it] it (fun i h=>h.IsListIter it a i) where
 mem:=by simp
 obj:=fun i h st b hb=>by
  have e:b=it:=by simpa using hb
  subst e
  obtain ⟨o,e,c,d⟩:=st
  exact ⟨o,e,fun v z=>by rw [d] at z; cases z⟩
 keep:=fun i h h' st k=>st.at fun o e=>k it (by simp) o e
 item:=by
  intro X hP hw hK hc i pins s σ H E I hf st hg
  subst hP hw hK
  obtain ⟨xs,x,hq,hx⟩:=hg
  obtain ⟨its,rv,p,hz⟩:=I.list hq
  obtain ⟨u,hu,ru⟩:=rv.get hx
  obtain ⟨f0,f1,f2,f3,f4,f5⟩:=hf it (by simp)
  refine wpAny_pyNext_list_item st p.isList (x:=u) (by simpa using hu) fun h' st' sb=>?_
  have I1:Inv X pins σ H { s with heap:=h' }:=I.turned (t':=s.toks) (fun b o hb e=>(sb.2 b hb).trans e) f0 f1 f3 f4 f5
  obtain ⟨o,e,c,d⟩:=id st'
  exact ⟨u,rfl,p8 (s:={ s with heap:=h' }) e c d (by decide) ⟨x,H,I1,ru,⟨rfl,fun ys hy=>by rw [I.list_inj hy hq]; exact hx⟩,st',fun b hb=>(hf b hb).1⟩⟩
 done:=by
  intro X hP hw hK hc i pins s σ H E I hf st hg
  subst hP hw hK
  obtain ⟨xs,hq,hx⟩:=hg
  obtain ⟨its,rv,p,hz⟩:=I.list hq
  obtain ⟨f0,f1,f2,f3,f4,f5⟩:=hf it (by simp)
  have hl:=rv.length
  exact wpAny_pyNext_list_end (I.ok.hd hc) st p.isList (by simp; omega) fun h' eb=>⟨rfl,I.turned (t':=s.toks) (fun b o hb e=>eb b o hb e) f0 f1 f3 f4 f5⟩
 self:=fun _ _ _ _ _ st h=>wpAny_pyIter_listiter st h
theorem sR {P:Program} {w:World} {K:PySem.W.Frag} {tg:Expr} (a it:Addr):Turn P w K tg (Itt K a) [it] it (fun i h=>h.IsTupleIter it a i) where
 mem:=by simp
 obj:=fun i h st b hb=>by
  have e:b=it:=by simpa using hb
  subst e
  obtain ⟨o,e,c,d⟩:=st
  exact ⟨o,e,fun v z=>by rw [d] at z; cases z⟩
 keep:=fun i h h' st k=>st.at fun o e=>k it (by simp) o e
 item:=by
  intro X hP hw hK hc i pins s σ H E I hf st hg
  subst hP hw hK
  obtain ⟨xs,x,hq,hx⟩:=hg
  obtain ⟨its,rv,p,hz⟩:=I.tuple hq
  obtain ⟨u,hu,ru⟩:=rv.get hx
  obtain ⟨f0,f1,f2,f3,f4,f5⟩:=hf it (by simp)
  refine wpAny_pyNext_tuple_item st (show s.heap.IsTuple a its.toArray from p) (x:=u) (by simpa using hu) fun h' st' sb=>?_
  have I1:Inv X pins σ H { s with heap:=h' }:=I.turned (t':=s.toks) (fun b o hb e=>(sb.2 b hb).trans e) f0 f1 f3 f4 f5
  obtain ⟨o,e,c,d⟩:=id st'
  exact ⟨u,rfl,p8 (s:={ s with heap:=h' }) e c d (by decide) ⟨x,H,I1,ru,⟨rfl,fun ys hy=>by rw [I.tuple_inj hy hq]; exact hx⟩,st',fun b hb=>(hf b hb).1⟩⟩
 done:=by
  intro X hP hw hK hc i pins s σ H E I hf st hg
  subst hP hw hK
  obtain ⟨xs,hq,hx⟩:=hg
  obtain ⟨its,rv,p,hz⟩:=I.tuple hq
  obtain ⟨f0,f1,f2,f3,f4,f5⟩:=hf it (by simp)
  have hl:=rv.length
  exact wpAny_pyNext_tuple_end (I.ok.hd hc) st (show s.heap.IsTuple a its.toArray from p) (by simp; omega) fun h' eb=>⟨rfl,I.turned (t':=s.toks) (fun b o hb e=>eb b o hb e) f0 f1 f3 f4 f5⟩
 self:=fun _ _ _ _ _ st h=>wpAny_pyIter_tupleiter st h
theorem rO {P:Program} {w:World} {K:PySem.W.Frag} {tg:Expr} (it:Addr) (lo:Int) (n:Nat):Turn P w K tg (Itr lo n) [it] it (fun i h=>IsRangeIter h it (lo+(i:Nat) * 1) ((n:Int) - (i:Nat)) 1) where
 mem:=by simp
 obj:=fun i h st b hb=>by
  have e:b=it:=by simpa using hb
  subst e
  exact ⟨_,st,fun v z=>by
   have z':Data.fields _=Data.cell v:=z
   cases z'⟩
 keep:=fun i h h' st k=>k it (by simp) _ st
 item:=by
  intro X hP hw hK hc i pins s σ H E I hf st hg
  subst hP hw hK
  obtain ⟨f0,f1,f2,f3,f4,f5⟩:=hf it (by simp)
  have W:=Walks.range (prog:=X.prog) (w:=X.w) (I.ok.hd hc) it lo 1 n
  refine W.item i s _ _ hg st fun v h' tk hv st' kk=>?_
  obtain ⟨t,rfl⟩:=hv
  have I1:Inv X pins σ H { s with heap:=h',toks:=tk }:=I.turned (fun b o hb e=>kk b o (by simpa using hb) e) f0 f1 f3 f4 f5
  refine ⟨_,rfl,p8 (s:={ s with heap:=h',toks:=tk }) (n:="range_iterator") st' rfl rfl (by decide) ⟨.int (lo+i),H,I1,⟨t,?_⟩,⟨rfl,rfl⟩,st',fun b hb=>(hf b hb).1⟩⟩
  rw [Int.mul_one]
 done:=by
  intro X hP hw hK hc i pins s σ H E I hf st hg
  subst hP hw hK
  obtain ⟨f0,f1,f2,f3,f4,f5⟩:=hf it (by simp)
  exact wpAny_pyNext_range_end (I.ok.hd hc) st (by have:n≤i:=hg; omega) fun h' eb=>⟨rfl,I.turned (t':=s.toks) (fun b o hb e=>eb b o hb e) f0 f1 f3 f4 f5⟩
 self:=fun _ _ _ _ _ st h=>wpAny_pyIter_rangeiter st h
end L2
namespace L2
open PySem PySem.Spec PyProof.Rows
section
variable {X:Cx} {tg:Expr}
def Bf (K:PySem.W.Frag) (tl:TE):TI:=fun σ H R=>tl σ H fun x H1=>∃ a,x=.ref a∧(∃ xs,SqL K H1 a xs)∧R (Itl K a) H1
def ES (K:PySem.W.Frag) (tl:TE):TI:=fun σ H R=>tl σ H fun x H1=>∃ a,x=.ref a∧(∃ xs,SqT K H1 a xs)∧R (Itt K a) H1
theorem gP {l:Expr} {tl:TE} (hl:PE X l tl):PI X tg l (Bf X.K tl):=by
 intro pins s σ H R I h
 refine thn (hl pins s σ H _ I h) fun v s1 ⟨x,H1,I1,r1,q1⟩=>?_
 obtain ⟨a,e,⟨xs,hq⟩,q⟩:=q1
 subst e
 cases r1
 obtain ⟨its,rv,p,hz⟩:=I1.list hq
 refine wpAny_pyIter_list p.isList ?_
 refine ⟨s1.heap.objs.size,[s1.heap.objs.size],_,_,H1,rfl,I1.kept (t':=s1.toks) fun b o e=>Heap.get?_push_of_some _ e,wF a _,⟨_,Heap.get?_push_size _ rfl,rfl,rfl⟩,fun b hb=>?_,q⟩
 have e:b=s1.heap.objs.size:=by simpa using hb
 subst e
 exact I1.fpOk (Nat.le_refl _) (I1.hok.fresh (Nat.le_refl _))
theorem cD {l:Expr} {tl:TE} (hl:PE X l tl):PI X tg l (ES X.K tl):=by
 intro pins s σ H R I h
 refine thn (hl pins s σ H _ I h) fun v s1 ⟨x,H1,I1,r1,q1⟩=>?_
 obtain ⟨a,e,⟨xs,hq⟩,q⟩:=q1
 subst e
 cases r1
 obtain ⟨its,rv,p,hz⟩:=I1.tuple hq
 refine wpAny_pyIter_tuple (show s1.heap.IsTuple a its.toArray from p) ?_
 refine ⟨s1.heap.objs.size,[s1.heap.objs.size],_,_,H1,rfl,I1.kept (t':=s1.toks) fun b o e=>Heap.get?_push_of_some _ e,sR a _,⟨_,Heap.get?_push_size _ rfl,rfl,rfl⟩,fun b hb=>?_,q⟩
 have e:b=s1.heap.objs.size:=by simpa using hb
 subst e
 exact I1.fpOk (Nat.le_refl _) (I1.hok.fresh (Nat.le_refl _))
theorem qa {pins:List (Addr×Obj)} {σ:St} {H:Hp} {s:Shared} {R:It→Hp→Prop} {E:Value→Shared→Prop} {lo hi:Int} {t u v:Tok} {tk:Nat} (I:Inv X pins σ H s) (h1:-(2 ^ 62)≤lo) (h2:lo<2 ^ 62) (h3:-(2 ^ 62)≤hi) (h4:hi<2 ^ 62)
  (q:R (Itr lo (hi - lo).toNat) H):wpAny (model X.prog X.w) X.A (pyIter (.ref s.heap.objs.size)) (PIE X pins σ tg R) E { s with heap:=s.heap.push { cls:=.type "range",data:=.fields #[.int lo t,.int hi u,.int 1 v] },toks:=tk }:=by
 refine wpAny_pyIter_range (IsRange.new ..) (small_one h1 h2 h3 h4) ?_
 have I1:Inv X pins σ H { s with heap:=s.heap.push { cls:=.type "range",data:=.fields #[.int lo t,.int hi u,.int 1 v] },toks:=tk }:=I.kept fun b o e=>Heap.get?_push_of_some _ e
 refine ⟨(s.heap.push { cls:=.type "range",data:=.fields #[.int lo t,.int hi u,.int 1 v] }).objs.size,[(s.heap.push { cls:=.type "range",data:=.fields #[.int lo t,.int hi u,.int 1 v] }).objs.size],_,_,H,rfl,
  I1.kept (t':=tk) fun b o e=>Heap.get?_push_of_some _ e,rO _ lo (hi - lo).toNat,?_,fun b hb=>?_,q⟩
 ·have e1:lo+((0:Nat):Int) * 1=lo:=by simp
  have e2:(((hi - lo).toNat:Nat):Int) - ((0:Nat):Int)=Builtin.Range.rangeSize lo hi 1:=by rw [rangeSize_one]; split <;> omega
  show IsRangeIter _ _ (lo+((0:Nat):Int) * 1) ((((hi - lo).toNat:Nat):Int) - ((0:Nat):Int)) 1
  rw [e1,e2]
  exact Heap.get?_push_size _ rfl
 ·have e:b=(s.heap.push { cls:=.type "range",data:=.fields #[.int lo t,.int hi u,.int 1 v] }).objs.size:=by simpa using hb
  subst e
  exact I1.fpOk (Nat.le_refl _) (I1.hok.fresh (Nat.le_refl _))
def Dn (ta:TA):TI:=fun σ H R=>ta σ H fun vs H1=>∃ j:Int,vs=[.int j]∧-(2 ^ 62)≤j∧j<2 ^ 62∧R (Itr 0 j.toNat) H1
def DN (ta:TA):TI:=fun σ H R=>ta σ H fun vs H1=>∃ i j:Int,vs=[.int i,.int j]∧(-(2 ^ 62)≤i∧i<2 ^ 62∧-(2 ^ 62)≤j∧j<2 ^ 62)∧R (Itr i (j - i).toNat) H1
theorem bU {a:Expr} {ta:TA} {p pos:Pos} (hg:Gl X "range") (hm:X.mg "range"=none) (ha:PA X [a] ta) (hs:starEach [a] X.env=[(false,eval a X.env)]:=by rfl):PI X tg (.Call (.Name "range" p) [a] [] pos) (Dn ta):=by
 intro pins s σ H R I h
 refine Call_ (fL I hg hm boot_range (PyProof.Rows.callWith_type1 (thn (ha pos pins s σ H _ I h) fun us s1 ⟨vs,H1,I1,r1,q1⟩=>?_) hs rfl))
 obtain ⟨j,e,q1,q2,q⟩:=q1
 subst e
 cases r1 with
 | cons r rr =>
  cases rr
  obtain ⟨t,rfl⟩:=r
  exact call_range_1 (qa I1 (by omega) (by omega) q1 q2 (by simpa using q))
theorem wx {a b:Expr} {ta:TA} {p pos:Pos} (hg:Gl X "range") (hm:X.mg "range"=none) (ha:PA X [a,b] ta) (hs:starEach [a,b] X.env=[(false,eval a X.env),(false,eval b X.env)]:=by rfl) (hs2:starEach [b] X.env=[(false,eval b X.env)]:=by rfl) :
  PI X tg (.Call (.Name "range" p) [a,b] [] pos) (DN ta):=by
 intro pins s σ H R I h
 refine Call_ (fL I hg hm boot_range (PyProof.Rows.callWith_type1 (thn (ha pos pins s σ H _ I h) fun us s1 ⟨vs,H1,I1,r1,q1⟩=>?_) (by rw [hs,hs2]) (by rw [hs2]; rfl)))
 obtain ⟨i,j,e,⟨q1,q2,q3,q4⟩,q⟩:=q1
 subst e
 cases r1 with
 | cons r rr =>
  cases rr with
  | cons r' rr =>
   cases rr
   obtain ⟨t,rfl⟩:=r
   obtain ⟨t',rfl⟩:=r'
   exact call_range_2 (qa I1 q1 q2 q3 q4 q)
def D9 (wi:TI) (g:TG) (tb:TS):TS:=fun D σ H=>wi σ H fun J H1=>∃ W:Nat→Nat→St→Hp→Prop,(∃ m,W 0 m σ H1)∧∀ i m σ H,W i m σ H→
 (J.stop i H∧D.nx σ H)∨(J.go i H∧∃ N:St→Hp→Prop,(∀ σ' H',N σ' H'→∃ m',m'<m∧W (i+1) m' σ' H')∧∀ x H',J.yld i H x H'→g x σ H' fun σ2 H2=>tb { D with nx:=N,ct:=N,bk:=D.nx } σ2 H2)
def lU (fp:List Addr) (h:Heap):List (Addr×Obj):=fp.filterMap fun b=>(h.get? b).map fun o=>(b,o)
theorem gF {fp:List Addr} {h:Heap} {b:Addr} {o:Obj} (hb:b∈fp) (e:h.get? b=some o):(b,o)∈lU fp h:=List.mem_filterMap.mpr ⟨b,hb,by rw [e]; rfl⟩
theorem uZ {fp:List Addr} {h:Heap} {p:Addr×Obj} (hp:p∈lU fp h):p.1∈fp∧h.get? p.1=some p.2:=by
 obtain ⟨b,hb,e⟩:=List.mem_filterMap.mp hp
 cases q:h.get? b with
 | none=>rw [q] at e; cases e
 | some o =>
  rw [q] at e
  have e':(b,o)=p:=Option.some.inj e
  subst e'
  exact ⟨hb,q⟩
theorem Inv.pinned {pins:List (Addr×Obj)} {σ:St} {H:Hp} {s:Shared} {fp:List Addr} (I:Inv X pins σ H s) (hf:∀ b∈fp,iF X pins H b) (ho:∀ b∈fp,∃ o,s.heap.get? b=some o∧∀ v,o.data≠.cell v):Inv X (pins++lU fp s.heap) σ H s :=
 I.pins_of fun p hp=>(List.mem_append.mp hp).elim (fun z=>I.pin p (List.mem_append_right _ z)) fun z=>by
  obtain ⟨hb,e⟩:=uZ z
  obtain ⟨f0,f1,f2,_⟩:=hf p.1 hb
  obtain ⟨o,e',d⟩:=ho p.1 hb
  rw [e] at e'; cases e'
  exact ⟨e,f0,f1,f2,d⟩
theorem Inv.unpinned {pins pl:List (Addr×Obj)} {σ:St} {H:Hp} {s:Shared} (I:Inv X (pins++pl) σ H s):Inv X pins σ H s:=I.pins_of fun p hp=>I.pin p (List.mem_append_right _ (List.mem_append_left _ hp))
theorem cO {iter:Expr} {body:List Stmt} {wi:TI} {g:TG} {tb:TS} {pos:Pos} (hp:PassesOwn (model X.prog X.w) X.A X.env X.xe) (hc:X.calm=true) (hi:PI X tg iter wi) (hg:PG X tg g) (hb:PSs X body tb)
  (hs:∀ x,foldedSetIterable iter X.env x=pure x:=by intro _; rfl):PS X (.For tg iter body [] pos) (D9 wi g tb):=by
 intro pins s σ H D I h
 refine wpAny_For (thn (hi pins s σ H _ I h) fun v s1 h1=>thn h1 fun itv s2 h2=>?_) hs
 obtain ⟨it,fp,tn,J,H2,e,I2,T,st2,f2,W,⟨m0,w0⟩,turn⟩:=h2
 subst e
 have stat:∀ {H':Hp},(∀ b∈fp,H' b=none)→∀ b∈fp,iF X pins H' b:=fun hn b hb=>⟨hn b hb,(f2 b hb).2⟩
 refine codeAny_forLoop_any (fun n s'=>∃ i σ' H',Inv X pins σ' H' s'∧tn i s'.heap∧(∀ b∈fp,H' b=none)∧W i n σ' H') ?_ m0 ⟨0,σ,H2,I2,st2,fun b hb=>(f2 b hb).1,w0⟩
 rintro n s3 ⟨i,σ3,H3,I3,st3,fr3,w3⟩
 rcases turn i n σ3 H3 w3 with ⟨stop,qn⟩ | ⟨go,N,hN,step⟩
 ·refine wpAny_passesOwn hp (thn (T.done X rfl rfl rfl hc i pins s3 σ3 H3 X.xe I3 (stat fr3) st3 stop) fun r s4 ⟨hr,I4⟩=>?_)
  subst hr
  exact wpAny_execs_nil ⟨σ3,H3,I4,qn⟩
 ·refine wpAny_passesOwn hp (thn (T.item X rfl rfl rfl hc i pins s3 σ3 H3 X.xe I3 (stat fr3) st3 go) fun r s4 ⟨u,hr,h4⟩=>?_)
  subst hr
  refine wpAny_passesOwn hp (thn h4 fun _ s5 ⟨x,H5,I5,r5,y5,st5,fr5⟩=>?_)
  have I5':=I5.pinned (stat fr5) (T.obj _ _ st5)
  refine wpAny_passesOwn hp (thn (hg _ s5 σ3 H5 x u _ I5' r5 (step x H5 y5)) fun _ s6 ⟨σ6,H6,I6,q6⟩=>?_)
  refine wpAny_passesOwn hp (thn (hb _ s6 σ6 H6 _ I6 q6) fun f s7 q7=>?_)
  have again:∀ {σ7:St} {H7:Hp},Inv X (pins++lU fp s5.heap) σ7 H7 s7→N σ7 H7→∃ m,m<n∧∃ i σ' H',Inv X pins σ' H' s7∧tn i s7.heap∧(∀ b∈fp,H' b=none)∧W i m σ' H':=fun {σ7 H7} I7 n7=>by
   obtain ⟨m',hm,w7⟩:=hN σ7 H7 n7
   refine ⟨m',hm,i+1,σ7,H7,I7.unpinned,T.keep _ _ _ st5 fun b hb o e=>(I7.pin (b,o) (List.mem_append_right _ (List.mem_append_right _ (gF hb e)))).1,fun b hb=>?_,w7⟩
   obtain ⟨o,e,d⟩:=T.obj _ _ st5 b hb
   exact (I7.pin (b,o) (List.mem_append_right _ (List.mem_append_right _ (gF hb e)))).2.1
  cases f with
  | next=>obtain ⟨σ7,H7,I7,n7⟩:=q7; exact again I7 n7
  | cont=>obtain ⟨σ7,H7,I7,n7⟩:=q7; exact again I7 n7
  | brk=>obtain ⟨σ7,H7,I7,q7⟩:=q7; exact ⟨σ7,H7,I7.unpinned,q7⟩
  | ret v=>obtain ⟨x7,σ7,H7,I7,r7,q7⟩:=q7; exact ⟨x7,σ7,H7,I7.unpinned,r7,q7⟩
end
theorem CW {K:PySem.W.Frag} {a:Addr} {xs:List V} {g:TG} {tb:TS} {D:Ends} {σ:St} {H:Hp} (Pv:Nat→St→Hp→Prop) (h0:Pv 0 σ H) (hl:∀ i σ H,i≤xs.length→Pv i σ H→SqL K H a xs)
  (hs:∀ i x σ H,xs[i]?=some x→Pv i σ H→g x σ H fun σ2 H2=>tb { D with nx:=Pv (i+1),ct:=Pv (i+1),bk:=D.nx } σ2 H2) (hd:∀ σ H,Pv xs.length σ H→D.nx σ H) :
  ∃ W:Nat→Nat→St→Hp→Prop,(∃ m,W 0 m σ H)∧∀ i m σ H,W i m σ H→
   ((Itl K a).stop i H∧D.nx σ H)∨((Itl K a).go i H∧∃ N:St→Hp→Prop,(∀ σ' H',N σ' H'→∃ m',m'<m∧W (i+1) m' σ' H')∧∀ x H',(Itl K a).yld i H x H'→g x σ H' fun σ2 H2=>tb { D with nx:=N,ct:=N,bk:=D.nx } σ2 H2):=by
 refine ⟨fun i m σ H=>m=xs.length - i∧i≤xs.length∧Pv i σ H,⟨xs.length,by simp,Nat.zero_le _,h0⟩,?_⟩
 rintro i m σ H ⟨rfl,hi,p⟩
 have q:=hl i σ H hi p
 by_cases hlt:i<xs.length
 ·refine .inr ⟨⟨xs,xs[i],q,by simp [hlt]⟩,Pv (i+1),fun σ' H' p'=>⟨xs.length - (i+1),by omega,rfl,hlt,p'⟩,fun x H' y=>?_⟩
  obtain ⟨e,y⟩:=y
  subst e
  exact hs i x σ _ (y xs q) p
 ·have e:i=xs.length:=by omega
  subst e
  exact .inl ⟨⟨xs,q,Nat.le_refl _⟩,hd σ H p⟩
theorem pK {K:PySem.W.Frag} {a:Addr} {xs:List V} {g:TG} {tb:TS} {D:Ends} {σ:St} {H:Hp} (Pv:Nat→St→Hp→Prop) (h0:Pv 0 σ H) (hl:∀ i σ H,i≤xs.length→Pv i σ H→SqT K H a xs)
  (hs:∀ i x σ H,xs[i]?=some x→Pv i σ H→g x σ H fun σ2 H2=>tb { D with nx:=Pv (i+1),ct:=Pv (i+1),bk:=D.nx } σ2 H2) (hd:∀ σ H,Pv xs.length σ H→D.nx σ H) :
  ∃ W:Nat→Nat→St→Hp→Prop,(∃ m,W 0 m σ H)∧∀ i m σ H,W i m σ H→
   ((Itt K a).stop i H∧D.nx σ H)∨((Itt K a).go i H∧∃ N:St→Hp→Prop,(∀ σ' H',N σ' H'→∃ m',m'<m∧W (i+1) m' σ' H')∧∀ x H',(Itt K a).yld i H x H'→g x σ H' fun σ2 H2=>tb { D with nx:=N,ct:=N,bk:=D.nx } σ2 H2):=by
 refine ⟨fun i m σ H=>m=xs.length - i∧i≤xs.length∧Pv i σ H,⟨xs.length,by simp,Nat.zero_le _,h0⟩,?_⟩
 rintro i m σ H ⟨rfl,hi,p⟩
 have q:=hl i σ H hi p
 by_cases hlt:i<xs.length
 ·refine .inr ⟨⟨xs,xs[i],q,by simp [hlt]⟩,Pv (i+1),fun σ' H' p'=>⟨xs.length - (i+1),by omega,rfl,hlt,p'⟩,fun x H' y=>?_⟩
  obtain ⟨e,y⟩:=y
  subst e
  exact hs i x σ _ (y xs q) p
 ·have e:i=xs.length:=by omega
  subst e
  exact .inl ⟨⟨xs,q,Nat.le_refl _⟩,hd σ H p⟩
theorem dh {lo:Int} {n:Nat} {g:TG} {tb:TS} {D:Ends} {σ:St} {H:Hp} (Pv:Nat→St→Hp→Prop) (h0:Pv 0 σ H)
  (hs:∀ i σ H,i<n→Pv i σ H→g (.int (lo+i)) σ H fun σ2 H2=>tb { D with nx:=Pv (i+1),ct:=Pv (i+1),bk:=D.nx } σ2 H2) (hd:∀ σ H,Pv n σ H→D.nx σ H) :
  ∃ W:Nat→Nat→St→Hp→Prop,(∃ m,W 0 m σ H)∧∀ i m σ H,W i m σ H→
   ((Itr lo n).stop i H∧D.nx σ H)∨((Itr lo n).go i H∧∃ N:St→Hp→Prop,(∀ σ' H',N σ' H'→∃ m',m'<m∧W (i+1) m' σ' H')∧∀ x H',(Itr lo n).yld i H x H'→g x σ H' fun σ2 H2=>tb { D with nx:=N,ct:=N,bk:=D.nx } σ2 H2):=by
 refine ⟨fun i m σ H=>m=n - i∧i≤n∧Pv i σ H,⟨n,by simp,Nat.zero_le _,h0⟩,?_⟩
 rintro i m σ H ⟨rfl,hi,p⟩
 by_cases hlt:i<n
 ·refine .inr ⟨hlt,Pv (i+1),fun σ' H' p'=>⟨n - (i+1),by omega,rfl,hlt,p'⟩,fun x H' y=>?_⟩
  obtain ⟨e,y⟩:=y
  subst e y
  exact hs i σ _ hlt p
 ·have e:i=n:=by omega
  subst e
  exact .inl ⟨Nat.le_refl _,hd σ H p⟩
theorem qN {c:TT} {tb:TS} {D:Ends} {σ:St} {H:Hp} (Pv:St→Hp→Prop) (μ:St→Hp→Nat) (h0:Pv σ H)
  (hs:∀ σ H,Pv σ H→c σ H fun b H1=>if b=true then tb { D with nx:=fun σ' H'=>Pv σ' H'∧μ σ' H'<μ σ H,ct:=fun σ' H'=>Pv σ' H'∧μ σ' H'<μ σ H,bk:=D.nx } σ H1 else D.nx σ H1)
  (mono:∀ σ H Q Q',(∀ b H1,Q b H1→Q' b H1)→c σ H Q→c σ H Q'):yT c tb D σ H:=by
 refine ⟨fun m σ H=>m=μ σ H∧Pv σ H,⟨_,rfl,h0⟩,?_⟩
 rintro m σ H ⟨rfl,p⟩
 refine mono σ H _ _ (fun b H1 q=>?_) (hs σ H p)
 cases b with
 | true=>exact ⟨_,fun σ' H' ⟨p',l⟩=>⟨_,l,rfl,p'⟩,q⟩
 | false=>exact q
end L2
namespace L2
open PySem PySem.Spec PyProof.Rows
abbrev R2:=V→V→Hp→VK→Prop
def OpR (X:Cx) (f:Value→Value→Sem Value) (r:R2):Prop :=
 ∀ (pins:List (Addr×Obj)) (s:Shared) (σ:St) (H:Hp) (x y:V) (v u:Value) (Q:VK),Inv X pins σ H s→RelV x v→RelV y u→r x y H Q→
  wpAny (model X.prog X.w) X.A (f v u) (EP X pins σ Q) X.xe s
def UnR (X:Cx) (f:Value→Sem Value) (r:V→Hp→VK→Prop):Prop :=
 ∀ (pins:List (Addr×Obj)) (s:Shared) (σ:St) (H:Hp) (x:V) (v:Value) (Q:VK),Inv X pins σ H s→RelV x v→r x H Q→
  wpAny (model X.prog X.w) X.A (f v) (EP X pins σ Q) X.xe s
def cT (X:Cx) (f:Value) (r:List V→Hp→VK→Prop):Prop :=
 ∀ (pins:List (Addr×Obj)) (s:Shared) (σ:St) (H:Hp) (xs:List V) (us:List Value) (Q:VK),Inv X pins σ H s→Vals xs us→r xs H Q→
  wpAny (model X.prog X.w) X.A (call f us) (EP X pins σ Q) X.xe s
def Fp (X:Cx) (r:V→Hp→(Bool→Hp→Prop)→Prop):Prop :=
 ∀ (pins:List (Addr×Obj)) (s:Shared) (σ:St) (H:Hp) (x:V) (v:Value) (Q:Bool→Hp→Prop),Inv X pins σ H s→RelV x v→r x H Q→
  wpAny (model X.prog X.w) X.A (truthy v) (TP X pins σ Q) X.xe s
def tOp (r:R2) (ta tb:TE):TE:=fun σ H Q=>ta σ H fun x H1=>tb σ H1 fun y H2=>r x y H2 Q
def tUn (r:V→Hp→VK→Prop) (ta:TE):TE:=fun σ H Q=>ta σ H fun x H1=>r x H1 Q
def rI (C:Int→Int→Prop) (g:Int→Int→V):R2:=fun x y H Q=>∃ i j,x=.int i∧y=.int j∧C i j∧Q (g i j) H
def rI0 (g:Int→Int→V):R2:=fun x y H Q=>∃ i j,x=.int i∧y=.int j∧Q (g i j) H
def rU (g:Int→V):V→Hp→VK→Prop:=fun x H Q=>∃ i,x=.int i∧Q (g i) H
section
variable {X:Cx} {a b c:Expr} {ta tb tc:TE} {pos:Pos}
theorem BE (ha:PE X a ta) (hb:PE X b tb) {pins:List (Addr×Obj)} {s:Shared} {σ:St} {H:Hp} {R:V→V→Hp→Prop} (I:Inv X pins σ H s)
  (h:ta σ H fun x H1=>tb σ H1 fun y H2=>R x y H2) {Q:Value→Shared→Prop} {f:Value→Value→Sem Value}
  (hf:∀ v u s2 x y H2,Inv X pins σ H2 s2→RelV x v→RelV y u→R x y H2→wpAny (model X.prog X.w) X.A (f v u) Q X.xe s2) :
  wpAny (model X.prog X.w) X.A (eval a X.env) (fun v s₁=>wpAny (model X.prog X.w) X.A (eval b X.env) (fun u s₂=>wpAny (model X.prog X.w) X.A (f v u) Q X.xe s₂) X.xe s₁) X.xe s:=by
 refine thn (ha pins s σ H _ I h) fun v s1 ⟨x,H1,I1,r1,q1⟩=>?_
 refine thn (hb pins s1 σ H1 _ I1 q1) fun u s2 ⟨y,H2,I2,r2,q2⟩=>?_
 exact hf v u s2 x y H2 I2 r1 r2 q2
theorem aV {op:Operator} {r:R2} (ho:OpR X (binaryOp op) r) (ha:PE X a ta) (hb:PE X b tb):PE X (.BinOp a op b pos) (tOp r ta tb):=by
 intro pins s σ H Q I h
 exact wpAny_BinOp (BE ha hb I h fun v u s2 x y H2 I2 rx ry q=>ho pins s2 σ H2 x y v u Q I2 rx ry q)
theorem CT {op:UnaryOp} {r:V→Hp→VK→Prop} (ho:UnR X (unaryOp op) r) (ha:PE X a ta):PE X (.UnaryOp op a pos) (tUn r ta):=by
 intro pins s σ H Q I h
 exact UnaryOp_ (thn (ha pins s σ H _ I h) fun v s1 ⟨x,H1,I1,r1,q1⟩=>ho pins s1 σ H1 x v Q I1 r1 q1)
theorem opI {f:Value→Value→Sem Value} {C:Int→Int→Prop} {g:Int→Int→Int}
  (rule:∀ (i j:Int) (t u:Tok) (s:Shared) (Q:Value→Shared→Prop) (E:Value→Shared→Prop),C i j→Q (.int (g i j) s.toks) { s with toks:=s.toks+1 }→wpAny (model X.prog X.w) X.A (f (.int i t) (.int j u)) Q E s) :
  OpR X f (rI C fun i j=>.int (g i j)):=by
 intro pins s σ H x y v u Q I rx ry h
 obtain ⟨i,j,rfl,rfl,hc,q⟩:=h
 obtain ⟨t,rfl⟩:=rx
 obtain ⟨t',rfl⟩:=ry
 exact rule i j t t' s _ _ hc ⟨.int (g i j),H,I.tok _,⟨_,rfl⟩,q⟩
theorem Dw {f:Value→Value→Sem Value} {g:Int→Int→Int}
  (rule:∀ (i j:Int) (t u:Tok) (s:Shared) (Q:Value→Shared→Prop) (E:Value→Shared→Prop),Q (.int (g i j) s.toks) { s with toks:=s.toks+1 }→wpAny (model X.prog X.w) X.A (f (.int i t) (.int j u)) Q E s) :
  OpR X f (rI0 fun i j=>.int (g i j)):=by
 intro pins s σ H x y v u Q I rx ry h
 obtain ⟨i,j,rfl,rfl,q⟩:=h
 obtain ⟨t,rfl⟩:=rx
 obtain ⟨t',rfl⟩:=ry
 exact rule i j t t' s _ _ ⟨.int (g i j),H,I.tok _,⟨_,rfl⟩,q⟩
theorem AZ {f:Value→Value→Sem Value} {g:Int→Int→Bool}
  (rule:∀ (i j:Int) (t u:Tok) (s:Shared) (Q:Value→Shared→Prop) (E:Value→Shared→Prop),Q (.bool (g i j)) s→wpAny (model X.prog X.w) X.A (f (.int i t) (.int j u)) Q E s) :
  OpR X f (rI0 fun i j=>.bl (g i j)):=by
 intro pins s σ H x y v u Q I rx ry h
 obtain ⟨i,j,rfl,rfl,q⟩:=h
 obtain ⟨t,rfl⟩:=rx
 obtain ⟨t',rfl⟩:=ry
 exact rule i j t t' s _ _ ⟨.bl (g i j),H,I,rfl,q⟩
def Dy (i j:Int):Prop:=0<j∧j<1073741824
def Fc (i j:Int):Prop:=j≠0∧j.natAbs<1073741824
def Eh (i j:Int):Prop:=0≤j∧j≤1000000∧i.natAbs<2 ^ 64
def CMul (i j:Int):Prop:=(-(2 ^ 64)<i∧i<2 ^ 64)∨(-(2 ^ 64)<j∧j<2 ^ 64)
theorem CMul.ok {i j:Int} (h:CMul i j):IntMulOk i j:=by
 rcases h with ⟨h1,h2⟩ | ⟨h1,h2⟩
 ·exact .of_left (intBits_le_64 h1 h2)
 ·exact .of_right (intBits_le_64 h1 h2)
theorem bP:OpR X (binaryOp .Add) (rI0 fun i j=>.int (i+j)):=Dw fun _ _ _ _ _ _ _ q=>add_int q
theorem eW:OpR X (binaryOp .Sub) (rI0 fun i j=>.int (i - j)):=Dw fun _ _ _ _ _ _ _ q=>sub_int q
theorem nk:OpR X (binaryOp .Mult) (rI CMul fun i j=>.int (i * j)):=opI fun _ _ _ _ _ _ _ hc q=>mul_int q hc.ok
theorem AO:OpR X (binaryOp .FloorDiv) (rI Dy fun i j=>.int (i / j)):=opI fun i j _ _ _ _ _ hc q=>by
 have h1:(0:Int)<j:=hc.1
 have h2:j<1073741824:=hc.2
 exact floordiv_int (by omega) (by rw [Int.fdiv_eq_ediv_of_nonneg i (by omega)]; exact q) (.inl (PyProof.noPylong_small (by omega)))
theorem l7:OpR X (binaryOp .Mod) (rI (fun _ j=>0<j) fun i j=>.int (i % j)):=opI fun i j _ _ _ _ _ hc q=>by
 have h1:(0:Int)<j:=hc
 exact mod_int' (by omega) (by rw [Int.fmod_eq_emod_of_nonneg i (by omega)]; exact q)
theorem BC:OpR X (binaryOp .Pow) (rI Eh fun i j=>.int (i ^ j.toNat)):=opI fun _ _ _ _ _ _ _ hc q=>pow_int_small hc.1 hc.2.1 hc.2.2 q
theorem unI {f:Value→Sem Value} {g:Int→Int}
  (rule:∀ (i:Int) (t:Tok) (s:Shared) (Q:Value→Shared→Prop) (E:Value→Shared→Prop),Q (.int (g i) s.toks) { s with toks:=s.toks+1 }→wpAny (model X.prog X.w) X.A (f (.int i t)) Q E s) :
  UnR X f (rU fun i=>.int (g i)):=by
 intro pins s σ H x v Q I rx h
 obtain ⟨i,rfl,q⟩:=h
 obtain ⟨t,rfl⟩:=rx
 exact rule i t s _ _ ⟨.int (g i),H,I.tok _,⟨_,rfl⟩,q⟩
theorem Cf:UnR X (unaryOp .USub) (rU fun i=>.int (-i)):=unI fun _ _ _ _ _ q=>neg_int q
end
def Dv:V→V→Bool
 | .non,.non=>true | .non,.int _=>true | .int _,.non=>true | .non,.bl _=>true | .bl _,.non=>true | .non,.str _=>true | .str _,.non=>true
 | .int _,.int _=>true | .bl _,.bl _=>true | .str _,.str _=>true | .byt _,.byt _=>true
 | .int _,.str _=>true | .str _,.int _=>true | .bl _,.str _=>true | .str _,.bl _=>true
 | _,_=>false
def rEq:R2:=fun x y H Q=>Dv x y=true∧Q (.bl (decide (x=y))) H
def rNe:R2:=fun x y H Q=>Dv x y=true∧Q (.bl (!decide (x=y))) H
theorem um {i j:Int}:decide (V.int i=V.int j)=(i == j):=by
 rw [Bool.eq_iff_iff]
 simp
theorem zm {i j:Bool}:decide (V.bl i=V.bl j)=(i == j):=by
 rw [Bool.eq_iff_iff]
 simp
theorem ud {i j:Str}:decide (V.str i=V.str j)=(i == j):=by
 rw [Bool.eq_iff_iff]
 simp
theorem uq {i j:Array UInt8}:decide (V.byt i=V.byt j)=(i.toList == j.toList):=by
 rw [Bool.eq_iff_iff]
 cases i
 cases j
 simp
section
variable {X:Cx} {a b c:Expr} {ta tb tc:TE} {pos:Pos}
theorem bo {pins:List (Addr×Obj)} {σ:St} {H:Hp} {s:Shared} {Q:VK} {k k':Bool} (I:Inv X pins σ H s) (q:Q (.bl k) H) (e:k=k'):EP X pins σ Q (.bool k') s:=by
 subst e
 exact ⟨.bl k,H,I,rfl,q⟩
theorem bN:OpR X (compareOp .Eq) rEq:=by
 intro pins s σ H x y v u Q I rx ry h
 obtain ⟨hs,q⟩:=h
 cases x with
 | non =>
  cases rx
  cases y with
  | non=>cases ry; exact PySem.EqNone.eq_none_none (bo I q (by simp))
  | bl j=>cases ry; exact PySem.EqNone.eq_none_bool (bo I q (by simp))
  | int j=>obtain ⟨t',rfl⟩:=ry; exact PySem.EqNone.eq_none_int (bo I q (by simp))
  | str j=>obtain ⟨t',rfl⟩:=ry; exact PySem.EqNone.eq_none_str (bo I q (by simp))
  | _=>exact absurd (show false=true from hs) Bool.false_ne_true
 | bl i =>
  cases rx
  cases y with
  | non=>cases ry; exact PySem.EqNone.eq_bool_none (bo I q (by simp))
  | bl j=>cases ry; exact eq_bool (bo I q zm)
  | str j=>obtain ⟨t',rfl⟩:=ry; exact PySem.EqMixed.eq_bool_str (bo I q (by simp))
  | _=>exact absurd (show false=true from hs) Bool.false_ne_true
 | int i =>
  obtain ⟨t,rfl⟩:=rx
  cases y with
  | non=>cases ry; exact PySem.EqNone.eq_int_none (bo I q (by simp))
  | int j=>obtain ⟨t',rfl⟩:=ry; exact eq_int (bo I q um)
  | str j=>obtain ⟨t',rfl⟩:=ry; exact PySem.EqMixed.eq_int_str (bo I q (by simp))
  | _=>exact absurd (show false=true from hs) Bool.false_ne_true
 | str i =>
  obtain ⟨t,rfl⟩:=rx
  cases y with
  | non=>cases ry; exact PySem.EqNone.eq_str_none (bo I q (by simp))
  | bl j=>cases ry; exact PySem.EqMixed.eq_str_bool (bo I q (by simp))
  | int j=>obtain ⟨t',rfl⟩:=ry; exact PySem.EqMixed.eq_str_int (bo I q (by simp))
  | str j=>obtain ⟨t',rfl⟩:=ry; exact eq_str (bo I q ud)
  | _=>exact absurd (show false=true from hs) Bool.false_ne_true
 | byt i =>
  obtain ⟨t,rfl⟩:=rx
  cases y with
  | byt j=>obtain ⟨t',rfl⟩:=ry; exact PySem.W.eq_bytes (bo I q uq)
  | _=>exact absurd (show false=true from hs) Bool.false_ne_true
 | _=>cases y <;> exact absurd (show false=true from hs) Bool.false_ne_true
theorem iI:OpR X (compareOp .NotEq) rNe:=by
 intro pins s σ H x y v u Q I rx ry h
 obtain ⟨hs,q⟩:=h
 cases x with
 | non =>
  cases rx
  cases y with
  | non=>cases ry; exact PySem.EqNone.ne_none_none (bo I q (by simp))
  | bl j=>cases ry; exact PySem.EqNone.ne_none_bool (bo I q (by simp))
  | int j=>obtain ⟨t',rfl⟩:=ry; exact PySem.EqNone.ne_none_int (bo I q (by simp))
  | str j=>obtain ⟨t',rfl⟩:=ry; exact PySem.EqNone.ne_none_str (bo I q (by simp))
  | _=>exact absurd (show false=true from hs) Bool.false_ne_true
 | bl i =>
  cases rx
  cases y with
  | non=>cases ry; exact PySem.EqNone.ne_bool_none (bo I q (by simp))
  | bl j=>cases ry; exact ne_bool (bo I q (congrArg not zm))
  | str j=>obtain ⟨t',rfl⟩:=ry; exact PySem.EqMixed.ne_bool_str (bo I q (by simp))
  | _=>exact absurd (show false=true from hs) Bool.false_ne_true
 | int i =>
  obtain ⟨t,rfl⟩:=rx
  cases y with
  | non=>cases ry; exact PySem.EqNone.ne_int_none (bo I q (by simp))
  | int j=>obtain ⟨t',rfl⟩:=ry; exact ne_int (bo I q (congrArg not um))
  | str j=>obtain ⟨t',rfl⟩:=ry; exact PySem.EqMixed.ne_int_str (bo I q (by simp))
  | _=>exact absurd (show false=true from hs) Bool.false_ne_true
 | str i =>
  obtain ⟨t,rfl⟩:=rx
  cases y with
  | non=>cases ry; exact PySem.EqNone.ne_str_none (bo I q (by simp))
  | bl j=>cases ry; exact PySem.EqMixed.ne_str_bool (bo I q (by simp))
  | int j=>obtain ⟨t',rfl⟩:=ry; exact PySem.EqMixed.ne_str_int (bo I q (by simp))
  | str j=>obtain ⟨t',rfl⟩:=ry; exact ne_str (bo I q (congrArg not ud))
  | _=>exact absurd (show false=true from hs) Bool.false_ne_true
 | byt i =>
  obtain ⟨t,rfl⟩:=rx
  cases y with
  | byt j=>obtain ⟨t',rfl⟩:=ry; exact PySem.W.ne_bytes (bo I q (congrArg not uq))
  | _=>exact absurd (show false=true from hs) Bool.false_ne_true
 | _=>cases y <;> exact absurd (show false=true from hs) Bool.false_ne_true
theorem lI:OpR X (compareOp .Lt) (rI0 fun i j=>.bl (decide (i<j))):=AZ fun _ _ _ _ _ _ _ q=>lt_int q
theorem eV:OpR X (compareOp .LtE) (rI0 fun i j=>.bl (decide (i≤j))):=AZ fun _ _ _ _ _ _ _ q=>le_int q
theorem y7:OpR X (compareOp .Gt) (rI0 fun i j=>.bl (decide (j<i))):=AZ fun _ _ _ _ _ _ _ q=>gt_int q
theorem Bd:OpR X (compareOp .GtE) (rI0 fun i j=>.bl (decide (j≤i))):=AZ fun _ _ _ _ _ _ _ q=>ge_int q
theorem oz:OpR X (compareOp .In) (fun x y H Q=>∃ i j,x=.str i∧y=.str j∧Q (.bl (!(Builtin.Str.occurrences j i 0 j.length 1).isEmpty)) H):=by
 intro pins s σ H x y v u Q I rx ry h
 obtain ⟨i,j,rfl,rfl,q⟩:=h
 obtain ⟨t,rfl⟩:=rx
 obtain ⟨t',rfl⟩:=ry
 exact in_str (bo I q rfl)
theorem gu:OpR X (compareOp .Is) (fun x y H Q=>y=.non∧Q (.bl (decide (x=.non))) H):=by
 intro pins s σ H x y v u Q I rx ry h
 obtain ⟨rfl,q⟩:=h
 cases ry
 refine is_none_gen (bo I q ?_)
 cases x <;> first
  | (cases rx; rfl)
  | (obtain ⟨t,rfl⟩:=rx; rfl)
theorem il:OpR X (compareOp .IsNot) (fun x y H Q=>y=.non∧Q (.bl (!decide (x=.non))) H):=by
 intro pins s σ H x y v u Q I rx ry h
 obtain ⟨rfl,q⟩:=h
 cases ry
 refine isnot_none_gen (bo I q ?_)
 cases x <;> first
  | (cases rx; rfl)
  | (obtain ⟨t,rfl⟩:=rx; rfl)
def isObj:HO→Bool
 | .lst _=>true
 | .ins _ _ _=>true
 | _=>false
theorem aI (b:Expr) {op:CmpOp} (h:op≠.In:=by decide) (h2:op≠.NotIn:=by decide):behindInMarks op b=false:=by
 have e1:(op == CmpOp.In)=false:=by cases op <;> first | rfl | exact absurd rfl h
 have e2:(op == CmpOp.NotIn)=false:=by cases op <;> first | rfl | exact absurd rfl h2
 cases b <;> simp [behindInMarks,e1,e2]
theorem cU {op:CmpOp} {r:R2} (ho:OpR X (compareOp op) r) (ha:PE X a ta) (hb:PE X b tb) (hm:behindInMarks op b=false):PE X (.Compare a [op] [b] pos) (tOp r ta tb):=by
 intro pins s σ H Q I h
 exact wpAny_Compare1 (BE ha hb I h fun v u s2 x y H2 I2 rx ry q=>ho pins s2 σ H2 x y v u Q I2 rx ry q) hm
def A2 (t:TE):TT:=fun σ H Q=>t σ H fun x H'=>∃ k,x=.bl k∧Q k H'
theorem az {op:CmpOp} {r:R2} (ho:OpR X (compareOp op) r) (ha:PE X a ta) (hb:PE X b tb) (hm:behindInMarks op b=false):PT X (.Compare a [op] [b] pos) (A2 (tOp r ta tb)):=by
 intro pins s σ H Q I h
 refine wpAny_isTrue_Compare1 (thn (ha pins s σ H _ I h) fun v s1 ⟨x,H1,I1,r1,q1⟩=>thn (hb pins s1 σ H1 _ I1 q1) fun u s2 ⟨y,H2,I2,r2,q2⟩ =>
  thn (ho pins s2 σ H2 x y v u _ I2 r1 r2 q2) fun c s3 ⟨z,H3,I3,r3,k,e,q3⟩=>?_) hm
 subst e
 cases r3
 exact wpAny_truthy_bool ⟨H3,I3,q3⟩
def za (r r':R2) (ta tb tc:TE):TE:=fun σ H Q=>ta σ H fun x H1=>tb σ H1 fun y H2=>r x y H2 fun z H3=>∃ k,z=.bl k∧
 (if k=true then tc σ H3 fun w' H4=>r' y w' H4 Q else Q (.bl false) H3)
theorem xO {op op':CmpOp} {r r':R2} (ho:OpR X (compareOp op) r) (ho':OpR X (compareOp op') r') (ha:PE X a ta) (hb:PE X b tb) (hc:PE X c tc)
  (hm:lastMarks [op,op'] [b,c]=false:=by with_unfolding_all rfl):PE X (.Compare a [op,op'] [b,c] pos) (za r r' ta tb tc):=by
 intro pins s σ H Q I h
 refine Compare_chain (thn (ha pins s σ H _ I h) fun v s1 ⟨x,H1,I1,r1,q1⟩=>chain_link (thn (hb pins s1 σ H1 _ I1 q1) fun u s2 ⟨y,H2,I2,r2,q2⟩ =>
  thn (ho pins s2 σ H2 x y v u _ I2 r1 r2 q2) fun d s3 ⟨z,H3,I3,r3,k,e,q3⟩=>?_)) hm
 subst e
 cases r3
 refine wpAny_truthy_bool ?_
 cases k with
 | false=>exact ite_ff ⟨.bl false,H3,I3,rfl,q3⟩
 | true=>exact ite_tt (chain_last (thn (hc pins s3 σ H3 _ I3 q3) fun w' s4 ⟨z',H4,I4,r4,q4⟩=>ho' pins s4 σ H4 y z' u w' Q I4 r2 r4 q4))
theorem e8 {op op':CmpOp} {r r':R2} (ho:OpR X (compareOp op) r) (ho':OpR X (compareOp op') r') (ha:PE X a ta) (hb:PE X b tb) (hc:PE X c tc)
  (hm:lastMarks [op,op'] [b,c]=false:=by with_unfolding_all rfl):PT X (.Compare a [op,op'] [b,c] pos) (A2 (za r r' ta tb tc)):=by
 intro pins s σ H Q I h
 refine isTrue_chain (thn (ha pins s σ H _ I h) fun v s1 ⟨x,H1,I1,r1,q1⟩=>test_link (thn (hb pins s1 σ H1 _ I1 q1) fun u s2 ⟨y,H2,I2,r2,q2⟩ =>
  thn (ho pins s2 σ H2 x y v u _ I2 r1 r2 q2) fun d s3 ⟨z,H3,I3,r3,k,e,q3⟩=>?_)) hm
 subst e
 cases r3
 refine wpAny_truthy_bool ?_
 cases k with
 | false =>
  obtain ⟨k',e',q'⟩:=q3
  cases e'
  exact ite_ff ⟨H3,I3,q'⟩
 | true =>
  refine ite_tt (test_last (thn (hc pins s3 σ H3 _ I3 q3) fun w' s4 ⟨z',H4,I4,r4,q4⟩=>thn (ho' pins s4 σ H4 y z' u w' _ I4 r2 r4 q4) fun d' s5 ⟨z2,H5,I5,r5,k2,e2,q5⟩=>?_))
  subst e2
  cases r5
  exact wpAny_truthy_bool ⟨H5,I5,q5⟩
def FU (K:PySem.W.Frag) (x:V) (H:Hp) (k:Bool):Prop :=
 match x with
 | .non=>k=false
 | .bl b=>k=b
 | .int i=>k=(i != 0)
 | .str y=>y.length≤sizeLine∧k=((y.length:Int) != 0)
 | .byt y=>y.size≤sizeLine∧k=((y.size:Int) != 0)
 | .ref p=>(∃ xs,SqL K H p xs∧k=!xs.isEmpty)∨(∃ xs,SqT K H p xs∧k=!xs.isEmpty)∨∃ kvs,H p=some (.dK kvs)∧k=!kvs.isEmpty
 | _=>False
theorem jI:(sizeLine:Nat)<2 ^ 63:=by rw [sizeLine_eq]; decide
theorem bq:OpR X (binaryOp .Add) (fun x y H Q=>∃ i j,x=.str i∧y=.str j∧i.length+j.length≤sizeLine∧Q (.str (i++j)) H):=by
 intro pins s σ H x y v u Q I rx ry h
 obtain ⟨i,j,rfl,rfl,hz,q⟩:=h
 obtain ⟨t,rfl⟩:=rx
 obtain ⟨t',rfl⟩:=ry
 exact add_str (fun t' tk=>⟨.str (i++j),H,I.tok _,⟨_,rfl⟩,q⟩) hz
def CP (b:Expr):Prop:=∀ o i,subscripted b false o i=operate [o,i] (getItem o i)
theorem vals1 {x:V} {us:List Value} (r:Vals [x] us):∃ u,us=[u]∧RelV x u:=by
 cases r with
 | cons r1 r2=>cases r2; exact ⟨_,rfl,r1⟩
theorem vals2 {x y:V} {us:List Value} (r:Vals [x,y] us):∃ u w',us=[u,w']∧RelV x u∧RelV y w':=by
 cases r with
 | cons r1 r2 =>
  cases r2 with
  | cons r3 r4=>cases r4; exact ⟨_,_,rfl,r1,r3⟩
theorem vk (hc:X.calm=true):cT X (.builtin "max") (fun xs H Q=>∃ i j,xs=[.int i,.int j]∧Q (.int (if j > i then j else i)) H):=by
 intro pins s σ H xs us Q I r h
 obtain ⟨i,j,rfl,q⟩:=h
 obtain ⟨u,w',rfl,⟨t,rfl⟩,⟨t',rfl⟩⟩:=vals2 r
 refine max_two_ints (I.ok.hd hc) fun h' tk k=>⟨_,H,I.kept k,?_,q⟩
 by_cases hj:j > i
 ·rw [if_pos hj,if_pos hj]; exact ⟨_,rfl⟩
 ·rw [if_neg hj,if_neg hj]; exact ⟨_,rfl⟩
theorem vv (hc:X.calm=true):cT X (.builtin "min") (fun xs H Q=>∃ i j,xs=[.int i,.int j]∧Q (.int (if j<i then j else i)) H):=by
 intro pins s σ H xs us Q I r h
 obtain ⟨i,j,rfl,q⟩:=h
 obtain ⟨u,w',rfl,⟨t,rfl⟩,⟨t',rfl⟩⟩:=vals2 r
 refine min_two_ints (I.ok.hd hc) fun h' tk k=>⟨_,H,I.kept k,?_,q⟩
 by_cases hj:j<i
 ·rw [if_pos hj,if_pos hj]; exact ⟨_,rfl⟩
 ·rw [if_neg hj,if_neg hj]; exact ⟨_,rfl⟩
theorem gi:cT X (.type "int") (fun xs H Q=>(∃ i,xs=[.int i]∧Q (.int i) H)∨∃ k,xs=[.bl k]∧Q (.int (if k then 1 else 0)) H):=by
 intro pins s σ H xs us Q I r h
 rcases h with ⟨i,rfl,q⟩ | ⟨k,rfl,q⟩
 ·obtain ⟨u,rfl,t,rfl⟩:=vals1 r
  exact call_int_int ⟨.int i,H,I,⟨_,rfl⟩,q⟩
 ·obtain ⟨u,rfl,r1⟩:=vals1 r
  cases r1
  exact call_int_bool ⟨.int (if k then 1 else 0),H,I.tok _,⟨_,rfl⟩,q⟩
theorem i5:cT X (.type "str") (fun xs H Q=>∃ i,xs=[.int i]∧i.natAbs.log2<1920∧Q (.str (toString i)) H):=by
 intro pins s σ H xs us Q I r h
 obtain ⟨i,rfl,hz,q⟩:=h
 obtain ⟨u,rfl,t,rfl⟩:=vals1 r
 exact PySem.P.str_of_int hz ⟨.str _,H,I.tok _,⟨_,rfl⟩,q⟩
def FJ (K:PySem.W.Frag) (x:V) (H:Hp) (n:Nat):Prop :=
 match x with
 | .str y=>y.length≤sizeLine∧n=y.length
 | .byt y=>y.size≤sizeLine∧n=y.size
 | .ref p=>(∃ xs,SqL K H p xs∧n=xs.length)∨∃ xs,SqT K H p xs∧n=xs.length
 | _=>False
theorem qR:cT X (.builtin "divmod") (fun xs H Q=>∃ i j,xs=[.int i,.int j]∧Dy i j∧∀ p,H p=none→Q (.ref p) (upd H p (.tup [.int (i / j),.int (i % j)]))):=by
 intro pins s σ H xs us Q I r h
 obtain ⟨i,j,rfl,⟨h1,h2⟩,q⟩:=h
 obtain ⟨u,w',rfl,⟨t,rfl⟩,⟨t',rfl⟩⟩:=vals2 r
 refine divmod_int (by omega) ?_ (.inl (PyProof.noPylong_small (by omega)))
 rw [Int.fdiv_eq_ediv_of_nonneg i (by omega),Int.fmod_eq_emod_of_nonneg i (by omega)]
 have hn:H s.heap.objs.size=none:=I.hok.fresh (Nat.le_refl _)
 refine ⟨.ref s.heap.objs.size,_,?_,rfl,q _ hn⟩
 refine I.laid (fun b o e=>Heap.get?_push_of_some _ e) (Nat.le_refl _) ⟨by simp only [List.length_cons,List.length_nil]; rw [sizeLine_eq]; decide,[.int (i / j) s.toks,.int (i % j) (s.toks+1)],.cons ⟨_,rfl⟩ (.cons ⟨_,rfl⟩ .nil),?_⟩
 exact ⟨_,Heap.get?_push_size s.heap rfl,rfl,0,rfl⟩
end
end L2
namespace L2
open PySem PySem.Spec PyProof.Rows
structure ObjM (h:Heap) (x dx C:Addr) (mA:Str→Option Value):Prop where
 obj:h.get? x=some (PySem.W.instObj C dx)
 ns:h.Ns1 dx mA
 ne:dx≠x
theorem vf {h:Heap} {dx:Addr} {mA:Str→Option Value} (n:h.Ns1 dx mA):∃ od,h.get? dx=some od∧∀ name,PySem.W.lookIn name od=some (mA name):=by
 obtain ⟨o,es,ep,ho,hd,hk,_,hm⟩:=n
 refine ⟨o,ho,fun name=>?_⟩
 have e:=hm name
 unfold nsFind findBy at e
 rw [← Array.find?_toList] at e
 unfold PySem.W.lookIn
 rw [hd]
 dsimp only
 split
 ·rename_i y q
  rw [q] at e
  exact congrArg some e
 ·rename_i q
  rw [q] at e
  have a:es.toList.any (·.refKey)=false:=by
   rw [List.any_eq_false]
   intro y hy
   obtain ⟨z,t,hkey⟩:=hk y (Array.mem_toList_iff.mp hy)
   simp [DictEntry.refKey,hkey]
  have a':¬ es.toList.any (·.refKey)=true:=by rw [a]; exact Bool.false_ne_true
  rw [if_neg a']
  exact congrArg some e
theorem ObjM.look {h:Heap} {x dx C:Addr} {mA:Str→Option Value} (I:ObjM h x dx C mA):∃ od,PySem.W.InstAt h x (PySem.W.instObj C dx) C (some od)∧∀ name,PySem.W.lookIn name od=some (mA name) :=
 let ⟨od,ho,hl⟩:=vf I.ns
 ⟨od,⟨I.obj,rfl,rfl,ho⟩,hl⟩
section
variable {prog:Program} {w:World} {A:Around} {E:Value→Shared→Prop} {s:Shared} {K:PySem.W.Frag} {x dx C f:Addr} {mA:Str→Option Value} {name:Str} {v:Value}
theorem get_map {expr:Bool} {Q:Value→Shared→Prop} (X:K.In s.heap) (I:ObjM s.heap x dx C mA) (hg:PySem.W.plainGet K C name=true) (hh:PySem.W.hasDictIn K C=true)
  (ha:PySem.W.findIn K (.ref C) name=some none) (hv:mA name=some v) (hv':PySem.W.handedIn v=true) (h:Q v { s with toks:=s.toks+1 }) :
  wpAny (model prog w) A (getAttr (.ref x) name expr) Q E s:=by
 obtain ⟨od,J,hl⟩:=I.look
 exact PySem.W.get_value X J (PySem.W.plainGet_of hg).1 (PySem.W.findObj_own hh ha rfl (by rw [hl,hv])) hv' h
theorem yw {pl:Sem Bool} {Q:Value×List Value→Shared→Prop} (X:K.In s.heap) (I:ObjM s.heap x dx C mA) (hg:PySem.W.plainGet K C name=true)
  (hf:PySem.W.findIn K (.ref C) name=some (some (.ref f))) (ht:PySem.W.isFn K (.ref f)=true) (hv:mA name=none) (h:Q (.ref f,[.ref x]) s) :
  wpAny (model prog w) A (getMethod (.ref x) name pl) Q E s:=by
 obtain ⟨od,J,hl⟩:=I.look
 exact PySem.W.method_fn X J (PySem.W.plainGet_of hg).1 (PySem.W.plainGet_of hg).2 hf (beq_iff_eq.mp ht) (by show (PySem.W.lookIn name od).map (·.isSome)=some false; rw [hl,hv]; rfl) h
theorem z0 {ns:List Str} {Q:Unit→Shared→Prop} (X:K.In s.heap) (I:ObjM s.heap x dx C mA)
  (hs:PySem.W.findIn K (.ref C) "__setattr__"=some (some (.builtin "object.__setattr__"))) (hp:PySem.W.plainOver K C=true) (ht:PySem.W.takerIn K C name=some none) (hh:PySem.W.hasDictIn K C=true)
  (hw:PySem.Within mA ns) (hsz:ns.length≤sizeLine)
  (h:∀ h',ObjM h' x dx C (fun y=>if y=name then some v else mA y)→Heap.SameBut dx s.heap h'→Q () { s with heap:=h',toks:=s.toks+2 }) :
  wpAny (model prog w) A (setAttr (.ref x) name v) Q E s:=by
 obtain ⟨od,J,hl⟩:=I.look
 refine PySem.W.set_plain X J hs (PySem.W.osa_open (s:={ s with toks:=s.toks+1 }) (r:=none) X J hp ht fun b=>?_)
 obtain ⟨cd,hc,hd'⟩:=PySem.W.any_some hh
 have hx:s.heap.get? x=some ⟨.ref C,some dx,.plain,#[]⟩:=I.obj
 refine wpAny_bind (wpAny_pure (wpAny_bind (wpAny_bind (wpAny_loadPart hx (wpAny_bind (PySem.W.Looks.here (s:={ s with toks:=s.toks+1 }) (PySem.W.looks_clsIn X hc) ?_))))))
 rw [hd']
 refine wpAny_pure (a:=some dx) (wpAny_bind (wpAny_pure (wpAny_bind ?_)))
 refine wpAny_nsSet1 (s:={ s with toks:=s.toks+1 }) I.ns fun h' hn2 hs2=>?_
 obtain ⟨oD,esD,epD,hoD,hdD,hcD⟩:=hn2.count (PySem.Within.cons name v hw)
 refine wpAny_bind (wpAny_lookBehind hoD (by rw [hdD]; exact pastItsLine_dict (Nat.le_trans hcD (by rw [List.length_cons]; omega))) ?_)
 exact wpAny_pure (h _ ⟨(hs2.2 _ (Ne.symm I.ne)).trans I.obj,hn2,I.ne⟩ hs2)
theorem yp {R:Result→Shared→Prop} {vs:List Value} {kw:List (Str×Value)} (X:K.In s.heap) (hm:PySem.W.makesIn K C=true)
  (hi:PySem.W.findIn K (.ref C) "__init__"=some (some (.ref f))) (hf:PySem.W.typeIn K (.ref f)=some (.type "function"))
  (h:codeAny (model prog w) (A.under (.builtin "type.__call__" ⟨.ref C::vs,kw⟩)) (.call (.ref f) ⟨.ref (s.heap.objs.size+1)::vs,kw⟩) (PySem.W.InitBack (s.heap.objs.size+1) R)
   { s with heap:=(s.heap.push PySem.W.emptyDict).push (PySem.W.instObj C s.heap.objs.size) }) :
  codeAny (model prog w) A (.call (.ref C) ⟨vs,kw⟩) R s:=by
 obtain ⟨hh,g,d,t,os⟩:=s
 exact PySem.W.make_core (PySem.W.makes_of X hm) (PySem.W.looks_findIn X hi) (fun self=>PySem.W.bind_fn X self hf) (.inl rfl) h
end
def hG (f:Str) (v:V):List (Str×V)→List (Str×V)
 | []=>[(f,v)]
 | (g,x)::r=>if g=f then (g,v)::r else (g,x)::hG f v r
theorem ky (f g:Str) (v:V):∀ fs:List (Str×V),(hG f v fs).lookup g=if g=f then some v else fs.lookup g
 | []=>by
  show List.lookup g [(f,v)]=_
  by_cases h:g=f
  ·have hb:(g == f)=true:=beq_iff_eq.mpr h
   simp only [List.lookup,hb,if_pos h]
  ·have hb:(g == f)=false:=beq_eq_false_iff_ne.mpr h
   simp only [List.lookup,hb,if_neg h]
 | (k,x)::r=>by
  have ih:=ky f g v r
  rw [show hG f v ((k,x)::r)=(if k=f then (k,v)::r else (k,x)::hG f v r) from rfl]
  by_cases hk:k=f
  ·rw [if_pos hk]
   by_cases h:g=k
   ·have hb:(g == k)=true:=beq_iff_eq.mpr h
    simp only [List.lookup,hb,if_pos (h.trans hk)]
   ·have hb:(g == k)=false:=beq_eq_false_iff_ne.mpr h
    simp only [List.lookup,hb,if_neg (fun e:g=f=>h (e.trans hk.symm))]
  ·rw [if_neg hk]
   by_cases h:g=k
   ·have hb:(g == k)=true:=beq_iff_eq.mpr h
    simp only [List.lookup,hb,if_neg (fun e:g=f=>hk (h.symm.trans e))]
   ·have hb:(g == k)=false:=beq_eq_false_iff_ne.mpr h
    simp only [List.lookup,hb]
    exact ih
theorem j7 (f:Str) (v:V):∀ fs:List (Str×V),f∈(hG f v fs).map (·.1)∧∀ g,g∈fs.map (·.1)→g∈(hG f v fs).map (·.1)
 | []=>⟨by simp [hG],fun g h=>by simp at h⟩
 | (k,x)::r=>by
  obtain ⟨i1,i2⟩:=j7 f v r
  rw [show hG f v ((k,x)::r)=(if k=f then (k,v)::r else (k,x)::hG f v r) from rfl]
  by_cases hk:k=f
  ·rw [if_pos hk]
   subst hk
   exact ⟨by simp,fun g h=>by simpa using h⟩
  ·rw [if_neg hk]
   refine ⟨?_,fun g h=>?_⟩
   ·rw [List.map_cons]
    exact List.mem_cons_of_mem _ i1
   ·rw [List.map_cons] at h ⊢
    rcases List.mem_cons.mp h with e | e
    ·exact List.mem_cons.mpr (.inl e)
    ·exact List.mem_cons_of_mem _ (i2 g e)
theorem kz (f:Str) (v:V):∀ fs:List (Str×V),(hG f v fs).length≤fs.length+1
 | []=>by simp [hG]
 | (k,x)::r=>by
  have ih:=kz f v r
  rw [show hG f v ((k,x)::r)=(if k=f then (k,v)::r else (k,x)::hG f v r) from rfl]
  by_cases hk:k=f
  ·rw [if_pos hk,List.length_cons,List.length_cons]; omega
  ·rw [if_neg hk,List.length_cons,List.length_cons]; omega
theorem RelO.some_of {v:V} {o:Option Value} (r:RelO (some v) o):∃ u,o=some u∧RelV v u:=by
 cases o with
 | none=>exact (show False from r).elim
 | some u=>exact ⟨u,rfl,r⟩
theorem RelO.none_of {o:Option Value} (r:RelO none o):o=none:=by
 cases o with
 | none=>rfl
 | some u=>exact (show False from r).elim
theorem v8 {v:V} {u:Value} (r:RelV v u):PySem.W.handedIn u=true:=by
 cases v with
 | non=>cases (show u=Value.none from r); rfl
 | bl b=>cases (show u=Value.bool b from r); rfl
 | int i=>obtain ⟨t,e⟩:=(show ∃ t,u=Value.int i t from r); cases e; rfl
 | str x=>obtain ⟨t,e⟩:=(show ∃ t,u=Value.str x t from r); cases e; rfl
 | byt b=>obtain ⟨t,e⟩:=(show ∃ t,u=Value.bytes b t from r); cases e; rfl
 | flt b=>obtain ⟨t,e⟩:=(show ∃ t,u=Value.float b t from r); cases e; rfl
 | ref a=>cases (show u=Value.ref a from r); rfl
 | ty n=>cases (show u=Value.type n from r); rfl
section
variable {P:Program} {w:World} {H H':Hp} {h h':Heap} {a C dx:Addr} {fs fs':List (Str×V)}
theorem kS (hok:HOk P w H h) (e:H a=some (.ins C dx fs)):∃ mA,ObjM h a dx C mA∧(∀ f,RelO (fs.lookup f) (mA f))∧PySem.Within mA (fs.map (·.1))∧fs.length≤1000∧H dx=some (.own a):=by
 obtain ⟨d,z,ne,ob,mA,n,r,q⟩:=(show ObjOk P w H h a (.ins C dx fs) from hok a _ e)
 exact ⟨mA,⟨ob,n,ne⟩,r,q,z,d⟩
end
structure Cls (K:PySem.W.Frag) (C:Addr):Prop where
 pg:PySem.W.plainGet K C Str.empty=true
 hd:PySem.W.hasDictIn K C=true
 po:PySem.W.plainOver K C=true
 sa:PySem.W.findIn K (.ref C) "__setattr__"=some (some (.builtin "object.__setattr__"))
theorem Cls.get {K:PySem.W.Frag} {C:Addr} (c:Cls K C) (f:Str):PySem.W.plainGet K C f=true:=c.pg
def NoAttr (K:PySem.W.Frag) (C:Addr) (f:Str):Prop:=PySem.W.findIn K (.ref C) f=some none
theorem NoAttr.taker {K:PySem.W.Frag} {C:Addr} {f:Str} (n:NoAttr K C f):PySem.W.takerIn K C f=some none:=by
 unfold PySem.W.takerIn
 rw [show PySem.W.findIn K (.ref C) f=some none from n]
 rfl
structure Con (K:PySem.W.Frag) (C:Addr) (f:Str) (v:V) (u:Value):Prop where
 at_:PySem.W.findIn K (.ref C) f=some (some u)
 rel:RelV v u
 get:PySem.W.specialIn K u "__get__"=some none
 cp:PySem.W.copiedNames.contains f=false
structure Meth (K:PySem.W.Frag) (C:Addr) (m:Str) (f:Addr):Prop where
 at_:PySem.W.findIn K (.ref C) m=some (some (.ref f))
 fn:PySem.W.isFn K (.ref f)=true
 kp:PySem.W.keepIn K (.ref f)=true
section
variable {X:Cx} {pins:List (Addr×Obj)} {σ:St} {H:Hp} {s:Shared} {a C dx:Addr} {fs:List (Str×V)} {f:Str} {v:V} {A:Around} {E:Value→Shared→Prop}
theorem tf {b:Bool} {Q:Value→Shared→Prop} (I:Inv X pins σ H s) (e:H a=some (.ins C dx fs)) (c:Cls X.K C) (n:NoAttr X.K C f) (l:fs.lookup f=some v)
  (h:∀ u s',Inv X pins σ H s'→RelV v u→Q u s'):wpAny (model X.prog X.w) A (getAttr (.ref a) f b) Q E s:=by
 obtain ⟨mA,O,r,_,_,_⟩:=kS I.hok e
 obtain ⟨u,hu,ru⟩:=RelO.some_of (v:=v) (o:=mA f) (by rw [← l]; exact r f)
 exact get_map I.kIn O (c.get f) c.hd n hu (v8 ru) (h u _ (I.tok _) ru)
theorem lC {m:Str} {g:Addr} {pl:Sem Bool} {Q:Value×List Value→Shared→Prop} (I:Inv X pins σ H s) (e:H a=some (.ins C dx fs)) (c:Cls X.K C) (k:Meth X.K C m g) (l:fs.lookup m=none)
  (h:Q (.ref g,[.ref a]) s):wpAny (model X.prog X.w) A (getMethod (.ref a) m pl) Q E s:=by
 obtain ⟨mA,O,r,_,_,_⟩:=kS I.hok e
 have hn:mA m=none:=RelO.none_of (by rw [← l]; exact r m)
 exact yw I.kIn O (c.get m) k.at_ k.fn hn h
theorem sQ {y:V} {u:Value} {Q:Unit→Shared→Prop} (I:Inv X pins σ H s) (e:H a=some (.ins C dx fs)) (c:Cls X.K C) (n:NoAttr X.K C f) (hl:fs.length<1000) (ry:RelV y u)
  (h:∀ s',Inv X pins σ (upd H a (.ins C dx (hG f y fs))) s'→Q () s'):wpAny (model X.prog X.w) A (setAttr (.ref a) f u) Q E s:=by
 obtain ⟨mA,O,r,wi,_,ho⟩:=kS I.hok e
 have hz:(fs.map (·.1)).length≤sizeLine:=by rw [List.length_map,sizeLine_eq]; omega
 refine z0 I.kIn O c.sa c.po n.taker c.hd wi hz fun h' O' sb=>h _ ?_
 have hd:∃ o,h'.get? dx=some o:=let ⟨o,_,_,e',_⟩:=O'.ns; ⟨o,e'⟩
 refine I.write (x:=a) (e:=dx) (by rw [e]; exact True.intro) (.inr ho) (fun b q hb z=>(sb.2 b hb).trans z) hd ?_
 refine ⟨by rw [aC O.ne]; exact ho,?_,O.ne,O'.obj,_,O'.ns,fun g=>?_,fun g hg=>?_⟩
 ·have:=kz f y fs; omega
 ·show RelO ((hG f y fs).lookup g) (if g=f then some u else mA g)
  rw [ky]
  by_cases q:g=f
  ·rw [if_pos q,if_pos q]; exact ry
  ·rw [if_neg q,if_neg q]; exact r g
 ·by_cases q:g=f
  ·rw [q]; exact (j7 f y fs).1
  ·refine (j7 f y fs).2 g (wi g fun z=>hg ?_)
   show (if g=f then some u else mA g)=none
   rw [if_neg q]; exact z
theorem Inv.made (I:Inv X pins σ H s):Inv X pins σ (upd (upd H s.heap.objs.size (.own (s.heap.objs.size+1))) (s.heap.objs.size+1) (.ins C s.heap.objs.size []))
  { s with heap:=(s.heap.push PySem.W.emptyDict).push (PySem.W.instObj C s.heap.objs.size) }:=by
 have e1:(s.heap.push PySem.W.emptyDict).get? s.heap.objs.size=some PySem.W.emptyDict:=Heap.get?_push_size s.heap rfl
 have e2:((s.heap.push PySem.W.emptyDict).push (PySem.W.instObj C s.heap.objs.size)).get? (s.heap.objs.size+1)=some (PySem.W.instObj C s.heap.objs.size):=by
  have:=Heap.get?_push_size (s.heap.push PySem.W.emptyDict) (o:=PySem.W.instObj C s.heap.objs.size) rfl
  rwa [Heap.size_push] at this
 have e3:(s.heap.push PySem.W.emptyDict).Ns s.heap.objs.size (fun _=>none):=⟨PySem.W.emptyDict,#[],_,e1,rfl,(fun e he=>absurd he (by simp)),fun _=>rfl⟩
 have I1:=I.laid (a:=s.heap.objs.size) (o:=.own (s.heap.objs.size+1)) (h':=s.heap.push PySem.W.emptyDict) (t':=s.toks) (fun b u q=>Heap.get?_push_of_some _ q) (Nat.le_refl _) ⟨_,e1⟩
 refine I1.laid (a:=s.heap.objs.size+1) (o:=.ins C s.heap.objs.size []) (t':=s.toks) (fun b u q=>Heap.get?_push_of_some _ q) (Nat.le_of_eq (Heap.size_push _ _)) ?_
 have ne:s.heap.objs.size≠s.heap.objs.size+1:=Nat.ne_of_lt (Nat.lt_succ_self _)
 refine ⟨by rw [aC ne,ah],Nat.zero_le _,ne,e2,fun _=>none,(Heap.Ns1.of_empty e3).at fun o q=>Heap.get?_push_of_some _ q,fun _=>True.intro,fun y hy=>absurd rfl hy⟩
theorem Ay {prog:Program} {w:World} {env:Env} {e:Expr} {f:Str} {pos:Pos} {s:Shared} {Q:Value→Shared→Prop} (hb:attributeBase e f env (eval e env)=eval e env)
  (h:wpAny (model prog w) A (eval e env) (fun o s₁=>wpAny (model prog w) A (getAttr o f true) Q E s₁) E s):wpAny (model prog w) A (eval (.Attribute e f pos) env) Q E s :=
 Attribute_any_ h (by rw [arm_eval_Attribute,hb])
end
def Ex (K:PySem.W.Frag) (ta:TE) (f:Str):TE:=fun σ H Q=>ta σ H fun x H1=>∃ a C dx fs v,x=.ref a∧H1 a=some (.ins C dx fs)∧Cls K C∧NoAttr K C f∧fs.lookup f=some v∧Q v H1
def Fs (K:PySem.W.Frag) (ta:TE) (f:Str):TE:=fun σ H Q=>ta σ H fun x H1=>∃ a C dx fs v u,x=.ref a∧H1 a=some (.ins C dx fs)∧Cls K C∧Con K C f v u∧fs.lookup f=none∧Q v H1
def Ea (K:PySem.W.Frag) (ta tv:TE) (f:Str):TS:=fun D σ H=>tv σ H fun y H1=>ta σ H1 fun x H2=>∃ a C dx fs,x=.ref a∧H2 a=some (.ins C dx fs)∧Cls K C∧NoAttr K C f∧fs.length<1000∧
 D.nx σ (upd H2 a (.ins C dx (hG f y fs)))
def Fn (X:Cx) (op:Operator) (rd:V→V→Hp→VK→Prop):Prop :=
 ∀ (pins:List (Addr×Obj)) (s:Shared) (σ:St) (H:Hp) (x y:V) (u v:Value) (Q:VK),Inv X pins σ H s→RelV x u→RelV y v→rd x y H Q→wpAny (model X.prog X.w) X.A (inplaceOp op u v) (EP X pins σ Q) X.xe s
def DU (K:PySem.W.Frag) (ta tv:TE) (rd:V→V→Hp→VK→Prop) (f:Str):TS:=fun D σ H=>ta σ H fun x H1=>∃ a C dx fs v,x=.ref a∧H1 a=some (.ins C dx fs)∧Cls K C∧NoAttr K C f∧fs.lookup f=some v∧
 tv σ H1 fun y H2=>rd v y H2 fun z H3=>∃ dx' fs',H3 a=some (.ins C dx' fs')∧fs'.length<1000∧D.nx σ (upd H3 a (.ins C dx' (hG f z fs')))
section
variable {X:Cx} {o e value:Expr} {f:Str} {pos pos' tpos:Pos} {ta tv:TE}
theorem j1 (he:PE X e ta) (hb:attributeBase e f X.env (eval e X.env)=eval e X.env):PE X (.Attribute e f pos) (Ex X.K ta f):=by
 intro pins s σ H Q I h
 refine Ay hb (thn (he pins s σ H _ I h) fun u s1 ⟨x,H1,I1,rx,a,C,dx,fs,v,ex,ea,c,n,l,q⟩=>?_)
 subst ex
 obtain rfl:u=Value.ref a:=rx
 exact tf I1 ea c n l fun u' s2 I2 ru=>⟨v,H1,I2,ru,q⟩
theorem rM (ha:PE X o ta) (hv:PE X value tv) (hs:swapsWith value (some (.Attribute o f pos')) pos.line X.env=pure false):PS X (.Assign [.Attribute o f pos'] value pos) (Ea X.K ta tv f):=by
 intro pins s σ H D I h
 refine plainObj_wpAny_Assign_Attribute (thn (hv pins s σ H _ I h) fun u s1 ⟨y,H1,I1,ry,q⟩=>thn (ha pins s1 σ H1 _ I1 q) fun ov s2 ⟨x,H2,I2,rx,a,C,dx,fs,ex,ea,c,n,l,q2⟩=>?_) hs
 subst ex
 obtain rfl:ov=Value.ref a:=rx
 exact sQ I2 ea c n l ry fun s3 I3=>⟨σ,_,I3,q2⟩
def Fv:V→V→Hp→VK→Prop:=fun x y H Q=>∃ i j,x=.int i∧y=.int j∧Q (.int (i+j)) H
def FN:V→V→Hp→VK→Prop:=fun x y H Q=>∃ i j,x=.int i∧y=.int j∧Q (.int (i - j)) H
end
section
variable {X:Cx} {pins:List (Addr×Obj)} {σ:St} {H:Hp} {s:Shared} {A:Around} {E:Value→Shared→Prop} {Q:Value→Shared→Prop} {c:Value} {b:Bool}
inductive TyOf (K:PySem.W.Frag) (H:Hp):V→Value→Prop where
 | non:TyOf K H .non (.type "NoneType")
 | bl (x:Bool):TyOf K H (.bl x) (.type "bool")
 | int (i:Int):TyOf K H (.int i) (.type "int")
 | str (x:Str):TyOf K H (.str x) (.type "str")
 | flt (x:UInt64):TyOf K H (.flt x) (.type "float")
 | lst {a:Addr} {xs:List V} (e:H a=some (.lst xs)):TyOf K H (.ref a) (.type "list")
 | frz {a:Addr} {o:Obj} {xs:List V} (e:H a=some (.frz o (.lst xs))):TyOf K H (.ref a) (.type "list")
 | tup {a:Addr} {xs:List V} (e:H a=some (.tup xs)):TyOf K H (.ref a) (.type "tuple")
 | dK {a:Addr} {kvs:List (Key×V)} (e:H a=some (.dK kvs)):TyOf K H (.ref a) (.type "dict")
 | dT {a:Addr} {kvs:List (List Key×V)} (e:H a=some (.dT kvs)):TyOf K H (.ref a) (.type "dict")
 | ins {a C dx:Addr} {fs:List (Str×V)} (e:H a=some (.ins C dx fs)) (cl:Cls K C) (ha:PySem.W.findIn K (.ref C) "__class__"=some (some (.builtin "object.__class__")))
   (hn:PySem.W.specialIn K (.builtin "object.__class__") "__get__"=some (some (.builtin "getset_descriptor.__get__"))) (htk:PySem.W.takesIn K (.builtin "object.__class__")=some true)
   (hm:PySem.W.mroIn K C (.type "object")=some true):TyOf K H (.ref a) (.ref C)
theorem wB {x:V} {u t:Value} (I:Inv X pins σ H s) (rx:RelV x u) (ty:TyOf X.K H x t) (e:PySem.W.kitOne X.K t c=some b) (h:∀ tk,Q (.bool b) { s with toks:=tk }) :
  wpAny (model X.prog X.w) A (call (.builtin "isinstance") [u,c]) Q E s:=by
 cases ty with
 | non=>cases (show u=Value.none from rx); exact PySem.W.kia_one PySem.W.kitx_none I.kIn True.intro e (fun z=>nomatch z) h
 | bl y=>cases (show u=Value.bool y from rx); exact PySem.W.kia_one PySem.W.kitx_bool I.kIn True.intro e (fun z=>nomatch z) h
 | int i=>obtain ⟨t,q⟩:=(show ∃ t,u=Value.int i t from rx); cases q; exact PySem.W.kia_one PySem.W.kitx_int I.kIn True.intro e (fun z=>nomatch z) h
 | str y=>obtain ⟨t,q⟩:=(show ∃ t,u=Value.str y t from rx); cases q; exact PySem.W.kia_one PySem.W.kitx_str I.kIn True.intro e (fun z=>nomatch z) h
 | flt y=>obtain ⟨t,q⟩:=(show ∃ t,u=Value.float y t from rx); cases q; exact PySem.W.kia_one PySem.W.kitx_float I.kIn True.intro e (fun z=>nomatch z) h
 | @lst a xs ea =>
  cases (show u=Value.ref a from rx)
  obtain ⟨_,_,n,_,h1⟩:=(show ObjOk X.prog X.w H s.heap a (.lst xs) from I.hok a _ ea)
  exact PySem.W.kia_one PySem.W.kitx_list I.kIn ⟨_,h1,rfl⟩ e (fun z=>nomatch z) h
 | @frz a ob xs ea =>
  cases (show u=Value.ref a from rx)
  obtain ⟨_,_,_,n,_,h1⟩:=(show ObjOk X.prog X.w H s.heap a (.frz ob (.lst xs)) from I.hok a _ ea)
  exact PySem.W.kia_one PySem.W.kitx_list I.kIn ⟨_,h1,rfl⟩ e (fun z=>nomatch z) h
 | @tup a xs ea =>
  cases (show u=Value.ref a from rx)
  obtain ⟨_,_,_,p⟩:=(show ObjOk X.prog X.w H s.heap a (.tup xs) from I.hok a _ ea)
  obtain ⟨o,h1,h2,_⟩:=p
  exact PySem.W.kia_one PySem.W.kitx_tuple I.kIn ⟨o,h1,h2⟩ e (fun z=>nomatch z) h
 | @dK a kvs ea =>
  cases (show u=Value.ref a from rx)
  obtain ⟨_,_,vs,_,p⟩:=(show ObjOk X.prog X.w H s.heap a (.dK kvs) from I.hok a _ ea)
  obtain ⟨o,es,ep,h1,h2,_⟩:=p
  exact PySem.W.kia_one PySem.W.kitx_dict I.kIn ⟨o,h1,h2.1⟩ e (fun z=>nomatch z) h
 | @dT a kvs ea =>
  cases (show u=Value.ref a from rx)
  obtain ⟨_,_,xs,_,o,es,ep,h1,h2,_⟩:=(show ObjOk X.prog X.w H s.heap a (.dT kvs) from I.hok a _ ea)
  exact PySem.W.kia_one PySem.W.kitx_dict I.kIn ⟨o,h1,h2.1⟩ e (fun z=>nomatch z) h
 | @ins a C dx fs ea cl ha hn htk hm =>
  cases (show u=Value.ref a from rx)
  obtain ⟨mA,O,_⟩:=kS I.hok ea
  obtain ⟨od,J,_⟩:=O.look
  exact PySem.W.kia_one (PySem.W.kitx_own (cl.get _) cl.hd ha hn htk hm) I.kIn J e (fun z=>nomatch z) h
end
end L2
namespace L2
open PySem PySem.Spec PyProof.Rows
structure Room (k:Nat) (A:Around):Prop where
 hd:A.handled=none
 dp:A.depth+3 * k+5<recursionLimit
 un:A.units+16 * k+200<cLine
theorem Room.mono {j k:Nat} {A:Around} (r:Room k A) (h:j≤k):Room j A:=⟨r.hd,by have:=r.dp; omega,by have:=r.un; omega⟩
theorem Room.deeper {k:Nat} {A:Around} (r:Room (k+1) A) (env:Env):Room k (A.deeper env) :=
 ⟨r.hd,by have:=r.dp; show A.depth+1+3 * k+5<_; omega,by have:=r.un; show A.units+3+16 * k+200<_; omega⟩
theorem tE {A:Around} {C:Addr} {us:List Value} {kw:List (Str×Value)}:(A.under (.builtin "type.__call__" ⟨.ref C::us,kw⟩)).depth=A.depth+1:=by
 first | rfl | simp [Around.under,Code.weight,Code.isCreation,Code.isGuard,Code.isCaller,Code.frames,Code.isFrame,guardIds]
theorem se {A:Around} {C:Addr} {us:List Value} {kw:List (Str×Value)}:(A.under (.builtin "type.__call__" ⟨.ref C::us,kw⟩)).units=A.units+1:=by
 first | rfl | simp [Around.under,Code.cUnits,Code.frames,Code.isFrame]
theorem Room.make {k:Nat} {A:Around} (r:Room (k+1) A) (C:Addr) (us:List Value) (kw:List (Str×Value)):Room k (A.under (.builtin "type.__call__" ⟨.ref C::us,kw⟩)) :=
 ⟨r.hd,by have:=r.dp; rw [tE]; omega,by have:=r.un; rw [se]; omega⟩
theorem Room.depth {k:Nat} {A:Around} (r:Room k A):A.depth<recursionLimit:=by have:=r.dp; omega
theorem Room.units {k:Nat} {A:Around} (r:Room k A):A.units+64<cLine:=by have:=r.un; omega
theorem Room.units0 {k:Nat} {A:Around} (r:Room k A):A.units<cLine:=by have:=r.un; omega
def CG:TA:=fun _ H Q=>Q [] H
def CZ (ta:TE) (tr:TA):TA:=fun σ H Q=>ta σ H fun x H1=>tr σ H1 fun xs H2=>Q (x::xs) H2
section
variable {X:Cx} {e:Expr} {es:List Expr} {te:TE} {t:TA} {pos:Pos}
theorem ae:PA X [] CG:=fun _ _ _ _ H Q I h=>Calls.spliced_nil ⟨[],H,I,.nil,h⟩
theorem aa (ha:PE X e te) (hr:PA X es t) (hs:starEach (e::es) X.env=(false,eval e X.env)::starEach es X.env:=by rfl):PA X (e::es) (CZ te t):=by
 intro pos pins s σ H Q I h
 rw [hs]
 show wpAny _ _ (spliced ((false,eval e X.env)::backTo pos (starEach es X.env))) _ _ s
 refine Calls.spliced_cons (thn (ha pins s σ H _ I h) fun u s1 ⟨x,H1,I1,r1,q1⟩=>?_)
 exact thn (hr pos pins s1 σ H1 _ I1 q1) fun us s2 ⟨xs,H2,I2,r2,q2⟩=>⟨x::xs,H2,I2,.cons r1 r2,q2⟩
def Es (t:TA):TE:=fun σ H Q=>t σ H fun xs H1=>xs.length≤sizeLine∧∀ p,H1 p=none→Q (.ref p) (upd H1 p (.tup xs))
def DW (t:TA):TE:=fun σ H Q=>t σ H fun xs H1=>xs.length≤sizeLine∧∀ p,H1 p=none→Q (.ref p) (upd H1 p (.lst xs))
theorem dF {x1} (h:PA X es t):PE X (.Tuple es x1 pos) (Es t):=by
 intro pins s σ H Q I hq
 refine wpAny_Tuple_spliced (thn (h pos pins s σ H _ I hq) fun us s1 ⟨xs,H1,I1,r,z,q⟩=>⟨by rw [← r.length]; exact z,?_⟩)
 have hf:H1 s1.heap.objs.size=none:=I1.hok.fresh (Nat.le_refl _)
 refine ⟨.ref s1.heap.objs.size,upd H1 s1.heap.objs.size (.tup xs),I1.laid (t':=s1.toks) (fun b u e=>Heap.get?_push_of_some _ e) (Nat.le_refl _) ?_,rfl,q _ hf⟩
 exact ⟨z,us,r,⟨_,Heap.get?_push_size _ rfl,rfl,_,rfl⟩⟩
theorem bZ (h:PA X es t):PE X (.List es pos) (DW t):=by
 intro pins s σ H Q I hq
 refine wpAny_List_spliced (thn (h pos pins s σ H _ I hq) fun us s1 ⟨xs,H1,I1,r,z,q⟩=>⟨by rw [← r.length]; exact z,?_⟩)
 have hf:H1 s1.heap.objs.size=none:=I1.hok.fresh (Nat.le_refl _)
 refine ⟨.ref s1.heap.objs.size,upd H1 s1.heap.objs.size (.lst xs),I1.laid (t':=s1.toks) (fun b u e=>Heap.get?_push_of_some _ e) (Nat.le_refl _) ?_,rfl,q _ hf⟩
 exact ⟨z,us,0,r,Heap.get?_push_size _ rfl⟩
end
abbrev Sp:=List V→Hp→VK→XK→Prop
abbrev CXT:=List Env→Hp→Shared→XK→Value→Shared→Prop
structure Env0 (P:Program) (w:World) (K:PySem.W.Frag) (mg:Str→Option Value) (base:Heap) (A:Around) (outer:List Env) (s:Shared) (H:Hp):Prop where
 frames:A.frames=some outer
 mod:Mod K mg base
 bs:∀ b o,base.get? b=some o→s.heap.get? b=some o∧H b=none
 bsz:base.objs.size≤s.heap.objs.size
 funs:s.heap.FunFrames base outer
 frf:∀ b∈frs outer,H b=none
 hok:HOk P w H s.heap
 bare:AllBare s.gens
def CE (outer:List Env) (P:Program) (w:World) (H:Hp) (s:Shared) (Q:VK) (u:Value) (s':Shared):Prop :=
 ∃ v H',s'.os=s.os∧AllBare s'.gens∧Un (frs outer) [] H H' s.heap s'.heap∧HOk P w H' s'.heap∧RelV v u∧Q v H'
def CR (CX:CXT) (outer:List Env) (P:Program) (w:World) (H:Hp) (s:Shared) (Q:VK) (E:XK) (r:Result) (s':Shared):Prop :=
 match r with
 | .ok (.ret u)=>CE outer P w H s Q u s'
 | .ok _=>False
 | .error e=>CX outer H s E e s'
structure FnOk (P:Program) (w:World) (K:PySem.W.Frag) (mg:Str→Option Value) (base:Heap) (CX:CXT) (k:Nat) (f:Addr) (fd:FuncData) (ps:List Str) (sp:Sp):Prop where
 len:∀ vs H Q E,sp vs H Q E→vs.length=ps.length
 run:∀ (A:Around) (outer:List Env) (s:Shared) (H:Hp) (args:Args) (us:List Value) (vs:List V) (Q:VK) (E:XK),Room k A→Env0 P w K mg base A outer s H→BindsTo s fd args (ps.zip us)→Vals vs us→sp vs H Q E→
  codeAny (model P w) A (.call (.ref f) args) (CR CX outer P w H s Q E) s
theorem Env0.make {P:Program} {w:World} {K:PySem.W.Frag} {mg:Str→Option Value} {base:Heap} {A:Around} {outer:List Env} {s:Shared} {H:Hp} (e:Env0 P w K mg base A outer s H) (C:Addr) (us:List Value) (kw:List (Str×Value)) :
  Env0 P w K mg base (A.under (.builtin "type.__call__" ⟨.ref C::us,kw⟩)) outer s H:=⟨by first | exact e.frames | (simpa [Around.under,Code.envs,Code.isFrame,pushEnvs] using e.frames),e.mod,e.bs,e.bsz,e.funs,e.frf,e.hok,e.bare⟩
section
variable {X:Cx} {pins:List (Addr×Obj)} {σ:St} {H:Hp} {s s':Shared}
theorem Inv.env0 (I:Inv X pins σ H s):Env0 X.prog X.w X.K X.mg X.base X.A X.stack s H :=
 ⟨I.ok.frames,I.ok.mod,I.bs,Nat.le_trans I.ok.bsz I.sz,I.stack,I.stkFree,I.hok,I.bare⟩
theorem Inv.after {Q:VK} {u:Value} (I:Inv X pins σ H s) (h:CE X.stack X.prog X.w H s Q u s'):EP X pins σ Q u s':=by
 obtain ⟨v,H',os,bare,un,hok,r,q⟩:=h
 obtain ⟨hh,g,d,t,os'⟩:=s'
 obtain rfl:os'=s.os:=os
 exact ⟨v,H',I.call (h':=hh) (g':=g) (d':=d) (t':=t) (ch:=[]) un hok bare (fun b z=>absurd z (by simp)),r,q⟩
end
def ub (sp:Sp) (dvs:List V) (E:XK) (t:TA):TE:=fun σ H Q=>t σ H fun vs H1=>sp (vs++dvs) H1 Q E
def EV (C:Addr) (m:Str) (sp:Sp) (dvs:List V) (E:XK) (ta:TE) (t:TA):TE:=fun σ H Q=>ta σ H fun x H1=>∃ a dx fs,x=.ref a∧H1 a=some (.ins C dx fs)∧fs.lookup m=none∧
 t σ H1 fun vs H2=>sp (x::(vs++dvs)) H2 Q E
def A6 (C:Addr) (sp:Sp) (dvs:List V) (E:XK) (t:TA):TE:=fun σ H Q=>t σ H fun vs H1=>∀ x dx,H1 x=none→H1 dx=none→dx≠x→
 sp (.ref x::(vs++dvs)) (upd (upd H1 dx (.own x)) x (.ins C dx [])) (fun v H2=>v=.non∧Q (.ref x) H2) E
def Binds (K:PySem.W.Frag) (fd:FuncData) (ps:List Str) (ds:List Value):Prop :=
 ∀ (s:Shared) (us:List Value),K.In s.heap→(us++ds).length=ps.length→BindsTo s fd ⟨us,[]⟩ (ps.zip (us++ds))
theorem Binds.all {K:PySem.W.Frag} {fd:FuncData} {ps:List Str} (h:∀ us:List Value,us.length=ps.length→bindArgs fd ⟨us,[]⟩=pure (ps.zip us)):Binds K fd ps []:=fun s us _ hl=>by
 rw [List.append_nil] at hl ⊢
 exact .of_eq (h us hl)
def Passes (CX:CXT) (X:Cx) (E:XK):Prop:=∀ (pins:List (Addr×Obj)) (σ:St) (H:Hp) (s:Shared) (e:Value) (s':Shared),Inv X pins σ H s→CX X.stack H s E e s'→X.xe e s'
section
variable {X:Cx} {CX:CXT} {k:Nat} {f C:Addr} {fd:FuncData} {ps:List Str} {sp:Sp} {dvs:List V} {ds:List Value} {E:XK} {x m:Str} {p pos apos:Pos} {e o:Expr} {es:List Expr} {ta:TE} {t:TA}
theorem pW {pins:List (Addr×Obj)} {σ:St} {H:Hp} {s:Shared} {Q:VK} {us:List Value} {vs:List V} (F:FnOk X.prog X.w X.K X.mg X.base CX k f fd ps sp) (hr:Room k X.A) (hb:Binds X.K fd ps ds) (hd:Vals dvs ds) (hx:Passes CX X E)
  (I:Inv X pins σ H s) (r:Vals vs us) (h:sp (vs++dvs) H Q E):wpAny (model X.prog X.w) X.A (call (.ref f) us) (EP X pins σ Q) X.xe s:=by
 have r2:Vals (vs++dvs) (us++ds):=r.append hd
 have hl:(us++ds).length=ps.length:=by rw [← r2.length]; exact F.len _ _ _ _ h
 refine wpAny_call (codeAny_mono (F.run X.A X.stack s H ⟨us,[]⟩ (us++ds) (vs++dvs) Q E hr I.env0 (hb s us I.kIn hl) r2 h) fun r s' hq=>?_)
 cases r with
 | error e=>exact hx pins σ H s e s' I hq
 | ok fl =>
  cases fl with
  | ret u=>exact I.after hq
  | next=>exact False.elim hq
  | brk=>exact False.elim hq
  | cont=>exact False.elim hq
theorem uf (F:FnOk X.prog X.w X.K X.mg X.base CX k f fd ps sp) (hr:Room k X.A) (hg:Gl X x) (hm:X.mg x=some (.ref f)) (hk:PySem.W.keepIn X.K (.ref f)=true) (hb:Binds X.K fd ps ds) (hd:Vals dvs ds) (hx:Passes CX X E)
  (ha:PA X (e::es) t) (hdb:(x == ("__debug__":Str))=false:=by decide) (he:starEach (e::es) X.env=(false,eval e X.env)::starEach es X.env:=by rfl) (hpl:(backTo pos (starEach es X.env)).any (·.1)=false:=by rfl) :
  PE X (.Call (.Name x p) (e::es) [] pos) (ub sp dvs E t):=by
 intro pins s σ H Q I h
 refine wpAny_Call_Name_kw (fG I hg hm ?_ hdb)
 refine PySem.W.callWith_K (h₀:=X.base) I.ok.mod.kin hk (thn (ha pos pins s σ H _ I h) fun us s1 ⟨vs,H1,I1,r,q⟩=>⟨I1.kIn,?_⟩) he hpl
 exact pW F hr hb hd hx I1 r q
structure Mk (K:PySem.W.Frag) (C f:Addr):Prop where
 makes:PySem.W.makesIn K C=true
 init:PySem.W.findIn K (.ref C) "__init__"=some (some (.ref f))
 fn:PySem.W.isFn K (.ref f)=true
 kp:PySem.W.keepIn K (.ref C)=true
theorem qw {pins:List (Addr×Obj)} {σ:St} {H:Hp} {s:Shared} {Q:VK} {us:List Value} {vs:List V} (M:Mk X.K C f) (F:FnOk X.prog X.w X.K X.mg X.base CX k f fd ps sp) (hr:Room (k+1) X.A) (hb:Binds X.K fd ps ds) (hd:Vals dvs ds)
  (hx:Passes CX X E) (I:Inv X pins σ H s) (r:Vals vs us)
  (h:∀ x dx,H x=none→H dx=none→dx≠x→sp (.ref x::(vs++dvs)) (upd (upd H dx (.own x)) x (.ins C dx [])) (fun v H2=>v=.non∧Q (.ref x) H2) E) :
  wpAny (model X.prog X.w) X.A (call (.ref C) us) (EP X pins σ Q) X.xe s:=by
 have hq:=h (s.heap.objs.size+1) s.heap.objs.size (I.hok.fresh (Nat.le_succ _)) (I.hok.fresh (Nat.le_refl _)) (Nat.ne_of_lt (Nat.lt_succ_self _))
 have I2:=Inv.made (C:=C) I
 have r2:Vals (V.ref (s.heap.objs.size+1)::(vs++dvs)) (Value.ref (s.heap.objs.size+1)::(us++ds)):=.cons rfl (r.append hd)
 have hl:(Value.ref (s.heap.objs.size+1)::us++ds).length=ps.length:=by
  have e:=r2.length
  rw [F.len _ _ _ _ hq] at e
  exact e.symm
 refine wpAny_call (yp (f:=f) I.kIn M.makes M.init (beq_iff_eq.mp M.fn) (codeAny_mono (F.run _ X.stack _ _ ⟨Value.ref (s.heap.objs.size+1)::us,[]⟩ (Value.ref (s.heap.objs.size+1)::(us++ds)) _ _ E (hr.make C us [])
  (I2.env0.make C us []) (hb _ (Value.ref (s.heap.objs.size+1)::us) I2.kIn hl) r2 hq) fun r s' hq'=>?_))
 cases r with
 | error e=>exact hx pins σ _ _ e s' I2 hq'
 | ok fl =>
  cases fl with
  | ret u =>
   obtain ⟨v,H',I3,rv,ev,q3⟩:=I2.after hq'
   subst ev
   exact ⟨rv,⟨V.ref (s.heap.objs.size+1),H',I3,rfl,q3⟩⟩
  | next=>exact False.elim hq'
  | brk=>exact False.elim hq'
  | cont=>exact False.elim hq'
theorem kZ (M:Mk X.K C f) (F:FnOk X.prog X.w X.K X.mg X.base CX k f fd ps sp) (hr:Room (k+1) X.A) (hg:Gl X x) (hm:X.mg x=some (.ref C)) (hb:Binds X.K fd ps ds) (hd:Vals dvs ds) (hx:Passes CX X E)
  (ha:PA X (e::es) t) (hdb:(x == ("__debug__":Str))=false:=by decide) (he:starEach (e::es) X.env=(false,eval e X.env)::starEach es X.env:=by rfl) (hpl:(backTo pos (starEach es X.env)).any (·.1)=false:=by rfl) :
  PE X (.Call (.Name x p) (e::es) [] pos) (A6 C sp dvs E t):=by
 intro pins s σ H Q I h
 refine wpAny_Call_Name_kw (fG I hg hm ?_ hdb)
 refine PySem.W.callWith_K (h₀:=X.base) I.ok.mod.kin M.kp (thn (ha pos pins s σ H _ I h) fun us s1 ⟨vs,H1,I1,r,q⟩=>⟨I1.kIn,?_⟩) he hpl
 exact qw M F hr hb hd hx I1 r q
theorem m4 (M:Mk X.K C f) (F:FnOk X.prog X.w X.K X.mg X.base CX k f fd ps sp) (hr:Room (k+1) X.A) (hg:Gl X x) (hm:X.mg x=some (.ref C)) (hb:Binds X.K fd ps ds) (hd:Vals dvs ds) (hx:Passes CX X E)
  (hdb:(x == ("__debug__":Str))=false:=by decide):PE X (.Call (.Name x p) [] [] pos) (A6 C sp dvs E CG):=by
 intro pins s σ H Q I h
 refine wpAny_Call_Name_kw (fG I hg hm ?_ hdb)
 exact PySem.W.callWith_K0 I.kIn M.kp (qw (us:=[]) M F hr hb hd hx I .nil h)
end
def PK (X:Cx) (kws:List Keyword) (t:TA):Prop :=
 ∀ (pos:Pos) (pins:List (Addr×Obj)) (s:Shared) (σ:St) (H:Hp) (Q:List V→Hp→Prop),Inv X pins σ H s→t σ H Q→wpAny (model X.prog X.w) X.A (evalAll ((backToKw pos (keywordEach kws X.env)).map (·.2))) (AP X pins σ Q) X.xe s
section
variable {X:Cx} {CX:CXT} {k:Nat} {f C:Addr} {fd:FuncData} {ps ks:List Str} {sp:Sp} {E:XK} {x m:Str} {p pos apos kpos:Pos} {e o:Expr} {es:List Expr} {kws:List Keyword} {te ta:TE} {t tk:TA} {nm:Option Str}
structure KBinds (K:PySem.W.Frag) (fd:FuncData) (ps ks:List Str) (g:List Value→List Value→List Value) (gV:List V→List V→List V):Prop where
 to:∀ (s:Shared) (us ws:List Value),K.In s.heap→(g us ws).length=ps.length→BindsTo s fd ⟨us,ks.zip ws⟩ (ps.zip (g us ws))
 rel:∀ {vs:List V} {us:List Value} {zs:List V} {ws:List Value},Vals vs us→Vals zs ws→Vals (gV vs zs) (g us ws)
def Eu (sp:Sp) (gV:List V→List V→List V) (E:XK) (t tk:TA):TE:=fun σ H Q=>t σ H fun vs H1=>tk σ H1 fun zs H2=>sp (gV vs zs) H2 Q E
variable {g:List Value→List Value→List Value} {gV:List V→List V→List V}
end
structure FnScope (N P:List Str) (sc:Scope):Prop where
 kind:sc.kind=.function
 co:sc.isCoroutine=false
 gen:sc.isGenerator=false
 nd:N.Nodup
 pre:N.take P.length=P
 par:∀ x∈P,sc.names.lookup x=some .local∨sc.names.lookup x=some .cell
 nofree:∀ y∈sc.names,y.2≠.free
theorem ou {kindOf:Str→Option NameKind} {x:Str}:∀ {binds:List (Str×Value)} {m:Str→Option Value},(∀ v,(x,v)∉binds)→bindL kindOf binds m x=m x
 | [],_,_=>rfl
 | (n,v)::r,m,h=>by
  unfold bindL
  rw [ou fun w hw=>h w (List.mem_cons_of_mem _ hw)]
  split
  ·have:x≠n:=by rintro rfl; exact h v List.mem_cons_self
   simp [this]
  ·rfl
theorem nE {kindOf:Str→Option NameKind} {x:Str}:∀ {binds:List (Str×Value)} {m:Str→Option Value},(∀ v,(x,v)∉binds)→bindC kindOf binds m x=m x
 | [],_,_=>rfl
 | (n,v)::r,m,h=>by
  unfold bindC
  rw [nE fun w hw=>h w (List.mem_cons_of_mem _ hw)]
  split
  ·rfl
  ·have:x≠n:=by rintro rfl; exact h v List.mem_cons_self
   simp [this]
theorem oy {kindOf:Str→Option NameKind} {x:Str} {v:Value}:∀ {P:List Str} {vs:List Value} {i:Nat} {m:Str→Option Value},P.Nodup→P[i]?=some x→vs[i]?=some v→kindOf x=some .local→
  bindL kindOf (P.zip vs) m x=some v
 | [],_,_,_,_,h,_,_=>by simp at h
 | _::_,[],_,_,_,_,h,_=>by simp at h
 | p::P,w::vs,0,m,nd,h1,h2,hk=>by
  simp at h1 h2; subst h1; subst h2
  show bindL kindOf ((p,w)::P.zip vs) m p=_
  unfold bindL
  rw [ou fun v hv=>(List.nodup_cons.mp nd).1 (List.of_mem_zip hv).1,if_pos hk]
  simp
 | p::P,w::vs,i+1,m,nd,h1,h2,hk=>by
  show bindL kindOf ((p,w)::P.zip vs) m x=_
  unfold bindL
  exact oy (i:=i) (List.nodup_cons.mp nd).2 (by simpa using h1) (by simpa using h2) hk
theorem nO {kindOf:Str→Option NameKind} {x:Str} {v:Value}:∀ {P:List Str} {vs:List Value} {i:Nat} {m:Str→Option Value},P.Nodup→P[i]?=some x→vs[i]?=some v→kindOf x≠some .local→
  bindC kindOf (P.zip vs) m x=some v
 | [],_,_,_,_,h,_,_=>by simp at h
 | _::_,[],_,_,_,_,h,_=>by simp at h
 | p::P,w::vs,0,m,nd,h1,h2,hk=>by
  simp at h1 h2; subst h1; subst h2
  show bindC kindOf ((p,w)::P.zip vs) m p=_
  unfold bindC
  rw [nE fun v hv=>(List.nodup_cons.mp nd).1 (List.of_mem_zip hv).1,if_neg hk]
  simp
 | p::P,w::vs,i+1,m,nd,h1,h2,hk=>by
  show bindC kindOf ((p,w)::P.zip vs) m x=_
  unfold bindC
  exact nO (i:=i) (List.nodup_cons.mp nd).2 (by simpa using h1) (by simpa using h2) hk
def start (N:List Str) (vs:List V):St:=vs.map some++List.replicate (N.length - vs.length) none
def gL (CX:CXT) (P:Program) (w:World) (K:PySem.W.Frag) (mg:Str→Option Value) (base:Heap) (N:List Str) (qual:Str) (scope:Scope) (f:Addr) (cd:Value) (A:Around) (outer:List Env) (s:Shared) (H:Hp) (E:XK):Cx where
 prog:=P
 w:=w
 K:=K
 mg:=mg
 base:=base
 A:=A.deeper (envOfC qual scope s.heap.objs.size f cd)
 N:=N
 s₀:=s
 H₀:=H
 env:=envOfC qual scope s.heap.objs.size f cd
 outer:=outer
 stack:=envOfC qual scope s.heap.objs.size f cd::outer
 ex:=[]
 calm:=true
 fn:=fun _=>true
 pn:=[]
 xe:=fun e s'=>wpAny (model P w) (A.deeper (envOfC qual scope s.heap.objs.size f cd)) (leaving (envOfC qual scope s.heap.objs.size f cd) e) (fun _ s''=>CX outer H s E e s'') (fun e' s''=>CX outer H s E e' s'') s'
theorem lG {sc:Scope} {n:Nat} {x:Str} (h:sc.names.lookup x=some .cell):∃ c,(cellsFrom n sc.names []).lookup x=some c:=by
 have q:=PySem.W.cellsFrom_some sc.names n [] (.inl h)
 exact Option.isSome_iff_exists.mp q
theorem wg {CX:CXT} {P:Program} {w:World} {K:PySem.W.Frag} {mg:Str→Option Value} {base:Heap} {N ps:List Str} {qual:Str} {scope:Scope} {f:Addr} {cd:Value} {A:Around} {outer:List Env} {s s1:Shared} {H:Hp} {E:XK} {us:List Value} {vs:List V}
  (S:FnScope N ps scope) (hd:A.handled=none) (e0:Env0 P w K mg base A outer s H) (hl:vs.length=ps.length) (r:Vals vs us)
  (x:InCallC s s.heap.objs.size (bindL (envOfC qual scope s.heap.objs.size f cd).kindOf (ps.zip us) fun _=>none) (cellsFrom (s.heap.objs.size+1) scope.names []) (bindC (envOfC qual scope s.heap.objs.size f cd).kindOf (ps.zip us) fun _=>none) s1) :
  Inv (gL CX P w K mg base N qual scope f cd A outer s H E) [] (start N vs) H s1:=by
 have hpl:ps.length≤N.length:=by have:=congrArg List.length S.pre; rw [List.length_take] at this; omega
 obtain ⟨h1,tk,rfl,hk⟩:=x.done
 have noA:∀ b:Addr,b∉(gL CX P w K mg base N qual scope f cd A outer s H E).ex:=fun b z=>absurd (show b∈([]:List Addr) from z) (by simp)
 refine ⟨⟨e0.mod,S.kind,rfl,rfl,Nat.le_refl _,fun y z c h1 h2=>?_,fun y hy=>?_,fun y c _ h=>?_,fun _=>hd,Around.frames_deeper e0.frames,.inr ⟨rfl,rfl⟩,fun b z=>absurd z (noA b),e0.bs,e0.bsz,fun b _ _=>noA b,fun b z=>absurd z (noA b),e0.funs,e0.frf⟩,
  rfl,e0.bare,Un.kept hk,⟨_,x.toInCall.ns,fun i y v h1 h2 h3=>?_⟩,fun y c h=>⟨_,x.cell y c h⟩,e0.hok.fresh (Nat.le_refl _),fun y c h=>?_,fun p hp=>absurd (show p∈([]:List (Addr×Obj)) from hp) (by simp),e0.hok.kept hk,?_⟩
 ·exact name_of_addr x.apart (PySem.mem_of_lookup h1) (PySem.mem_of_lookup h2)
 ·have hy:scope.names.lookup y=some .cell∨scope.names.lookup y=some .free:=hy
  rcases hy with hy | hy
  ·exact lG hy
  ·exact absurd rfl (S.nofree _ (PySem.mem_of_lookup hy))
 ·exact Nat.le_of_lt (x.above y c (PySem.mem_of_lookup h))
 ·have hi:i<vs.length:=by
   unfold start at h2
   by_cases hi:i<vs.length
   ·exact hi
   ·rw [List.getElem?_append_right (by simpa using hi)] at h2
    rw [List.getElem?_replicate] at h2
    split at h2 <;> cases h2
  have ha:vs[i]?=some v:=by
   unfold start at h2
   rw [List.getElem?_append_left (by simpa using hi),List.getElem?_map] at h2
   cases e:vs[i]? with
   | none=>rw [e] at h2; cases h2
   | some a=>rw [e] at h2; cases h2; rfl
  obtain ⟨u,hu,rv⟩:=r.get ha
  have hp:ps[i]?=some y:=by
   rw [← S.pre,List.getElem?_take_of_lt (by omega)]; exact h1
  have ndP:ps.Nodup:=by rw [← S.pre]; exact S.nd.sublist (List.take_sublist _ _)
  refine ⟨u,rv,?_⟩
  rcases S.par y (List.mem_of_getElem? hp) with k | k
  ·exact .inl ⟨k,oy ndP hp hu k⟩
  ·obtain ⟨c,e⟩:=lG (n:=s.heap.objs.size+1) k
   refine .inr ⟨.inl k,c,e,?_⟩
   have q:=x.cell y c e
   rw [nO ndP hp hu (by show scope.names.lookup y≠_; rw [k]; decide)] at q
   exact q
 ·exact e0.hok.fresh (Nat.le_of_lt (x.above y c (PySem.mem_of_lookup h)))
 ·unfold start
  show _=N.length
  rw [List.length_append,List.length_map,List.length_replicate]
  omega
theorem A3 {CX:CXT} {P:Program} {w:World} {K:PySem.W.Frag} {mg:Str→Option Value} {base:Heap} {k:Nat} {f:Addr} {name qual:Str} {params:Arguments} {body:List Stmt} {scope:Scope} {dV kV doc pm cdv ct oc:Value} {an od:Option Addr}
  {osl:Array (Option Value)} {N ps:List Str} {sp:Sp} (lk:K.lookup f=some ⟨oc,od,.func (PySem.W.fnOf name qual params body scope dV kV doc pm an cdv ct),osl⟩) (hcd:PySem.W.codeIn K cdv qual=true) (S:FnScope N ps scope)
  (len:∀ vs H Q E,sp vs H Q E→vs.length=ps.length)
  (hbody:∀ (A:Around) (outer:List Env) (s:Shared) (H:Hp) (vs:List V) (Q:VK) (E:XK),Room k (A.deeper (envOfC qual scope s.heap.objs.size f cdv))→sp vs H Q E→
   ∃ t,PSs (gL CX P w K mg base N qual scope f cdv A outer s H E) body t∧t { nx:=fun _ H'=>Q .non H',rt:=Q } (start N vs) H) :
  FnOk P w K mg base CX (k+1) f (PySem.W.fnOf name qual params body scope dV kV doc pm an cdv ct) ps sp:=by
 refine ⟨len,fun A outer s H args us vs Q E hr e0 hb r hsp=>?_⟩
 have hl:=len _ _ _ _ hsp
 have KX:K.In s.heap:=e0.mod.kin.keeps fun b o e=>(e0.bs b o e).1
 have lim:s.heap.NoLimit:=e0.mod.nolimit.keeps fun b o e=>(e0.bs b o e).1
 have hkind:∀ y∈ps.zip us,scope.names.lookup y.1=some .local∨(scope.names.lookup y.1=some .cell∧((cellsFrom (s.heap.objs.size+1) scope.names []).lookup y.1).isSome=true):=fun ⟨n,v⟩ hy=>by
  rcases S.par n (List.of_mem_zip hy).1 with q | q
  ·exact .inl q
  ·exact .inr ⟨q,PySem.W.cellsFrom_some _ _ _ (.inl q)⟩
 refine codeAny_call_function hr.depth (KX _ _ lk) rfl S.co S.gen rfl (PySem.W.codeRec_of KX hcd) (hb _ _ _ _ ?_)
 refine wpAny_newFunctionEnv_cells S.kind hkind fun env he s1 x=>?_
 subst he
 refine ⟨lim.keeps x.toInCall.keep,codeAny_func ?_⟩
 obtain ⟨t,ht,hq⟩:=hbody A outer s H vs Q E (hr.deeper _) hsp
 have I:Inv (gL CX P w K mg base N qual scope f cdv A outer s H E) [] (start N vs) H s1:=wg S hr.hd e0 hl r x
 refine wpAny_mono (ht [] s1 (start N vs) H _ I hq) (fun fl s' hs=>?_) fun e s' hs=>hs
 have fin:∀ {σ':St} {H':Hp} {v:V} {u:Value},Inv (gL CX P w K mg base N qual scope f cdv A outer s H E) [] σ' H' s'→RelV v u→Q v H'→CE outer P w H s Q u s' :=
  fun {σ' H' v u} J rv q=>⟨v,H',J.os,J.bare,J.base,J.hok,rv,q⟩
 cases fl with
 | ret u =>
  obtain ⟨v,σ',H',J,rv,q⟩:=hs
  exact fin J rv q
 | next =>
  obtain ⟨σ',H',J,q⟩:=hs
  exact fin (v:=V.non) (u:=Value.none) J rfl q
 | brk =>
  obtain ⟨_,_,_,q⟩:=hs
  exact False.elim q
 | cont =>
  obtain ⟨_,_,_,q⟩:=hs
  exact False.elim q
end L2
namespace L2
open PySem PySem.Spec PyProof.Rows
section
variable {X:Cx} {x:Str} {p pos:Pos} {e:Expr} {es:List Expr} {t:TA} {id T:String} {r:List V→Hp→VK→Prop}
def tCB (r:List V→Hp→VK→Prop) (t:TA):TE:=fun σ H Q=>t σ H fun vs H1=>r vs H1 Q
theorem ax (hc:cT X (.builtin id) r) (hg:Gl X x) (hm:X.mg x=none) (hv:bootBuiltins x=some (.builtin id)) (ha:PA X (e::es) t) (hn:x≠"__name__":=by decide) (hdb:(x == ("__debug__":Str))=false:=by decide)
  (he:starEach (e::es) X.env=(false,eval e X.env)::starEach es X.env:=by rfl) (hpl:(backTo pos (starEach es X.env)).any (·.1)=false:=by rfl):PE X (.Call (.Name x p) (e::es) [] pos) (tCB r t):=by
 intro pins s σ H Q I h
 refine wpAny_Call_Name_kw (fL I hg hm hv ?_ hn hdb)
 exact PyProof.Rows.callWith_builtin1 (thn (ha pos pins s σ H _ I h) fun us s1 ⟨vs,H1,I1,r1,q1⟩=>hc pins s1 σ H1 vs us Q I1 r1 q1) he hpl
theorem aX (hc:cT X (.type T) r) (hg:Gl X x) (hm:X.mg x=none) (hv:bootBuiltins x=some (.type T)) (ha:PA X (e::es) t) (hn:x≠"__name__":=by decide) (hdb:(x == ("__debug__":Str))=false:=by decide)
  (he:starEach (e::es) X.env=(false,eval e X.env)::starEach es X.env:=by rfl) (hpl:(backTo pos (starEach es X.env)).any (·.1)=false:=by rfl):PE X (.Call (.Name x p) (e::es) [] pos) (tCB r t):=by
 intro pins s σ H Q I h
 refine wpAny_Call_Name_kw (fL I hg hm hv ?_ hn hdb)
 exact PyProof.Rows.callWith_type1 (thn (ha pos pins s σ H _ I h) fun us s1 ⟨vs,H1,I1,r1,q1⟩=>hc pins s1 σ H1 vs us Q I1 r1 q1) he hpl
end
end L2
namespace HT
open PySem PyProof.Rows
def lexLt:List Int→List Int→Bool
 | [],[]=>false
 | [],_::_=>true
 | _::_,[]=>false
 | x::xs,y::ys=>if x=y then lexLt xs ys else decide (x<y)
section
open PySem.SeqAt
open PySem.AutoSeq1 (wpAny_loadPart')
open PySem.MeetsSeq PySem.MeetsSeq2 PySem.MeetsSeq3
end
section
variable {prog:Program} {w:World} {A:Around} {E:Value→Shared→Prop} {s:Shared}
def sIx (n d:Nat):Option Int→Nat
 | none=>d
 | some v=>if v<0 then (v+(n:Int)).toNat else min v.toNat n
theorem f9 (n d:Nat):sIx n d none=d:=rfl
theorem jy (n d k:Nat):sIx n d (some (k:Int))=min k n:=by
 show (if (k:Int)<0 then ((k:Int)+(n:Int)).toNat else min (k:Int).toNat n)=min k n
 rw [if_neg (by omega),Int.toNat_natCast]
theorem y4 (n d:Nat) (hd:d≤n) (o:Option Int):sIx n d o≤n:=by
 cases o with
 | none=>exact hd
 | some v =>
  show (if v<0 then (v+(n:Int)).toNat else min v.toNat n)≤n
  by_cases hv:v<0
  ·rw [if_pos hv]; omega
  ·rw [if_neg hv]; exact Nat.min_le_right _ _
theorem uc (v:Int) (n d:Nat):(if v<0 then max (v+(n:Int)) 0 else min v (n:Int))=((sIx n d (some v):Nat):Int):=by
 show (if v<0 then max (v+(n:Int)) 0 else min v (n:Int))=(((if v<0 then (v+(n:Int)).toNat else min v.toNat n):Nat):Int)
 by_cases hv:v<0
 ·simp only [if_pos hv]; omega
 ·simp only [if_neg hv]; omega
theorem sL (lo hi:Option Int) (n:Nat):Builtin.Slice.sliceAdjust lo hi 1 (n:Int)=(((sIx n 0 lo:Nat):Int),((sIx n n hi:Nat):Int)):=by
 have h1:¬ ((1:Int)<0):=by omega
 unfold Builtin.Slice.sliceAdjust
 simp only [h1,if_false]
 refine Prod.ext ?_ ?_
 ·cases lo with
  | none=>rfl
  | some v=>exact uc v n 0
 ·cases hi with
  | none=>rfl
  | some v=>exact uc v n n
theorem rJ (i j:Nat):Builtin.Slice.slicePlaces (i:Int) (j:Int) 1=j - i:=by
 unfold Builtin.Slice.slicePlaces
 have h1:(1:Int) > 0:=by omega
 simp only [h1,if_true,Int.ediv_one]
 split <;> omega
theorem mq {v:Value} {o:Option Int} {Q:Option Int→Shared→Prop} (p:IsPart v o) (h:Q o s):wpAny (model prog w) A (Builtin.Slice.slicePartIndex v) Q E s:=by
 cases p with
 | none=>exact slicePart_none h
 | int i t=>exact slicePart_int h
theorem fU {sl:Addr} {vl vu:Value} {lo hi:Option Int} {n:Nat} {Q:Int×Int×Nat→Shared→Prop} (hs:s.heap.IsSliceOf sl vl vu .none) (pl:IsPart vl lo) (pu:IsPart vu hi)
  (h:Q (((sIx n 0 lo:Nat):Int),1,sIx n n hi - sIx n 0 lo) s):wpAny (model prog w) A (Builtin.Slice.sliceApplied (.ref sl) (pure (n:Int))) Q E s:=by
 obtain ⟨os,hos,hcs,hds⟩:=id hs
 unfold Builtin.Slice.sliceApplied Builtin.Slice.sliceFields
 refine wpAny_bind (wpAny_bind (wpAny_field hos hds (x:=vl) rfl (wpAny_bind (wpAny_field hos hds (x:=vu) rfl (wpAny_bind (wpAny_field hos hds (x:=.none) rfl (wpAny_pure ?_)))))))
 refine wpAny_bind (slicePart_none ?_)
 show wpAny _ _ (if ((1:Int) == 0)=true then _ else _) _ _ s
 rw [if_neg (by decide)]
 refine wpAny_bind (mq pl (wpAny_bind (mq pu (wpAny_bind (wpAny_pure ?_)))))
 show wpAny _ _ (match Builtin.Slice.sliceAdjust lo hi 1 (n:Int) with | (lo,hi)=>pure (lo,(1:Int),Builtin.Slice.slicePlaces lo hi 1)) _ _ s
 rw [sL lo hi n]
 show wpAny _ _ (pure (((sIx n 0 lo:Nat):Int),(1:Int),Builtin.Slice.slicePlaces ((sIx n 0 lo:Nat):Int) ((sIx n n hi:Nat):Int) 1)) _ _ s
 rw [rJ]
 exact wpAny_pure h
theorem xn (xs:Array Value) (i k:Nat):((List.range k).filterMap fun (m:Nat)=>xs[((i:Int)+(m:Int) * 1).toNat]?).toArray=((xs.toList.drop i).take k).toArray:=by
 have e:(fun (m:Nat)=>xs[((i:Int)+(m:Int) * 1).toNat]?)=fun m=>xs[i+m]?:=by
  funext m
  have:((i:Int)+(m:Int) * 1).toNat=i+m:=by omega
  rw [this]
 rw [e]
 have:=pick_run xs i k
 rw [List.filterMap_map] at this
 have e2:((fun x=>xs[x]?) ∘ fun x=>i+x)=fun m=>xs[i+m]?:=rfl
 rw [e2] at this
 rw [this]
theorem jq {t sl:Addr} {items:Array Value} {vl vu:Value} {lo hi:Option Int} {Q:Value→Shared→Prop} (ht:IsTup s.heap t items) (hs:s.heap.IsSliceOf sl vl vu .none) (pl:IsPart vl lo) (pu:IsPart vu hi)
  (hw:¬ (sIx items.size 0 lo=0∧sIx items.size items.size hi=items.size))
  (h:Q (.ref s.heap.objs.size) { s with heap:=s.heap.push { cls:=.type "tuple",data:=.seq ((items.toList.drop (sIx items.size 0 lo)).take (sIx items.size items.size hi - sIx items.size 0 lo)).toArray } })
  (hsz:items.size≤sizeLine):wpAny (model prog w) A (getItem (.ref t) (.ref sl)) Q E s:=by
 have htake:sizeOk (.seq ((items.toList.drop (sIx items.size 0 lo)).take (sIx items.size items.size hi - sIx items.size 0 lo)).toArray):=by
  show ((items.toList.drop (sIx items.size 0 lo)).take (sIx items.size items.size hi - sIx items.size 0 lo)).toArray.size≤sizeLine
  rw [List.size_toArray,List.length_take,List.length_drop,Array.length_toList]
  omega
 have hj:sIx items.size items.size hi≤items.size:=y4 _ _ (Nat.le_refl _) hi
 obtain ⟨os,hos,hcs,hds⟩:=id hs
 have hTs:s.TypeIs (.ref sl) "slice":=⟨os,hos,hcs⟩
 unfold getItem
 try with_reducible refine wpAny_holding ?_
 first | refine wpAny_bind (wpAny_pure ?_) | skip
 refine wpAny_bind (wpAny_sequenceKey ht.typeIs (by decide) ?_)
 refine wpAny_bind (wpAny_callSpecial?_slot (name:=Str.ofString "__getitem__") ht.typeIs PyProof.Rows.slot_tuple_getitem
  (wpAny_call_entry PyProof.Rows.slot_tuple_getitem ht.typeIs entry_tuple_getitem ?_ (args_tuple_getitem _ _)))
 show wpAny _ _ (Builtin.Tuple.tupleItemsOf (.ref t) >>= _) _ _ s
 refine wpAny_bind (tupleItemsOf_ ht ?_)
 refine wpAny_bind (wpAny_typeOf hTs ?_)
 rw [if_pos (by decide)]
 refine wpAny_bind (fU hs pl pu ?_)
 have hno:¬ ((((sIx items.size 0 lo:Nat):Int) == 0 && (1:Int) == 1 && (sIx items.size items.size hi - sIx items.size 0 lo) == items.size)=true):=by
  intro q
  rw [Bool.and_eq_true,Bool.and_eq_true] at q
  have q1:((sIx items.size 0 lo:Nat):Int)=0:=eq_of_beq q.1.1
  have q2:sIx items.size items.size hi - sIx items.size 0 lo=items.size:=eq_of_beq q.2
  exact hw ⟨by omega,by omega⟩
 show wpAny _ _ (if (((sIx items.size 0 lo:Nat):Int) == 0 && (1:Int) == 1 && (sIx items.size items.size hi - sIx items.size 0 lo) == items.size)=true then _ else _) _ _ s
 rw [if_neg hno,xn]
 first
  | exact wpAny_bind (m:=Builtin.Tuple.tupleExact _) (wpAny_newObj_type (wpAny_pure ⟨_,rfl,wpAny_pure h⟩) htake)
  | exact wpAny_bind (m:=Builtin.Tuple.tupleExact _) (wpAny_newObj_type (wpAny_bind (wpAny_pure (wpAny_pure ⟨_,rfl,wpAny_pure h⟩))) htake)
  | exact wpAny_bind (wpAny_bind (m:=Builtin.Tuple.tupleExact _) (wpAny_newObj_type (wpAny_pure (wpAny_pure ⟨_,rfl,wpAny_pure h⟩)) htake))
  | exact wpAny_bind (wpAny_bind (m:=Builtin.Tuple.tupleExact _) (wpAny_newObj_type (wpAny_pure ⟨_,rfl,wpAny_pure h⟩) htake))
end
end HT
namespace L2
open PySem PySem.Spec PyProof.Rows
abbrev TO:=St→Hp→(Option Int→Hp→Prop)→Prop
def PO (X:Cx) (e:Option Expr) (t:TO):Prop :=
 ∀ (pins:List (Addr×Obj)) (s:Shared) (σ:St) (H:Hp) (Q:Option Int→Hp→Prop),Inv X pins σ H s→t σ H Q→
  wpAny (model X.prog X.w) X.A (evalPart e X.env) (fun u s'=>∃ o H',Inv X pins σ H' s'∧IsPart u o∧Q o H') X.xe s
def As:TO:=fun _ H Q=>Q none H
def Dj (t:TE):TO:=fun σ H Q=>t σ H fun x H1=>∃ i,x=.int i∧Q (some i) H1
theorem intsAre_of {ns:List Int}:∀ {us:List Value},Vals (ns.map V.int) us→IntsAre us ns:=by
 induction ns with
 | nil=>intro us r; rw [List.map_nil] at r; cases r; exact .nil
 | cons n ns ih =>
  intro us r
  rw [List.map_cons] at r
  cases r with
  | cons r1 r2 =>
   obtain ⟨t,e⟩:=r1
   subst e
   exact .cons n t (ih r2)
section
variable {X:Cx} {e:Expr} {te:TE} {lo hi:Option Expr} {tl th:TO} {pos p2:Pos}
theorem fz:PO X none As:=by
 intro pins s σ H Q I h
 rw [evalPart_none]
 exact wpAny_pure ⟨none,H,I,.none,h⟩
theorem fD (h:PE X e te):PO X (some e) (Dj te):=by
 intro pins s σ H Q I hw
 rw [evalPart_some]
 refine thn (h pins s σ H _ I hw) fun u s1 ⟨x,H1,I1,r1,q1⟩=>?_
 obtain ⟨i,rfl,q⟩:=q1
 obtain ⟨t,rfl⟩:=r1
 exact ⟨some i,H1,I1,.int i t,q⟩
def SlR (X:Cx) (r:V→Option Int→Option Int→Hp→VK→Prop):Prop :=
 ∀ (pins:List (Addr×Obj)) (s:Shared) (σ:St) (H:Hp) (x:V) (v vl vu:Value) (lo hi:Option Int) (sl:Addr) (Q:VK),Inv X pins σ H s→RelV x v→s.heap.IsSliceOf sl vl vu .none→IsPart vl lo→IsPart vu hi→r x lo hi H Q→
  ∃ T id,typeLookup (.type T) "__getitem__"=pure (some (.builtin id))∧s.TypeIs v T∧wpAny (model X.prog X.w) X.A (getItem v (.ref sl)) (EP X pins σ Q) X.xe s
def tSl (r:V→Option Int→Option Int→Hp→VK→Prop) (te:TE) (tl th:TO):TE:=fun σ H Q=>te σ H fun x H1=>tl σ H1 fun l H2=>th σ H2 fun u H3=>r x l u H3 Q
theorem d7 {r:V→Option Int→Option Int→Hp→VK→Prop} (hr:SlR X r) (he:PE X e te) (hl:PO X lo tl) (hu:PO X hi th):PE X (.Subscript e (.Slice lo hi none p2) pos) (tSl r te tl th):=by
 intro pins s σ H Q I h
 refine Subscript_ (thn (he pins s σ H _ I h) fun v s1 ⟨x,H1,I1,r1,q1⟩=>?_)
 refine wpAny_Slice (thn (hl pins s1 σ H1 _ I1 q1) fun vl s2 ⟨l,H2,I2,pl,q2⟩=>thn (hu pins s2 σ H2 _ I2 q2) fun vu s3 ⟨u,H3,I3,pu,q3⟩=>?_)
 rw [evalPart_none]
 refine wpAny_pure ?_
 have I4:Inv X pins σ H3 { s3 with heap:=s3.heap.push { cls:=.type "slice",data:=.fields #[vl,vu,.none] } }:=I3.kept (t':=s3.toks) fun b ob q=>Heap.get?_push_of_some _ q
 obtain ⟨T,id,hT,ht,hg⟩:=hr pins { s3 with heap:=s3.heap.push { cls:=.type "slice",data:=.fields #[vl,vu,.none] } } σ H3 x v vl vu l u s3.heap.objs.size Q I4 r1 (Heap.IsSliceOf.new ..) pl pu q3
 show wpAny (model X.prog X.w) X.A (subscriptTail e (.Slice lo hi none p2) v (.ref s3.heap.objs.size)) (EP X pins σ Q) X.xe { s3 with heap:=s3.heap.push { cls:=.type "slice",data:=.fields #[vl,vu,.none] } }
 exact tail_any (ops:=[.ref s3.heap.objs.size,v]) ht hT hg (by with_unfolding_all rfl)
def gS (xs:List V) (lo hi:Option Int):List V:=(xs.drop (HT.sIx xs.length 0 lo)).take (HT.sIx xs.length xs.length hi - HT.sIx xs.length 0 lo)
theorem kD (xs:List V) (lo hi:Option Int):(gS xs lo hi).length≤xs.length:=by
 unfold gS
 rw [List.length_take,List.length_drop]
 omega
def EF (K:PySem.W.Frag):V→Option Int→Option Int→Hp→VK→Prop:=fun x lo hi H Q=>∃ a xs,x=.ref a∧SqT K H a xs∧
 ¬ (HT.sIx xs.length 0 lo=0∧HT.sIx xs.length xs.length hi=xs.length)∧∀ p,H p=none→Q (.ref p) (upd H p (.tup (gS xs lo hi)))
theorem Cj:SlR X (EF X.K):=by
 intro pins s σ H x v vl vu lo hi sl Q I rx hs pl pu h
 obtain ⟨a,xs,rfl,hx,hw,q⟩:=h
 cases rx
 obtain ⟨its,r,ht,hz⟩:=I.tuple hx
 have hlen:its.toArray.size=xs.length:=by rw [List.size_toArray]; exact r.length.symm
 refine ⟨"tuple",_,PyProof.Rows.slot_tuple_getitem.lookup,ht.typeIs,?_⟩
 refine HT.jq ht hs pl pu (by rw [hlen]; exact hw) ?_ (by rw [hlen]; exact hz)
 rw [hlen]
 refine ⟨.ref s.heap.objs.size,_,I.laid (t':=s.toks) (o:=.tup (gS xs lo hi)) (fun b ob q=>Heap.get?_push_of_some _ q) (Nat.le_refl _) ?_,rfl,q _ (I.hok.fresh (Nat.le_refl _))⟩
 exact ⟨Nat.le_trans (kD xs lo hi) hz,_,(r.drop (HT.sIx xs.length 0 lo)).take (HT.sIx xs.length xs.length hi - HT.sIx xs.length 0 lo),IsTup.new _ _⟩
def Fy (K:PySem.W.Frag):R2:=fun x y H Q=>∃ a b ns ms,x=.ref a∧y=.ref b∧SqT K H a (ns.map V.int)∧SqT K H b (ms.map V.int)∧Q (.bl (HT.lexLt ns ms)) H
def E7 (K:PySem.W.Frag):R2:=fun x y H Q=>∃ a b xs ys,x=.ref a∧y=.ref b∧SqT K H a xs∧SqT K H b ys∧xs≠[]∧xs.length+ys.length≤sizeLine∧
 (ys=[]→Q (.ref a) H)∧(ys≠[]→∀ p,H p=none→Q (.ref p) (upd H p (.tup (xs++ys))))
end
end L2
namespace L2
open PySem PySem.Spec PyProof.Rows
def ixN (n:Nat) (i:Int):Option Nat:=if 0≤i then (if i<n then some i.toNat else none) else if -(n:Int)≤i then some (i+n).toNat else none
def atI {α:Type} (xs:List α) (i:Int):Option α:=(ixN xs.length i).bind fun j=>xs[j]?
theorem uh {n:Nat} {i:Int} {j:Nat} (h:ixN n i=some j):seqIndex? i n=some j∧j<n∧-(n:Int)≤i∧i<n:=by
 unfold ixN at h
 by_cases h0:0≤i
 ·rw [if_pos h0] at h
  by_cases h1:i<n
  ·rw [if_pos h1] at h
   have e:i.toNat=j:=Option.some.inj h
   exact ⟨by rw [seqIndex_of h0 h1,e],by omega,by omega,h1⟩
  ·rw [if_neg h1] at h; cases h
 ·rw [if_neg h0] at h
  by_cases h1:-(n:Int)≤i
  ·rw [if_pos h1] at h
   have e:(i+n).toNat=j:=Option.some.inj h
   exact ⟨by rw [seqIndex_neg (by omega) h1,e],by omega,h1,by omega⟩
  ·rw [if_neg h1] at h; cases h
theorem pe {α:Type} {xs:List α} {i:Int} {v:α} (h:atI xs i=some v):∃ j,seqIndex? i xs.length=some j∧xs[j]?=some v∧j<xs.length∧-(xs.length:Int)≤i∧i<xs.length:=by
 unfold atI at h
 cases e:ixN xs.length i with
 | none=>rw [e] at h; cases h
 | some j =>
  rw [e] at h
  obtain ⟨h1,h2,h3,h4⟩:=uh e
  exact ⟨j,h1,h,h2,h3,h4⟩
theorem a9 {α:Type} {xs:List α} {j:Nat} {v:α} (h:xs[j]?=some v):atI xs (j:Int)=some v:=by
 have hj:j<xs.length:=(List.getElem?_eq_some_iff.mp h).1
 have e:ixN xs.length (j:Int)=some j:=by
  unfold ixN
  rw [if_pos (by omega),if_pos (by omega)]; simp
 unfold atI; rw [e]; exact h
def AY (b:Expr):Prop:=∀ o i,subscripted b false o i=operate [o,i] (getItem o i)
def IxR (X:Cx) (r:R2):Prop :=
 ∀ (value slice:Expr) (pins:List (Addr×Obj)) (s:Shared) (σ:St) (H:Hp) (x y:V) (v u:Value) (Q:VK),Inv X pins σ H s→RelV x v→RelV y u→r x y H Q→
  subscripted slice false v u=operate [v,u] (getItem v u)→wpAny (model X.prog X.w) X.A (subscriptTail value slice v u) (EP X pins σ Q) X.xe s
def MtR (X:Cx) (id:String) (r:V→List V→Hp→VK→Prop):Prop :=
 ∀ (pins:List (Addr×Obj)) (s:Shared) (σ:St) (H:Hp) (x:V) (xs:List V) (v:Value) (us:List Value) (Q:VK),Inv X pins σ H s→RelV x v→Vals xs us→r x xs H Q→
  wpAny (model X.prog X.w) X.A (call (.builtin id) (v::us)) (EP X pins σ Q) X.xe s
section
variable {X:Cx} {a b:Expr} {ta tb:TE} {pos:Pos}
theorem av {r:R2} (hr:IxR X r) (ha:PE X a ta) (hb:PE X b tb) (hs:AY b):PE X (.Subscript a b pos) (tOp r ta tb):=by
 intro pins s σ H Q I h
 exact Subscript_ (BE ha hb I h fun v u s2 x y H2 I2 rx ry q=>hr a b pins s2 σ H2 x y v u Q I2 rx ry q (hs _ _))
def Bs (K:PySem.W.Frag):R2:=fun x y H Q=>∃ p xs i v,x=.ref p∧y=.int i∧SqL K H p xs∧atI xs i=some v∧Q v H
def BZ (K:PySem.W.Frag):R2:=fun x y H Q=>∃ p xs i v,x=.ref p∧y=.int i∧SqT K H p xs∧atI xs i=some v∧Q v H
def DJ:R2:=fun x y H Q=>∃ z i c,x=.str z∧y=.int i∧z.length≤sizeLine∧atI z.cps.toList i=some c∧Q (.str ⟨#[c]⟩) H
theorem aE:IxR X (Bs X.K):=by
 intro value slice pins s σ H x y v u Q I rx ry h hs
 obtain ⟨p,xs,i,z,rfl,rfl,hq,he,q⟩:=h
 cases rx
 obtain ⟨t,rfl⟩:=ry
 obtain ⟨its,r,pl,hz⟩:=I.list hq
 obtain ⟨j,h1,h2,h3,h4,h5⟩:=pe he
 obtain ⟨w,ew,rw'⟩:=r.get h2
 have hl:=r.length
 have hn:=jI
 have fin:EP X pins σ Q w s:=⟨z,H,I,rw',q⟩
 by_cases h0:0≤i
 ·have hj:i.toNat=j:=by
   rw [seqIndex_of h0 h5] at h1
   exact Option.some.inj h1
  exact item_listR pl.isList h0 (by omega) (by rw [hj]; simpa using ew) fin hs
 ·have hj:(i+(its.toArray.size:Int)).toNat=j:=by
   rw [seqIndex_neg (by omega) h4] at h1
   rw [List.size_toArray,← hl]
   exact Option.some.inj h1
  exact subscriptTail_builtinR (x:=w) pl.isList.typeIs slot_list_getitem.lookup
   (wpAny_getItem_list_neg (Q:=fun r s'=>r=w∧EP X pins σ Q r s') pl.isList (by omega) (by rw [List.size_toArray] <;> omega) (by omega) (by rw [hj]; simpa using ew) ⟨rfl,fin⟩) hs
theorem aT:IxR X (BZ X.K):=by
 intro value slice pins s σ H x y v u Q I rx ry h hs
 obtain ⟨p,xs,i,z,rfl,rfl,hq,he,q⟩:=h
 cases rx
 obtain ⟨t,rfl⟩:=ry
 obtain ⟨its,r,pl,hz⟩:=I.tuple hq
 obtain ⟨j,h1,h2,h3,h4,h5⟩:=pe he
 obtain ⟨w,ew,rw'⟩:=r.get h2
 have hl:=r.length
 have hn:=jI
 have fin:EP X pins σ Q w s:=⟨z,H,I,rw',q⟩
 exact subscriptTail_builtinR (x:=w) pl.typeIs slot_tuple_getitem.lookup
  (getItem_tuple (j:=j) (Q:=fun r s'=>r=w∧EP X pins σ Q r s') pl (by omega) (by omega) (by rw [List.size_toArray,← hl]; exact h1) (by simpa using ew) ⟨rfl,fin⟩) hs
theorem oP:IxR X DJ:=by
 intro value slice pins s σ H x y v u Q I rx ry h hs
 obtain ⟨z,i,c,rfl,rfl,hz,he,q⟩:=h
 obtain ⟨t,rfl⟩:=rx
 obtain ⟨t',rfl⟩:=ry
 obtain ⟨j,h1,h2,h3,h4,h5⟩:=pe he
 have hl:z.cps.toList.length=z.length:=by simp [Str.length]
 rw [hl] at h1 h4 h5
 have hn:=jI
 exact tail_any (typeIs_str s z t) slot_str_getitem.lookup (getItem_str (c:=c) (by
  have e1:decide (i < -(2 ^ 63:Int))=false:=decide_eq_false (by omega)
  have e2:decide (i ≥ 2 ^ 63)=false:=decide_eq_false (by omega)
  rw [e1,e2,Bool.or_false]) (by rw [h1]; simpa using h2) ⟨.str ⟨#[c]⟩,H,I.tok _,⟨_,rfl⟩,q⟩) hs
def rIx (K:PySem.W.Frag):R2:=fun x y H Q=>Bs K x y H Q∨BZ K x y H Q∨DJ x y H Q
theorem sZ (its:List Value) (n j:Nat) (u:Value):Obj.mapSeq (·.setIfInBounds j u) { cls:=.type "list",data:=.seq its.toArray n }={ cls:=.type "list",data:=.seq (its.set j u).toArray n }:=by
 simp [Obj.mapSeq]
theorem Inv.lst {pins:List (Addr×Obj)} {σ:St} {H:Hp} {s:Shared} {p:Addr} {xs:List V} (I:Inv X pins σ H s) (h:H p=some (.lst xs)) :
  ∃ (its:List Value) (n:Nat),Vals xs its∧s.heap.get? p=some { cls:=.type "list",data:=.seq its.toArray n }∧xs.length≤sizeLine:=by
 obtain ⟨z,its,n,r,e⟩:=I.hok p _ h
 exact ⟨its,n,r,e,z⟩
theorem Inv.lstUpd {pins:List (Addr×Obj)} {σ:St} {H:Hp} {s:Shared} {p:Addr} {xs ys:List V} {its its':List Value} {n n':Nat} {f:Obj→Obj} (I:Inv X pins σ H s) (h:H p=some (.lst xs))
  (ho:s.heap.get? p=some { cls:=.type "list",data:=.seq its.toArray n }) (hf:f { cls:=.type "list",data:=.seq its.toArray n }={ cls:=.type "list",data:=.seq its'.toArray n' }) (r:Vals ys its') (hz:ys.length≤sizeLine) (t:Nat) :
  Inv X pins σ (upd H p (.lst ys)) { s with heap:=s.heap.update p f,toks:=t }:=by
 have e:(s.heap.update p f).get? p=some { cls:=.type "list",data:=.seq its'.toArray n' }:=by
  rw [Heap.get?_update_self f ho (by rw [hf] <;> rfl),hf]
 refine I.write (x:=p) (e:=p) (by rw [h]; trivial) (.inl rfl) (fun b u hb q=>(Heap.get?_update_other _ _ (Ne.symm hb)).trans q) ⟨_,e⟩ ?_
 exact ⟨hz,its',n',r,e⟩
def C7:V→V→V→Hp→(Hp→Prop)→Prop:=fun o i v H Q=>∃ p xs k j,o=.ref p∧i=.int k∧H p=some (.lst xs)∧ixN xs.length k=some j∧Q (upd H p (.lst (xs.set j v)))
theorem set_list:Dq X C7:=by
 intro pins s σ H o i v ov iv u Q I ro ri rv h
 obtain ⟨p,xs,k,j,rfl,rfl,hp,hj,q⟩:=h
 cases ro
 obtain ⟨t,rfl⟩:=ri
 obtain ⟨its,n,r,ho,hz⟩:=I.lst hp
 obtain ⟨h1,h2,h3,h4⟩:=uh hj
 have hl:=r.length
 have hn:=jI
 have I':Inv X pins σ (upd H p (.lst (xs.set j v))) { s with heap:=s.heap.update p (Obj.mapSeq (·.setIfInBounds j u)) } :=
  I.lstUpd hp ho (sZ its n j u) (r.set rv j) (by rw [List.length_set]; exact hz) s.toks
 by_cases h0:0≤k
 ·have hk:k.toNat=j:=by
   rw [seqIndex_of h0 h4] at h1
   exact Option.some.inj h1
  exact PySem.W.ki_setAt ho h0 (by omega) (by rw [List.size_toArray,← hl]; exact h4) (by rw [hk]; exact ⟨_,I',q⟩)
 ·have hk:(k+(its.toArray.size:Int)).toNat=j:=by
   rw [seqIndex_neg (by omega) h3] at h1
   rw [List.size_toArray,← hl]
   exact Option.some.inj h1
  exact PySem.W.ki_setBack ho (by omega) (by rw [List.size_toArray,← hl]; exact h3) (by omega) (by rw [hk]; exact ⟨_,I',q⟩)
theorem pT (lo hi:Option Int) (n:Nat):(sliceBounds lo hi none n).1=((HT.sIx n 0 lo:Nat):Int)∧(sliceBounds lo hi none n).2.1=((HT.sIx n n hi:Nat):Int)∧(sliceBounds lo hi none n).2.2=1:=by
 refine ⟨?_,?_,rfl⟩
 ·cases lo with
  | none=>simp [sliceBounds,HT.sIx]
  | some i =>
   simp only [sliceBounds,HT.sIx,Option.getD_none,show (1:Int) > 0 by decide,if_true]
   by_cases h:i<0
   ·simp only [h,if_true] <;> omega
   ·simp only [h,if_false] <;> omega
 ·cases hi with
  | none=>simp [sliceBounds,HT.sIx]
  | some i =>
   simp only [sliceBounds,HT.sIx,Option.getD_none,show (1:Int) > 0 by decide,if_true]
   by_cases h:i<0
   ·simp only [h,if_true] <;> omega
   ·simp only [h,if_false] <;> omega
theorem nr (its:List Value) (lo hi:Option Int):slicePick its.toArray lo hi none=((its.drop (HT.sIx its.length 0 lo)).take (HT.sIx its.length its.length hi - HT.sIx its.length 0 lo)).toArray:=by
 obtain ⟨h1,h2,h3⟩:=pT lo hi its.toArray.size
 unfold slicePick
 rw [h1,h2,h3]
 simp only [sliceRange_one,pick_run,List.size_toArray] <;> rfl
def EA (K:PySem.W.Frag):V→Option Int→Option Int→Hp→VK→Prop:=fun x lo hi H Q=>∃ a xs,x=.ref a∧SqL K H a xs∧∀ p,H p=none→Q (.ref p) (upd H p (.lst (gS xs lo hi)))
theorem kR:SlR X (EA X.K):=by
 intro pins s σ H x v vl vu lo hi sl Q I rx hs pl pu h
 obtain ⟨a,xs,rfl,hx,q⟩:=h
 cases rx
 obtain ⟨its,r,ht,hz⟩:=I.list hx
 have hlen:=r.length
 refine ⟨"list",_,slot_list_getitem.lookup,ht.isList.typeIs,?_⟩
 refine wpAny_getItem_list_slice ht.isList hs pl pu .none (by simp) ?_ (by rw [List.size_toArray] <;> omega)
 rw [nr,← hlen]
 refine ⟨.ref s.heap.objs.size,_,I.laid (t':=s.toks) (o:=.lst (gS xs lo hi)) (fun b ob q=>Heap.get?_push_of_some _ q) (Nat.le_refl _) ?_,rfl,q _ (I.hok.fresh (Nat.le_refl _))⟩
 exact ⟨Nat.le_trans (kD xs lo hi) hz,_,0,(r.drop (HT.sIx xs.length 0 lo)).take (HT.sIx xs.length xs.length hi - HT.sIx xs.length 0 lo),Heap.get?_push_size _ rfl⟩
def et:V→Bool
 | .non=>true
 | .bl _=>true
 | .int _=>true
 | .str _=>true
 | _=>false
def eqV:V→V→Bool
 | .non,.non=>true
 | .bl a,.bl b=>a == b
 | .bl a,.int b=>(if a then 1 else 0) == b
 | .int a,.bl b=>a == (if b then 1 else 0)
 | .int a,.int b=>a == b
 | .str a,.str b=>a == b
 | _,_=>false
theorem rK {A:Around} {s:Shared} {y x:V} {u v:Value} (ry:RelV y u) (rx:RelV x v) (fy:et y=true) (fx:et x=true):SeqAt.EqAt A s u v (eqV y x):=by
 cases y with
 | non =>
  cases ry
  cases x with
  | non=>cases rx; exact SeqAt.EqAt.same _
  | bl b=>cases rx; exact SeqAt.EqAt.none_bool b
  | int b=>obtain ⟨t,rfl⟩:=rx; exact SeqAt.EqAt.none_int b t
  | str b=>obtain ⟨t,rfl⟩:=rx; exact SeqAt.EqAt.none_str b t
  | _=>exact absurd (show false=true from fx) Bool.false_ne_true
 | bl a =>
  cases ry
  cases x with
  | non=>cases rx; exact SeqAt.EqAt.bool_none a
  | bl b=>cases rx; exact SeqAt.EqAt.bool_bool a b
  | int b=>obtain ⟨t,rfl⟩:=rx; exact SeqAt.EqAt.bool_int a b t
  | str b=>obtain ⟨t,rfl⟩:=rx; exact SeqAt.EqAt.bool_str a b t
  | _=>exact absurd (show false=true from fx) Bool.false_ne_true
 | int a =>
  obtain ⟨t',rfl⟩:=ry
  cases x with
  | non=>cases rx; exact SeqAt.EqAt.int_none a t'
  | bl b=>cases rx; exact SeqAt.EqAt.int_bool a t' b
  | int b=>obtain ⟨t,rfl⟩:=rx; exact SeqAt.EqAt.int_int a t' b t
  | str b=>obtain ⟨t,rfl⟩:=rx; exact SeqAt.EqAt.int_str a t' b t
  | _=>exact absurd (show false=true from fx) Bool.false_ne_true
 | str a =>
  obtain ⟨t',rfl⟩:=ry
  cases x with
  | non=>cases rx; exact SeqAt.EqAt.str_none a t'
  | bl b=>cases rx; exact SeqAt.EqAt.str_bool a t' b
  | int b=>obtain ⟨t,rfl⟩:=rx; exact SeqAt.EqAt.str_int a t' b t
  | str b=>obtain ⟨t,rfl⟩:=rx; exact SeqAt.EqAt.str_str a t' b t
  | _=>exact absurd (show false=true from fx) Bool.false_ne_true
 | _=>exact absurd (show false=true from fy) Bool.false_ne_true
def eqU (x:V) (u:Value):Bool:=match u with
 | .none=>eqV .non x
 | .bool b=>eqV (.bl b) x
 | .int i _=>eqV (.int i) x
 | .str z _=>eqV (.str z) x
 | _=>false
theorem y9 {x y:V} {u:Value} (r:RelV y u) (f:et y=true):eqU x u=eqV y x:=by
 cases y with
 | non=>cases r; rfl
 | bl b=>cases r; rfl
 | int i=>obtain ⟨t,rfl⟩:=r; rfl
 | str z=>obtain ⟨t,rfl⟩:=r; rfl
 | _=>exact absurd (show false=true from f) Bool.false_ne_true
theorem jj {x:V}:∀ {xs:List V} {us:List Value},Vals xs us→xs.all et=true→us.any (eqU x)=xs.any fun y=>eqV y x
 | _,_,.nil,_=>rfl
 | y::xs,u::us,.cons r t,f=>by
  rw [List.all_cons,Bool.and_eq_true] at f
  rw [List.any_cons,List.any_cons,y9 r f.1,jj t f.2]
theorem hU {A:Around} {s:Shared} {x:V} {v:Value} (rx:RelV x v) (fx:et x=true):∀ {xs:List V} {us:List Value},Vals xs us→xs.all et=true→∀ u∈us,SeqAt.EqAt A s u v (eqU x u)
 | _,_,.nil,_=>fun u hu=>by cases hu
 | y::xs,u::us,.cons r t,f=>fun u' hu=>by
  rw [List.all_cons,Bool.and_eq_true] at f
  rcases List.mem_cons.mp hu with rfl | hu
  ·rw [y9 r f.1]; exact rK r rx f.1 fx
  ·exact hU rx fx t f.2 u' hu
def inV (x:V) (xs:List V):Bool:=xs.any fun y=>eqV y x
def rIn (K:PySem.W.Frag) (neg:Bool):R2:=fun x y H Q=>∃ p xs,y=.ref p∧(SqL K H p xs∨SqT K H p xs)∧et x=true∧xs.all et=true∧Q (.bl (if neg then !inV x xs else inV x xs)) H
theorem jC:OpR X (compareOp .In) (rIn X.K false):=by
 intro pins s σ H x y v u Q I rx ry h
 obtain ⟨p,xs,rfl,hq,fx,fs,q⟩:=h
 cases ry
 rcases hq with hq | hq
 ·obtain ⟨its,r,pl,hz⟩:=I.list hq
  refine SeqAt.in_listAt (eqU x) pl.isList (fun w hw=>hU rx fx r fs w (by simpa using hw)) ⟨.bl _,H,I,rfl,?_⟩
  rw [show its.toArray.any (eqU x)=its.any (eqU x) by simp,jj r fs]
  exact q
 ·obtain ⟨its,r,pl,hz⟩:=I.tuple hq
  refine SeqAt.in_tupleAt (eqU x) pl (fun w hw=>hU rx fx r fs w (by simpa using hw)) ⟨.bl _,H,I,rfl,?_⟩
  rw [show its.toArray.any (eqU x)=its.any (eqU x) by simp,jj r fs]
  exact q
theorem i7:OpR X (compareOp .NotIn) (rIn X.K true):=by
 intro pins s σ H x y v u Q I rx ry h
 obtain ⟨p,xs,rfl,hq,fx,fs,q⟩:=h
 cases ry
 rcases hq with hq | hq
 ·obtain ⟨its,r,pl,hz⟩:=I.list hq
  refine SeqAt.notIn_listAt (eqU x) pl.isList (fun w hw=>hU rx fx r fs w (by simpa using hw)) ⟨.bl _,H,I,rfl,?_⟩
  rw [show its.toArray.any (eqU x)=its.any (eqU x) by simp,jj r fs]
  exact q
 ·obtain ⟨its,r,pl,hz⟩:=I.tuple hq
  refine SeqAt.notIn_tupleAt (eqU x) pl (fun w hw=>hU rx fx r fs w (by simpa using hw)) ⟨.bl _,H,I,rfl,?_⟩
  rw [show its.toArray.any (eqU x)=its.any (eqU x) by simp,jj r fs]
  exact q
theorem aL:cT X (.builtin "len") (fun xs H Q=>∃ p ys,xs=[.ref p]∧(SqL X.K H p ys∨SqT X.K H p ys)∧Q (.int ys.length) H):=by
 intro pins s σ H xs us Q I r h
 obtain ⟨p,ys,rfl,hq,q⟩:=h
 obtain ⟨u,rfl,rx⟩:=vals1 r
 cases rx
 have hn:=jI
 rcases hq with hq | hq
 ·obtain ⟨its,r',pl,hz⟩:=I.list hq
  have hlen:=r'.length
  exact Calls.call_len_list pl.isList (by simp only [List.size_toArray] <;> omega) ⟨.int ys.length,H,I.tok _,⟨s.toks+1,by rw [List.size_toArray,hlen]⟩,q⟩
 ·obtain ⟨its,r',pl,hz⟩:=I.tuple hq
  have hlen:=r'.length
  exact len_tuple pl (by simp only [List.size_toArray] <;> omega) ⟨.int ys.length,H,I.tok _,⟨s.toks+1,by rw [List.size_toArray,hlen]⟩,q⟩
theorem eG:cT X (.builtin "len") (fun xs H Q=>∃ z,xs=[.str z]∧z.length≤sizeLine∧Q (.int z.length) H):=by
 intro pins s σ H xs us Q I r h
 obtain ⟨z,rfl,hz,q⟩:=h
 obtain ⟨u,rfl,t,rfl⟩:=vals1 r
 have hn:=jI
 exact len_str (by omega) ⟨.int z.length,H,I.tok _,⟨_,rfl⟩,q⟩
theorem cP:cT X (.type "tuple") (fun xs H Q=>∃ p ys,xs=[.ref p]∧((SqL X.K H p ys∧∀ l,H l=none→Q (.ref l) (upd H l (.tup ys)))∨(SqT X.K H p ys∧Q (.ref p) H))):=by
 intro pins s σ H xs us Q I r h
 obtain ⟨p,ys,rfl,h⟩:=h
 obtain ⟨u,rfl,rx⟩:=vals1 r
 cases rx
 rcases h with ⟨hq,q⟩ | ⟨hq,q⟩
 ·obtain ⟨its,r',pl,hz⟩:=I.list hq
  have hlen:=r'.length
  refine call_tuple_list pl.isList (fun h' kp=>?_) (by simp only [List.size_toArray] <;> omega)
  have I1:Inv X pins σ H { s with heap:=h' }:=I.kept (t':=s.toks) kp
  have I2:Inv X pins σ (upd H h'.objs.size (.tup ys)) { s with heap:=h'.push { cls:=.type "tuple",data:=.seq its.toArray } } :=
   I1.laid (t':=s.toks) (fun b o e=>Heap.get?_push_of_some _ e) (Nat.le_refl _) (show ObjOk X.prog X.w _ _ _ (.tup ys) from ⟨hz,its,r',IsTup.new _ _⟩)
  exact ⟨.ref h'.objs.size,_,I2,rfl,q _ (I1.hok.fresh (Nat.le_refl _))⟩
 ·obtain ⟨its,r',pl,hz⟩:=I.tuple hq
  exact call_tuple_same pl ⟨.ref p,H,I,rfl,q⟩
def tyV (K:PySem.W.Frag) (T:String) (x:V) (H:Hp):Prop:=match x with
 | .str _=>T="str"
 | .int _=>T="int"
 | .ref p=>(T="list"∧∃ xs,SqL K H p xs)∨(T="tuple"∧∃ o,K.lookup p=some o∧o.cls=.type "tuple"∧o.dict=none)∨
   (T="dict"∧((∃ kvs,H p=some (.dK kvs))∨∃ kvs,H p=some (.dT kvs)))∨(T="set"∧∃ S n,H p=some (.set S n))
 | _=>False
theorem BW {pins:List (Addr×Obj)} {σ:St} {H:Hp} {s:Shared} {T:String} {x:V} {v:Value} (I:Inv X pins σ H s) (r:RelV x v) (ty:tyV X.K T x H) :
  s.TypeIs v T∧∀ a,v=.ref a→∃ ob,s.heap.get? a=some ob∧ob.dict=none:=by
 cases x with
 | str z =>
  obtain ⟨t,rfl⟩:=r
  cases (show T="str" from ty)
  exact ⟨typeIs_str s z t,fun _ e=>nomatch e⟩
 | int i =>
  obtain ⟨t,rfl⟩:=r
  cases (show T="int" from ty)
  exact ⟨typeIs_int s i t,fun _ e=>nomatch e⟩
 | ref p =>
  cases r
  rcases ty with ⟨rfl,xs,hq⟩ | ⟨rfl,o,hk,hc,hd⟩ | ⟨rfl,hk⟩ | ⟨rfl,S,n,hk⟩
  ·obtain ⟨its,_,pl,_⟩:=I.list hq
   refine ⟨pl.isList.typeIs,fun a e=>?_⟩
   cases e
   obtain ⟨o,n,e,c,hd,_⟩:=pl
   exact ⟨o,e,hd⟩
  ·refine ⟨⟨o,I.kIn p o hk,hc⟩,fun a e=>?_⟩
   cases e
   exact ⟨o,I.kIn _ o hk,hd⟩
  ·have z:∃ o,s.heap.get? p=some o∧o.ExactDict:=by
    rcases hk with ⟨kvs,hk⟩ | ⟨kvs,hk⟩
    ·obtain ⟨_,_,_,_,o,_,_,e,ex,_⟩:=I.hok p _ hk
     exact ⟨o,e,ex⟩
    ·obtain ⟨_,_,_,_,o,_,_,e,ex,_⟩:=I.hok p _ hk
     exact ⟨o,e,ex⟩
   obtain ⟨o,e,ex⟩:=z
   refine ⟨⟨o,e,ex.1⟩,fun a e2=>?_⟩
   cases e2
   exact ⟨o,e,ex.2.1⟩
  ·obtain ⟨o,_,_,_,e,ex,_⟩:=I.hok p _ hk
   refine ⟨⟨o,e,ex.1⟩,fun a e2=>?_⟩
   cases e2
   exact ⟨o,e,ex.2.1⟩
 | _=>exact False.elim ty
def Fq (K:PySem.W.Frag) (T:String) (r:V→List V→Hp→VK→Prop) (to:TE):TE:=fun σ H Q=>to σ H fun x H1=>tyV K T x H1∧r x [] H1 Q
def tBM (K:PySem.W.Frag) (T:String) (r:V→List V→Hp→VK→Prop) (to:TE) (t:TA):TE:=fun σ H Q=>to σ H fun x H1=>tyV K T x H1∧t σ H1 fun xs H2=>r x xs H2 Q
variable {o e:Expr} {es:List Expr} {to:TE} {t:TA} {name:Str} {apos cpos:Pos} {T id:String} {r:V→List V→Hp→VK→Prop}
theorem cw (pa:PlainAttrs T) (slot:Slot T name id) (hty:typeOf (.builtin id)=pure (.type "method_descriptor")) (hm:MtR X id r) (ho:PE X o to) (ha:PA X (e::es) t)
  (hbase:attributeBase o name X.env (eval o X.env)=eval o X.env:=by rfl)
  (hfew:((backTo cpos (starEach (e::es) X.env)).all (fun x=>!x.1) && (backToKw cpos (keywordEach [] X.env)).all (fun x=>x.1.isSome)
   && decide ((e::es).length+([]:List Keyword).length+(if ([]:List Keyword).isEmpty then 0 else 1)<30))=true:=by rfl)
  (hline:(apos.endLine == cpos.line)=true:=by rfl) (hs:starEach (e::es) X.env=(false,eval e X.env)::starEach es X.env:=by rfl) (hplain:(backTo cpos (starEach es X.env)).any (·.1)=false:=by rfl) :
  PE X (.Call (.Attribute o name apos) (e::es) [] cpos) (tBM X.K T r to t):=by
 intro pins s σ H Q I h
 refine wpAny_Call_method_late hbase hfew hline rfl (thn (ho pins s σ H _ I h) fun v s1 ⟨x,H1,I1,r1,ty,q1⟩=>?_)
 obtain ⟨h1,h2⟩:=BW I1 r1 ty
 refine ⟨T,id,pa,slot,hty,h1,h2,?_⟩
 have hA:=ha cpos pins s1 σ H1 _ I1 q1
 rw [hs] at hA ⊢
 refine Calls.callWith_builtin (by show (false || (backTo cpos (starEach es X.env)).any (·.1))=false; rw [hplain] <;> rfl) (Calls.evalArgs_plain ?_)
 exact thn hA fun us s2 ⟨vs,H2,I2,r2,q2⟩=>hm pins s2 σ H2 x vs v us Q I2 r1 r2 q2
end
end L2
namespace L2
open PySem PySem.Spec PyProof.Rows
def MtM (X:Cx) (id:String) (r:V→List V→Hp→VK→Prop):Prop :=
 ∀ (pins:List (Addr×Obj)) (s:Shared) (σ:St) (H:Hp) (x:V) (xs:List V) (v:Value) (us:List Value) (Q:VK),Inv X pins σ H s→RelV x v→Vals xs us→r x xs H Q→
  wpAny (model X.prog X.w) X.A (call (.builtin id) (v::us)) (EP X pins σ Q) X.xe s
theorem Vals.one:∀ {x:V} {us:List Value},Vals [x] us→∃ u,us=[u]∧RelV x u
 | _,_,.cons r .nil=>⟨_,rfl,r⟩
theorem Vals.two:∀ {x y:V} {us:List Value},Vals [x,y] us→∃ u v,us=[u,v]∧RelV x u∧RelV y v
 | _,_,_,.cons r (.cons q .nil)=>⟨_,_,rfl,r,q⟩
theorem Vals.rep {xs:List V} {us:List Value} (h:Vals xs us):∀ k:Nat,Vals (List.replicate k xs).flatten (List.replicate k us).flatten
 | 0=>.nil
 | k+1=>by
  rw [List.replicate_succ,List.replicate_succ,List.flatten_cons,List.flatten_cons]
  exact Vals.append h (Vals.rep h k)
theorem foldl_rep (its:List Value):∀ (k:Nat) (acc:List Value),
  List.foldl (fun x1 x2=>x1++x2) acc.toArray (List.replicate k its.toArray)=(acc++(List.replicate k its).flatten).toArray
 | 0,acc=>by simp
 | k+1,acc=>by
  have e:acc.toArray++its.toArray=(acc++its).toArray:=by simp
  have e2:(acc++its)++(List.replicate k its).flatten=acc++(List.replicate (k+1) its).flatten:=by
   rw [List.replicate_succ,List.flatten_cons,List.append_assoc]
  rw [← e2,← foldl_rep its k (acc++its),← e,List.replicate_succ,List.foldl_cons]
section
variable {X:Cx} {pins:List (Addr×Obj)} {σ:St} {H:Hp} {s:Shared} {l b:Addr} {xs ys zs:List V}
theorem Inv.lset {its its':List Value} {n:Nat} {f:Array Value→Array Value} {t':Nat} (I:Inv X pins σ H s) (hH:H l=some (.lst xs))
  (e:s.heap.get? l=some { cls:=.type "list",data:=.seq its.toArray n }) (hf:f its.toArray=its'.toArray) (hv:Vals ys its') (hz:ys.length≤sizeLine) :
  Inv X pins σ (upd H l (.lst ys)) { s with heap:=s.heap.update l (Obj.mapSeq f),toks:=t' }:=by
 have q:=PySem.IsL.update e f
 rw [hf] at q
 refine I.write (x:=l) (e:=l) (by rw [hH]; exact trivial) (.inl rfl) (fun b' u hb hu=>(Heap.get?_update_other s.heap (Obj.mapSeq f) (Ne.symm hb)).trans hu) ⟨_,q⟩ ?_
 exact ⟨hz,its',_,hv,q⟩
theorem Inv.lnew {its:List Value} {t':Nat} (I:Inv X pins σ H s) (hv:Vals ys its) (hz:ys.length≤sizeLine) :
  Inv X pins σ (upd H s.heap.objs.size (.lst ys)) { s with heap:=s.heap.push { cls:=.type "list",data:=.seq its.toArray },toks:=t' } :=
 I.laid (fun _ _ q=>Heap.get?_push_of_some _ q) (Nat.le_refl _) ⟨hz,its,0,hv,Heap.get?_push_size _ rfl⟩
theorem Inv.fresh (I:Inv X pins σ H s):H s.heap.objs.size=none:=I.hok.fresh (Nat.le_refl _)
theorem Inv.lstM (I:Inv X pins σ H s) (hH:H l=some (.lst xs)):xs.length≤sizeLine∧∃ (its:List Value) (n:Nat),Vals xs its∧xs.length=its.length∧s.heap.get? l=some { cls:=.type "list",data:=.seq its.toArray n }:=by
 obtain ⟨z,its,n,r,e⟩:=I.hok l _ hH
 exact ⟨z,its,n,r,r.length,e⟩
theorem yi {n:Nat} (h:n≤sizeLine):Builtin.List.listTooLong n=false:=by
 unfold Builtin.List.listTooLong
 exact decide_eq_false (by omega)
end
section
variable {X:Cx}
def Ap:V→List V→Hp→VK→Prop:=fun x vs H Q=>∃ l xs y,x=.ref l∧vs=[y]∧H l=some (.lst xs)∧xs.length<sizeLine∧Q .non (upd H l (.lst (xs++[y])))
theorem cK:MtM X "list.append" Ap:=by
 intro pins s σ H x vs v us Q I rx rv h
 obtain ⟨l,xs,y,rfl,rfl,hH,hz,q⟩:=h
 cases rx
 obtain ⟨u,rfl,ru⟩:=rv.one
 obtain ⟨z,its,n,r,hl,e⟩:=I.lstM hH
 refine call_meets F.slot_list_append ⟨_,e,rfl⟩ F.entry_list_append (F.args_list_append_2 _ _) (PySem.list_append l its.toArray n u (by rw [List.size_toArray]; omega)) ⟨e,?_⟩
 refine ⟨.non,_,I.lset (its':=its++[u]) hH e (by simp) (r.append (.cons ru .nil)) ?_,rfl,q⟩
 rw [List.length_append,List.length_singleton]
 omega
def AB:V→List V→Hp→VK→Prop:=fun x vs H Q=>∃ l b xs zs,x=.ref l∧vs=[.ref b]∧H l=some (.lst xs)∧H b=some (.lst zs)∧xs.length+zs.length≤sizeLine∧Q .non (upd H l (.lst (xs++zs)))
theorem CM:MtM X "list.extend" AB:=by
 intro pins s σ H x vs v us Q I rx rv h
 obtain ⟨l,b,xs,zs,rfl,rfl,hH,hB,hz,q⟩:=h
 cases rx
 obtain ⟨u,rfl,ru⟩:=rv.one
 cases ru
 obtain ⟨z,its,n,r,hl,e⟩:=I.lstM hH
 obtain ⟨z2,its2,n2,r2,hl2,e2⟩:=I.lstM hB
 have hsz:its.toArray.size+its2.toArray.size≤sizeLine:=by rw [List.size_toArray,List.size_toArray]; omega
 have hlong:¬ (!its.toArray.isEmpty && Builtin.List.listTooLong (its.toArray.size+its2.toArray.size))=true:=by
  rw [yi hsz,Bool.and_false]
  exact Bool.false_ne_true
 refine call_meets F.slot_list_extend ⟨_,e,rfl⟩ F.entry_list_extend (F.args_list_extend_2 _ _)
  (AutoSeq1.list_extend_list_list_0 l its.toArray n b its2.toArray n2 hlong (by rw [List.size_toArray]; omega) (by omega)) ⟨e,e2,?_⟩
 refine ⟨.non,_,I.lset (its':=its++its2) hH e (by simp) (r.append r2) ?_,rfl,q⟩
 rw [List.length_append]
 omega
def FH:V→List V→Hp→VK→Prop:=fun x vs H Q=>∃ l xs y,x=.ref l∧vs=[]∧H l=some (.lst xs)∧xs[xs.length - 1]?=some y∧Q y (upd H l (.lst xs.dropLast))
def DV:V→List V→Hp→VK→Prop:=fun x vs H Q=>∃ l xs i k y,x=.ref l∧vs=[.int i]∧H l=some (.lst xs)∧-(2 ^ 63)≤i∧i<2 ^ 63∧seqIndex? i xs.length=some k∧xs[k]?=some y∧Q y (upd H l (.lst (xs.eraseIdx k)))
def Dz:V→List V→Hp→VK→Prop:=fun x vs H Q=>∃ l xs,x=.ref l∧vs=[]∧H l=some (.lst xs)∧Q .non (upd H l (.lst xs.reverse))
def EH:V→List V→Hp→VK→Prop:=fun x vs H Q=>∃ l xs,x=.ref l∧vs=[]∧H l=some (.lst xs)∧Q .non (upd H l (.lst []))
def D0:R2:=fun x y H Q=>∃ l b xs zs,x=.ref l∧y=.ref b∧H l=some (.lst xs)∧H b=some (.lst zs)∧xs.length+zs.length≤sizeLine∧∀ p,H p=none→Q (.ref p) (upd H p (.lst (xs++zs)))
theorem sv:OpR X (binaryOp .Add) D0:=by
 intro pins s σ H x y v u Q I rx ry h
 obtain ⟨l,b,xs,zs,rfl,rfl,hH,hB,hz,q⟩:=h
 cases rx
 cases ry
 obtain ⟨z,its,n,r,hl,e⟩:=I.lstM hH
 obtain ⟨z2,its2,n2,r2,hl2,e2⟩:=I.lstM hB
 refine PySem.P.add_list e e2 ?_ (by rw [List.size_toArray,List.size_toArray]; omega)
 have ea:its.toArray++its2.toArray=(its++its2).toArray:=by simp
 rw [ea]
 exact ⟨.ref _,_,I.lnew (t':=s.toks) (r.append r2) (by rw [List.length_append]; omega),rfl,q _ I.fresh⟩
def Fm:R2:=fun x y H Q=>∃ l k xs,x=.ref l∧y=.int k∧H l=some (.lst xs)∧-(2 ^ 63)≤k∧k<2 ^ 63∧xs.length * k.toNat≤sizeLine∧
 ∀ p,H p=none→Q (.ref p) (upd H p (.lst (List.replicate k.toNat xs).flatten))
theorem len_rep {α:Type} (xs:List α) (k:Nat):(List.replicate k xs).flatten.length=k * xs.length:=by
 induction k with
 | zero=>simp
 | succ k ih=>rw [List.replicate_succ,List.flatten_cons,List.length_append,ih,Nat.succ_mul,Nat.add_comm]
end
section
variable {prog:Program} {w:World} {A:Around} {E:Value→Shared→Prop} {s:Shared}
end
section
variable {X:Cx}
end
end L2
namespace Att
open PySem PySem.W PySem.Calls PyProof.Rows
theorem kL {P:Params} {h:Heap}:∀ (ns:List Int) (vs:List Value),WellAll P h vs (ns.map WData.int)→IntsAre vs ns:=by
 intro ns
 induction ns with
 | nil =>
  intro vs w
  rw [List.map_nil] at w
  cases w
  exact .nil
 | cons n ns ih =>
  intro vs w
  rw [List.map_cons] at w
  cases w with
  | cons a b =>
   cases a
   exact .cons _ _ (ih _ b)
theorem wy {l:OpenLaw} {n:Nat} (hn:l.most=some n) {P:Params} {h:Heap} {args:List WData} {vals:List Value}
  (hpre:l.row.toRowW.claim.pre args=true) (hwl:WellAll P h vals args) :
  ∃ a vs ns,vals=[Value.ref a]∧args=[WData.list (ns.map WData.int)]∧h.get? a=some { cls:=.type "list",data:=.seq vs.toArray }∧IntsAre vs ns∧ns.length≤n:=by
 have hsh:WShape.hasAll [] args [.list .int]=true:=(pre_splitW hpre).1
 have hc:l.pre.holds [] { args:=args }=true:=(pre_splitW hpre).2
 obtain ⟨d,r,rfl,h1,h2⟩:=hasAllW_cons hsh
 obtain rfl:=hasAllW_nil h2
 obtain ⟨xs,rfl,h3⟩:=hasW_list h1
 obtain ⟨ns,rfl⟩:=items_int h3
 have hlen:ns.length≤n:=by
  unfold OpenLaw.pre at hc
  have h4:(WTm.not (.lt (.lit (.int (n:Int))) (.len (.arg 0)))).holds [] { args:=[.list (ns.map .int)] }=true:=by
   have h4:=(holds_andW hc).1
   rw [hn] at h4
   exact h4
  have h5:=condW_of h4 (w_not (w_lt w_lit (w_len_list (w_arg rfl))))
  rw [List.length_map] at h5
  refine Nat.le_of_not_lt fun q=>?_
  have q':(n:Int)<((ns.length:Nat):Int):=by omega
  first
   | (rw [decide_eq_true q'] at h5; exact absurd h5 (by decide))
   | (simp at h5; omega)
 cases hwl with
 | cons w1 w2 =>
  cases w2
  cases w1 with
  | list ho hall=>exact ⟨_,_,ns,rfl,rfl,ho,kL ns _ hall,hlen⟩
theorem vP (l:OpenLaw) (args:List WData):l.row.toRowW.claim.post args (.bool true) args=true :=
 postW_of (r:=l.row.toRowW) (X:=(true == true))
  (show WShape.has [] (.bool true) .bool=true by first | rfl | decide | simp [WShape.has,WShape.arms,WShape.armsAll])
  (show (WTm.eq .res (.lit (.bool true))).value [] { args:=args,res:=some (.bool true),after:=args }=some (.bool (true == true)) from w_eq_bool (w_res rfl) w_lit) rfl
theorem qH {l:OpenLaw} {n:Nat} {q:Program} {loose:List Str} {XP:(Str→Option Value)→Heap→Prop} {YP:World→Heap→Prop} {d:DefRec}
  (hn:l.most=some n) (hdf:d.params.defaults=[])
  (call:∀ (w:World) (s₀ s₁:Shared) (mg mb:Str→Option Value) (fa:Addr) (o:Obj) (pm cd doc:Value) (a:Addr) (vs:List Value) (ns:List Int),
   Ground q loose [] XP w s₀ mg mb s₁.heap→YP w s₁.heap→
   s₁.heap.get? fa=some o→o.data=.func (docDef d.name d.params d.body d.scope pm cd doc)→s₁.heap.CodeRec cd d.name→mg d.name=some (.ref fa)→
   s₁.heap.get? a=some { cls:=.type "list",data:=.seq vs.toArray }→IntsAre vs ns→ns.length≤n→s₁.gens=#[]→
   codeAny (model l.prog w) callerA (.call (.ref fa) ⟨[.ref a],[]⟩) (fun r s'=>r=.ok (.ret (.bool true))∧OldK s₁.heap s'.heap∧s'.os=s₁.os∧AllBare s'.gens) s₁) :
  WalkO q loose XP YP l.row.toRowW d [] (fun f vs=>PySem.call f vs):=by
 intro w s₀ s₁ mg mb G Y fa o pm cd doc dV kV ho hd hcd hD hmg hg args vals as hpre hlay hrd hwl hlo
 obtain rfl:dV=.none:=Dflts.none hD hdf
 obtain rfl:kV=.none:=Dflts.noKw hD
 obtain ⟨a,vs,ns,rfl,rfl,hobj,hints,hlen⟩:=wy hn hpre hwl
 refine enter_call (codeAny_mono (call w s₀ s₁ mg mb fa o pm cd doc a vs ns G Y ho (fd_plain hd) hcd hmg hobj hints hlen hg) fun r s' hq=>?_)
 obtain ⟨rfl,h2,h3,h4⟩:=hq
 exact ⟨.inl ⟨.bool true,.bool true,[],rfl,fun _=>rfl,.bool true,vP l _,fun _=>⟨List.Pairwise.nil,fun _ hm=>(nomatch hm)⟩⟩,h2,h3,h4⟩
section
variable {prog:Program} {w:World} {A:Around} {E:Value→Shared→Prop} {s:Shared} {K:Frag}
def Ef (h:Heap):Heap:={ h with objs:=#[] }
def ledger (h:Heap) (L d:Addr):List (Addr×Obj):=(List.range h.objs.size).filterMap fun a=>if a=L∨a=d then none else (h.get? a).map fun o=>(a,o)
end
end Att
namespace L2
open PySem PySem.Spec PyProof.Rows
theorem jB:∀ {vs:List Value} {ns:List Int},IntsAre vs ns→Vals (ns.map V.int) vs
 | _,_,.nil=>.nil
 | _,_,.cons n t h=>.cons ⟨t,rfl⟩ (jB h)
def zv (H:Hp):Prop:=∀ b,H b=none∨∃ o xs,H b=some (.frz o (.lst xs))
theorem ym {P:Program} {w:World} {K:PySem.W.Frag} {mg mb:Str→Option Value} {CX:CXT} {k:Nat} {fa a:Addr} {fd:FuncData} {x:Str} {sp:Sp} {s₁:Shared} {vs:List Value} {ns:List Int}
  (KX:K.In s₁.heap) (hns:s₁.heap.Ns mainGlobals mg) (hb:s₁.heap.Ns builtinsNs mb) (hbb:∀ x:Str,x≠"__name__"→mb x=bootBuiltins x) (hlim:s₁.heap.NoLimit) (hg:s₁.gens=#[])
  (ha:s₁.heap.get? a=some { cls:=.type "list",data:=.seq vs.toArray }) (hi:IntsAre vs ns) (hl:ns.length≤sizeLine) (hr:Room k callerA)
  (F:∀ base:Heap,K.In base→base.Ns mainGlobals mg→FnOk P w K mg base CX k fa fd [x] sp) (hbind:∀ (s:Shared) (u:Value),BindsTo s fd ⟨[u],[]⟩ [(x,u)])
  (hsp:∀ H:Hp,zv H→SqL K H a (ns.map V.int)→sp [.ref a] H (fun v _=>v=.bl true) fun _ _ _=>False)
  (hCX:∀ H e s',CX [] H s₁ (fun _ _ _=>False) e s'→False) :
  codeAny (model P w) callerA (.call (.ref fa) ⟨[.ref a],[]⟩) (fun r s'=>r=.ok (.ret (.bool true))∧OldK s₁.heap s'.heap∧s'.os=s₁.os∧AllBare s'.gens) s₁:=by
 have rv:=jB hi
 have lenV:=hi.length
 have core:∀ H:Hp,zv H→SqL K H a (ns.map V.int)→HOk P w H s₁.heap→(∀ b,H b≠none→b=a)→(H a≠none→K.lookup a=none)→
   codeAny (model P w) callerA (.call (.ref fa) ⟨[.ref a],[]⟩) (fun r s'=>r=.ok (.ret (.bool true))∧OldK s₁.heap s'.heap∧s'.os=s₁.os∧AllBare s'.gens) s₁:=by
  intro H hO hS hok hA hK
  have base_of:∀ {b:Addr} {o:Obj},s₁.heap.get? b=some o→H b=none→(oH s₁.heap H).get? b=some o:=fun e n=>ze e n
  have noA:∀ {b:Addr} {o:Obj} {es:Array DictEntry} {ep:Nat},s₁.heap.get? b=some o→o.data=.dict es ep→H b=none:=fun {b o es ep} e d=>by
   cases q:H b with
   | none=>rfl
   | some u =>
    have e':b=a:=hA b (by rw [q]; simp)
    subst e'
    rw [ha] at e; cases e
    have d':Data.seq vs.toArray _=Data.dict es ep:=d
    cases d'
  have nsK:∀ {b:Addr} {m:Str→Option Value},s₁.heap.Ns b m→(oH s₁.heap H).Ns b m:=fun {b m} ⟨o,es,ep,e,d,r⟩=>⟨o,es,ep,base_of e (noA e d),d,r⟩
  have hKb:K.In (oH s₁.heap H):=fun b o e=>base_of (KX b o e) (by
   cases q:H b with
   | none=>rfl
   | some u =>
    have e':b=a:=hA b (by rw [q]; simp)
    subst e'
    rw [hK (by rw [q]; simp)] at e; cases e)
  have hM:Mod K mg (oH s₁.heap H):=⟨hKb,nsK hns,⟨mb,nsK hb,hbb⟩,let ⟨mc,h1,h2⟩:=hlim; ⟨mc,nsK h1,h2⟩⟩
  have e0:Env0 P w K mg (oH s₁.heap H) callerA [] s₁ H:=⟨rfl,hM,fun b o e=>zU e,Nat.le_of_eq (va _ _),trivial,fun b hb=>absurd (show b∈([]:List Addr) from hb) (by simp),hok,.of_eq hg⟩
  refine codeAny_mono ((F _ hKb (nsK hns)).run callerA [] s₁ H ⟨[.ref a],[]⟩ [.ref a] [.ref a] _ _ hr e0 (hbind s₁ (.ref a)) (.cons rfl .nil) (hsp H hO hS)) fun r s' h=>?_
  cases r with
  | error e=>exact (hCX H e s' h).elim
  | ok fl =>
   cases fl with
   | next=>exact False.elim h
   | brk=>exact False.elim h
   | cont=>exact False.elim h
   | ret u =>
    obtain ⟨v,H',os,bare,un,hok',r',q⟩:=h
    have q':v=.bl true:=q
    subst q'
    obtain rfl:u=Value.bool true:=r'
    refine ⟨rfl,OldK.of_keep fun b o e=>?_,os,bare⟩
    cases q:H b with
    | none=>exact un.keep b o e q (by intro z; exact absurd (show b∈([]:List Addr) from z) (by simp)) (by simp)
    | some u =>
     rcases hO b with z | ⟨ob,xs,z⟩
     ·rw [q] at z; cases z
     ·have z2:=un.frzs b ob _ z
      obtain ⟨e1,_⟩:=hok b _ z
      obtain ⟨e2,_⟩:=hok' b _ z2
      rw [e] at e1; cases e1
      exact e2
 cases hk:K.lookup a with
 | some o =>
  have e:=KX a o hk
  rw [ha] at e
  cases e
  refine core (fun _=>none) (fun _=>.inl rfl) (.inr ⟨_,vs.toArray,_,hk,rfl,rfl,rfl,by rw [List.size_toArray,lenV]; exact hl,by simpa using rv⟩) (fun b u z=>by have z':(none:Option HO)=some u:=z; cases z') (fun b z=>absurd rfl z) fun z=>absurd rfl z
 | none =>
  refine core (fun b=>if b=a then some (.frz { cls:=.type "list",data:=.seq vs.toArray } (.lst (ns.map V.int))) else none) (fun b=>?_) (.inl (.inr ⟨{ cls:=.type "list",data:=.seq vs.toArray },if_pos rfl⟩)) (fun b u z=>?_) (fun b z=>?_) fun _=>hk
  ·by_cases hb:b=a
   ·exact .inr ⟨_,_,if_pos hb⟩
   ·exact .inl (if_neg hb)
  ·by_cases hb:b=a
   ·have z':=(if_pos hb).symm.trans z
    cases z'
    subst hb
    exact ⟨ha,by rw [List.length_map]; exact hl,vs,_,rv,ha⟩
   ·have z':=(if_neg hb).symm.trans z
    cases z'
  ·by_cases hb:b=a
   ·exact hb
   ·exact absurd (if_neg hb) z
end L2
namespace L2
open PySem PySem.Spec PyProof.Rows
abbrev KOf {K:PySem.W.Frag} {h:Heap} (_:K.In h):PySem.W.Frag:=K
theorem Al {l:PySem.W.OpenLaw} {n k:Nat} {q:Program} {loose:List Str} {XP:(Str→Option Value)→Heap→Prop} {YP:World→Heap→Prop} {d:DefRec} {K:Params→PySem.W.Frag} {CX:World→CXT} {sp:World→Sp} {x:Str}
  (hn:l.most=some n) (hn2:n≤sizeLine) (hdf:d.params.defaults=[]) (hr:Room k callerA)
  (hY:∀ (w:World) (h:Heap),YP w h→(K w.params).In h)
  (F:∀ (w:World) (mg:Str→Option Value) (fa:Addr) (h:Heap),(K w.params).In h→h.Ns mainGlobals mg→mg d.name=some (.ref fa)→
   ∃ fd:FuncData,(∀ (s:Shared) (u:Value),BindsTo s fd ⟨[u],[]⟩ [(x,u)])∧
    ∀ base:Heap,(K w.params).In base→base.Ns mainGlobals mg→FnOk l.prog w (K w.params) mg base (CX w) k fa fd [x] (sp w))
  (hsp:∀ (w:World) (H:Hp) (a:Addr) (ns:List Int),ns.length≤n→zv H→SqL (K w.params) H a (ns.map V.int)→sp w [.ref a] H (fun v _=>v=.bl true) fun _ _ _=>False)
  (hCX:∀ (w:World) (H:Hp) (s:Shared) (e:Value) (s':Shared),CX w [] H s (fun _ _ _=>False) e s'→False) :
  PySem.W.WalkO q loose XP YP l.row.toRowW d [] (fun f vs=>PySem.call f vs):=by
 refine Att.qH hn hdf fun w s₀ s₁ mg mb fa o pm cd doc a vs ns G Y ho hd hcd hmg hobj hints hlen hg=>?_
 have KX:=hY w _ Y
 obtain ⟨fd,hb,hF⟩:=F w mg fa _ KX G.T.g hmg
 exact ym KX G.T.g G.T.b G.T.builtins G.T.nolimit hg hobj hints (Nat.le_trans hlen hn2) hr hF hb (fun H hO hS=>hsp w H a ns hlen hO hS) fun H e s'=>hCX w H s₁ e s'
theorem xv {l:PySem.W.OpenLaw} {n k:Nat} {q:Program} {loose:List Str} {XP:(Str→Option Value)→Heap→Prop} {YP:World→Heap→Prop} {d:DefRec} {K:Params→PySem.W.Frag} {CX:CXT} {sp:PySem.W.Frag→Sp} {x:Str}
  (hn:l.most=some n) (hn2:n≤sizeLine) (hdf:d.params.defaults=[]) (hr:Room k callerA)
  (hY:∀ (w:World) (h:Heap),YP w h→(K w.params).In h)
  (F:∀ (w:World) (mg:Str→Option Value) (fa:Addr) (h:Heap),(K w.params).In h→h.Ns mainGlobals mg→mg d.name=some (.ref fa)→
   ∃ fd:FuncData,(∀ (s:Shared) (u:Value),BindsTo s fd ⟨[u],[]⟩ [(x,u)])∧
    ∀ base:Heap,(K w.params).In base→base.Ns mainGlobals mg→FnOk l.prog w (K w.params) mg base CX k fa fd [x] (sp (K w.params)))
  (hsp:∀ (K:PySem.W.Frag) (H:Hp) (a:Addr) (ns:List Int),ns.length≤n→zv H→SqL K H a (ns.map V.int)→sp K [.ref a] H (fun v _=>v=.bl true) fun _ _ _=>False)
  (hCX:∀ (H:Hp) (s:Shared) (e:Value) (s':Shared),CX [] H s (fun _ _ _=>False) e s'→False) :
  PySem.W.WalkO q loose XP YP l.row.toRowW d [] (fun f vs=>PySem.call f vs) :=
 Al (K:=K) (CX:=fun _=>CX) (sp:=fun w=>sp (K w.params)) hn hn2 hdf hr hY F (fun w H a ns h1 h2 h3=>hsp (K w.params) H a ns h1 h2 h3) fun _ H s e s'=>hCX H s e s'
end L2
namespace L2
open PySem PySem.Spec PyProof.Rows
def inClass (s:Stmt) (j:Nat):Stmt:=match s with
 | .ClassDef _ _ _ body _ _ _ _ _ _ _=>body.getD j (.Pass ⟨0,0,0,0⟩)
 | _=>.Pass ⟨0,0,0,0⟩
def dP (s:Stmt):Arguments:=match s with
 | .FunctionDef _ a _ _ _ _ _ _ _ _=>a
 | _=>{ posonlyargs:=[],args:=[],vararg:=none,kwonlyargs:=[],kw_defaults:=[],kwarg:=none,defaults:=[] }
def cW (s:Stmt):List Stmt:=match s with
 | .FunctionDef _ _ b _ _ _ _ _ _ _=>b
 | _=>[]
def ar (s:Stmt):Scope:=match s with
 | .FunctionDef _ _ _ _ _ _ sc _ _ _=>sc
 | _=>{ kind:=.function,names:=[],isGenerator:=false,isCoroutine:=false }
abbrev CX0:CXT:=fun _ _ _ _ _ _=>False
abbrev E0:XK:=fun _ _ _=>False
theorem cj {X:Cx}:Passes CX0 X E0:=fun _ _ _ _ _ _ _ h=>h.elim
structure Fun (K:PySem.W.Frag) (x qual:Str) (st:Stmt) (f:Addr) (fd:FuncData):Prop where
 ex:∃ (oc:Value) (od:Option Addr) (kV doc pm:Value) (an:Option Addr) (cdv ct:Value) (osl:Array (Option Value)),
  fd=PySem.W.fnOf x qual (dP st) (cW st) (ar st) .none kV doc pm an cdv ct∧K.lookup f=some ⟨oc,od,.func fd,osl⟩∧PySem.W.codeIn K cdv qual=true
 kp:PySem.W.keepIn K (.ref f)=true
section
variable {P:Program} {w:World} {K:PySem.W.Frag} {mg:Str→Option Value} {base:Heap}
theorem Fun.ok {x qual:Str} {st:Stmt} {f:Addr} {fd:FuncData} {N ps:List Str} {k:Nat} {sp:Sp} (F:Fun K x qual st f fd) (S:FnScope N ps (ar st)) (len:∀ vs H Q E,sp vs H Q E→vs.length=ps.length)
  (hbody:∀ (cdv:Value) (A:Around) (outer:List Env) (s:Shared) (H:Hp) (vs:List V) (Q:VK) (E:XK),Room k (A.deeper (envOfC qual (ar st) s.heap.objs.size f cdv))→sp vs H Q E→
   ∃ t,PSs (gL CX0 P w K mg base N qual (ar st) f cdv A outer s H E).nox (cW st) t∧t { nx:=fun _ H'=>Q .non H',rt:=Q } (start N vs) H):FnOk P w K mg base CX0 (k+1) f fd ps sp:=by
 obtain ⟨oc,od,kV,doc,pm,an,cdv,ct,osl,rfl,lk,hcd⟩:=F.ex
 refine A3 lk hcd S len fun A outer s H vs Q E hr hsp=>?_
 obtain ⟨t,h,q⟩:=hbody cdv A outer s H vs Q E hr hsp
 exact ⟨t,h.nox,q⟩
theorem Fun.binds {x qual:Str} {st:Stmt} {f:Addr} {fd:FuncData} {ps:List Str} (F:Fun K x qual st f fd)
  (h:∀ (kV doc pm:Value) (an:Option Addr) (cdv ct:Value) (us:List Value),us.length=ps.length→bindArgs (PySem.W.fnOf x qual (dP st) (cW st) (ar st) .none kV doc pm an cdv ct) ⟨us,[]⟩=pure (ps.zip us)):Binds K fd ps []:=by
 obtain ⟨oc,od,kV,doc,pm,an,cdv,ct,osl,rfl,lk,hcd⟩:=F.ex
 exact .all (h kV doc pm an cdv ct)
theorem tT {x qual:Str} {st:Stmt} {f:Addr} {oc:Value} {od an:Option Addr} {osl:Array (Option Value)} {kV doc pm cdv ct:Value} (l:K.lookup f=some ⟨oc,od,.func (PySem.W.fnOf x qual (dP st) (cW st) (ar st) .none kV doc pm an cdv ct),osl⟩)
  (c:PySem.W.codeIn K cdv qual=true) (k:PySem.W.keepIn K (.ref f)=true):Fun K x qual st f (PySem.W.fnOf x qual (dP st) (cW st) (ar st) .none kV doc pm an cdv ct):=⟨⟨oc,od,kV,doc,pm,an,cdv,ct,osl,rfl,l,c⟩,k⟩
end
theorem oj {A:Around} {k:Nat} (hr:Room k A):A.units+1<cLine:=Nat.lt_of_le_of_lt (Nat.add_le_add_left (by decide:1≤64) _) hr.units
theorem aJ {n:Nat} (h:n≤1000):n<sizeLine:=Nat.lt_of_le_of_lt h (by decide)
section
variable {X:Cx}
theorem pv (i:Nat) {x:Str} {pos:Pos} (hN:X.N[i]?=some x:=by rfl) (hv:Vis X.env.scope x:=by first | exact Or.inl rfl | exact Or.inr (Or.inl rfl) | exact Or.inr (Or.inr rfl)) (hd:(x == ("__debug__":Str))=false:=by decide)
  (hcd:(x == ("__classdict__":Str))=false:=by decide):PE X (.Name x pos) (DB i):=Bu hN hv hd hcd
end
theorem bg {A B:Prop} (h:B):if false=true then A else B:=by
 rw [if_neg Bool.false_ne_true]
 exact h
theorem bc {A B:Prop} (h:A):if true=true then A else B:=by
 rw [if_pos rfl]
 exact h
theorem cb {c A B:Prop} [Decidable c] (h1:c→A) (h2:¬ c→B):if c then A else B:=by
 by_cases h:c
 ·rw [if_pos h]
  exact h1 h
 ·rw [if_neg h]
  exact h2 h
def Same (H H':Hp):Prop:=∀ b o,H b=some o→H' b=some o
theorem Same.refl (H:Hp):Same H H:=fun _ _ h=>h
theorem Same.trans {H H1 H2:Hp} (a:Same H H1) (b:Same H1 H2):Same H H2:=fun c o h=>b c o (a c o h)
theorem Same.free {H H':Hp} (e:Same H H') {l:Addr} (h:H' l=Option.none):H l=Option.none:=by
 cases q:H l with
 | none=>rfl
 | some o =>
  rw [e l o q] at h
  cases h
theorem Same.seq {K:PySem.W.Frag} {H H':Hp} {a:Addr} {xs:List V} (e:Same H H') (h:SqL K H a xs):SqL K H' a xs:=by
 rcases h with (h | ⟨o,h⟩) | h
 ·exact .inl (.inl (e _ _ h))
 ·exact .inl (.inr ⟨o,e _ _ h⟩)
 ·exact .inr h
end L2
set_option maxHeartbeats 4000000
namespace L2
open PySem PySem.Spec PyProof.Rows
def Big (i:Int):Prop:=i.natAbs<2 ^ 4000
def E8 (i j:Int):Prop:=Big i∧Big j
def E1 (_ j:Int):Prop:=0<j∧Big j
section
variable {X:Cx}
theorem rD:cT X (.builtin "isinstance") (fun xs H Q=>∃ (x c:V) (t:Value) (b:Bool),xs=[x,c]∧TyOf X.K H x t∧(∃ u,RelV c u∧(∀ u',RelV c u'→u'=u)∧PySem.W.kitOne X.K t u=some b)∧Q (.bl b) H):=by
 intro pins s σ H xs us Q I r h
 obtain ⟨x,c,t,b,rfl,ty,⟨u,_,hu,e⟩,q⟩:=h
 obtain ⟨u1,u2,rfl,r1,r2⟩:=vals2 r
 have e2:=hu u2 r2
 subst e2
 exact wB I r1 ty e fun tk=>⟨.bl b,H,I.tok _,rfl,q⟩
def C8 (K:PySem.W.Frag) (n:String):List V→Hp→VK→Prop:=fun xs H Q=>∃ (x:V) (t:Value) (b:Bool),xs=[x,.ty n]∧TyOf K H x t∧PySem.W.kitOne K t (.type n)=some b∧Q (.bl b) H
theorem ck (n:String):cT X (.builtin "isinstance") (C8 X.K n):=by
 intro pins s σ H xs us Q I r h
 obtain ⟨x,t,b,rfl,ty,e,q⟩:=h
 exact rD pins s σ H _ us Q I r ⟨x,.ty n,t,b,rfl,ty,⟨.type n,rfl,fun u' h'=>h',e⟩,q⟩
def FO (K:PySem.W.Frag) (C:Addr):List V→Hp→VK→Prop:=fun xs H Q=>∃ (x:V) (t:Value) (b:Bool),xs=[x,.ref C]∧TyOf K H x t∧PySem.W.kitOne K t (.ref C)=some b∧Q (.bl b) H
theorem Inv.turnedNew {pins:List (Addr×Obj)} {σ:St} {H:Hp} {s:Shared} {h':Heap} {t':Nat} {ch:List Addr} {a:Addr} {o:HO} (I:Inv X pins σ H s) (k:∀ b u,b∉ch→s.heap.get? b=some u→h'.get? b=some u)
  (hf:∀ b∈ch,iF X pins H b) (hp:s.heap.objs.size≤a) (new:ObjOk X.prog X.w (upd H a o) h' a o):Inv X pins σ (upd H a o) { s with heap:=h',toks:=t' }:=by
 have na:H a=none:=I.hok.fresh hp
 have nch:∀ b u,H b=some u→b∉ch:=fun b u e z=>by
  have:=(hf b z).1
  rw [this] at e
  cases e
 refine I.step (g':=s.gens) (d':=s.drawn) (ch:=ch) (fun b hb=>?_) (fun b u _ _ hc e _=>k b u hc e) (fun b u _ _ hc e _=>⟨u.slots,k b u hc e⟩) (fun b u _ e n=>?_)
  (fun b u hc e=>⟨u,k b u hc e⟩) (fun b xs e=>by rw [aC (aM e na)]; exact e) (fun b u v e=>by rw [aC (aM e na)]; exact e) (fun b ps e=>⟨#[],by rw [aC (aM e na),e]; simp⟩) (fun m hm=>?_) (fun b u e=>?_) I.bare
 ·obtain ⟨_,f1,_,f3,f4,f5⟩:=hf b hb
  exact ⟨f3,f1,f4,f5⟩
 ·have hne:b≠a:=Nat.ne_of_lt (Nat.lt_of_lt_of_le (Heap.lt_size e) hp)
  rw [aC hne]
  exact n
 ·obtain ⟨ob,es,ep,ho,r⟩:=hm
  exact ⟨ob,es,ep,k _ ob (fun z=>(hf _ z).2.1 rfl) ho,r⟩
 ·by_cases hb:b=a
  ·subst hb
   rw [ah] at e
   cases e
   exact new
  ·rw [aC hb] at e
   refine (I.hok b u e).stay (fun c v hc q=>k c v ?_ q) (fun c q=>by rw [aC (aM q na)]; exact q) fun c xs q=>by rw [aC (aM q na)]; exact q
   rcases hc with z | z
   ·rw [z]; exact nch b u e
   ·exact nch c _ z
theorem Inv.turnedL {pins:List (Addr×Obj)} {σ:St} {H:Hp} {s:Shared} {h':Heap} {t':Nat} {ch:List Addr} (I:Inv X pins σ H s) (k:∀ b u,b∉ch→s.heap.get? b=some u→h'.get? b=some u)
  (hf:∀ b∈ch,iF X pins H b):Inv X pins σ H { s with heap:=h',toks:=t' }:=by
 have nch:∀ b u,H b=some u→b∉ch:=fun b u e z=>by
  have:=(hf b z).1
  rw [this] at e
  cases e
 refine I.step (g':=s.gens) (d':=s.drawn) (ch:=ch) (fun b hb=>?_) (fun b u _ _ hc e _=>k b u hc e) (fun b u _ _ hc e _=>⟨u.slots,k b u hc e⟩) (fun b u _ e n=>n)
  (fun b u hc e=>⟨u,k b u hc e⟩) (fun b xs e=>e) (fun b u v e=>e) (fun b ps e=>⟨#[],by rw [e]; simp⟩) (fun m hm=>?_) (fun b u e=>?_) I.bare
 ·obtain ⟨_,f1,_,f3,f4,f5⟩:=hf b hb
  exact ⟨f3,f1,f4,f5⟩
 ·obtain ⟨ob,es,ep,ho,r⟩:=hm
  exact ⟨ob,es,ep,k _ ob (fun z=>(hf _ z).2.1 rfl) ho,r⟩
 ·refine (I.hok b u e).stay (fun c v hc q=>k c v ?_ q) (fun c q=>q) fun c xs q=>q
  rcases hc with z | z
  ·rw [z]; exact nch b u e
  ·exact nch c _ z
end
def Ite (K:PySem.W.Frag) (a:Addr):It :=
 ⟨fun i H=>∃ xs x,SqL K H a xs∧xs[i]?=some x,fun i H v H'=>∃ T x,H T=none∧H'=upd H T (.tup [.int (i:Int),x])∧v=.ref T∧∀ xs,SqL K H a xs→xs[i]?=some x,fun i H=>∃ xs,SqL K H a xs∧xs.length≤i⟩
theorem wm {P:Program} {w:World} {K:PySem.W.Frag} {elts:List Expr} {x1:Nat} {tp:Pos} (a e it:Addr) (hei:e≠it) :
  Turn P w K (.Tuple elts x1 tp) (Ite K a) [e,it] e (fun i h=>(∃ old,IsEnum h e it i old)∧h.IsListIter it a i) where
 mem:=by simp
 obj:=fun i h st b hb=>by
  obtain ⟨⟨old,he⟩,⟨o,e1,c,d⟩⟩:=st
  rcases List.mem_cons.mp hb with z | z
  ·subst z
   exact ⟨_,he,fun v q=>nomatch q⟩
  ·have z':b=it:=by simpa using z
   subst z'
   exact ⟨o,e1,fun v q=>by rw [d] at q; cases q⟩
 keep:=fun i h h' st k=>⟨st.1.elim fun old he=>⟨old,k e (by simp) _ he⟩,st.2.at fun o q=>k it (by simp) o q⟩
 item:=by
  intro X hP hw hK hc i pins s σ H E I hf st hg
  subst hP hw hK
  obtain ⟨xs,x,hq,hx⟩:=hg
  obtain ⟨its,rv,p,hz⟩:=I.list hq
  obtain ⟨u,hu,ru⟩:=rv.get hx
  obtain ⟨⟨old,he⟩,hit⟩:=st
  refine wpAny_pyNext_enum_item he hit p.isList (x:=u) (by simpa using hu) hei fun h' ho hit' hT hsz hk=>?_
  have helt:e<s.heap.objs.size:=Heap.lt_size he
  have hilt:it<s.heap.objs.size:=by obtain ⟨_,q,_⟩:=hit; exact Heap.lt_size q
  refine ⟨_,rfl,?_⟩
  refine wpAny_letOwnedTupleGo_enum ho fun h2 he2 hs2=>?_
  have k2:∀ b o,b∉[e,it]→s.heap.get? b=some o→h2.get? b=some o:=fun b o hb q=>by
   have n1:b≠e:=fun z=>hb (by simp [z])
   have n2:b≠it:=fun z=>hb (by simp [z])
   exact (hs2.2 b n1).trans (hk b o n1 n2 q)
  have t2:h2.get? s.heap.objs.size=some { cls:=.type "tuple",data:=.seq #[.int i s.toks,u] }:=(hs2.2 _ (Nat.ne_of_gt helt)).trans hT
  have hn:H s.heap.objs.size=none:=I.hok.fresh (Nat.le_refl _)
  have new:ObjOk X.prog X.w (upd H s.heap.objs.size (.tup [.int (i:Int),x])) h2 s.heap.objs.size (.tup [.int (i:Int),x]) :=
   ⟨by simp only [List.length_cons,List.length_nil]; rw [sizeLine_eq]; decide,[.int i s.toks,u],.cons ⟨_,rfl⟩ (.cons ru .nil),⟨_,t2,rfl,_,rfl⟩⟩
  have I2:Inv X pins σ (upd H s.heap.objs.size (.tup [.int (i:Int),x])) { s with heap:=h2,toks:=s.toks+1 }:=I.turnedNew k2 hf (Nat.le_refl _) new
  refine ⟨.ref s.heap.objs.size,_,I2,rfl,⟨s.heap.objs.size,x,hn,rfl,rfl,fun ys hy=>by rw [I.list_inj hy hq]; exact hx⟩,⟨⟨u,?_⟩,hit'.at fun o q=>(hs2.2 it hei.symm).trans q⟩,fun b hb=>?_⟩
  ·simpa using he2
  ·have hb1:b≠s.heap.objs.size:=by
    rcases List.mem_cons.mp hb with z | z
    ·rw [z]; exact Nat.ne_of_lt helt
    ·have z':b=it:=by simpa using z
     rw [z']; exact Nat.ne_of_lt hilt
   rw [aC hb1]
   exact (hf b hb).1
 done:=by
  intro X hP hw hK hc i pins s σ H E I hf st hg
  subst hP hw hK
  obtain ⟨xs,hq,hx⟩:=hg
  obtain ⟨its,rv,p,hz⟩:=I.list hq
  obtain ⟨⟨old,he⟩,hit⟩:=st
  have hl:=rv.length
  refine wpAny_pyNext_enum_end (I.ok.hd hc) he hit p.isList (by simp; omega) fun h' eb=>⟨rfl,?_⟩
  exact I.turnedL (t':=s.toks) (fun b o hb q=>eb b o (fun z=>hb (by simp [z])) q) hf
 self:=fun _ _ _ _ _ st h=>by
  obtain ⟨⟨old,he⟩,_⟩:=st
  exact wpAny_pyIter_enum he h
section
variable {X:Cx}
def C2 (K:PySem.W.Frag) (ta:TA):TI:=fun σ H R=>ta σ H fun vs H1=>∃ a,vs=[.ref a]∧(∃ xs,SqL K H1 a xs)∧R (Ite K a) H1
theorem Ab {a:Expr} {ta:TA} {p pos tp:Pos} {elts:List Expr} {x1:Nat} (hg:Gl X "enumerate") (hm:X.mg "enumerate"=none) (ha:PA X [a] ta) (hs:starEach [a] X.env=[(false,eval a X.env)]:=by rfl) :
  PI X (.Tuple elts x1 tp) (.Call (.Name "enumerate" p) [a] [] pos) (C2 X.K ta):=by
 intro pins s σ H R I h
 refine Call_ (fL I hg hm boot_enumerate (PyProof.Rows.callWith_type1 (thn (ha pos pins s σ H _ I h) fun us s1 ⟨vs,H1,I1,r1,q1⟩=>?_) hs rfl))
 obtain ⟨l,e,⟨xs,hx⟩,q⟩:=q1
 subst e
 obtain ⟨u,rfl,ru⟩:=vals1 r1
 cases ru
 obtain ⟨its,rv,pl,hz⟩:=I1.list hx
 refine call_enumerate_list pl.isList fun h' he hit hsz hk=>?_
 refine wpAny_pyIter_enum he ?_
 have hfp:∀ b∈[s1.heap.objs.size+1,s1.heap.objs.size],iF X pins H1 b:=fun b hb=>by
  have hge:s1.heap.objs.size≤b:=by
   rcases List.mem_cons.mp hb with z | z
   ·omega
   ·have z':b=s1.heap.objs.size:=by simpa using z
    omega
  exact I1.fpOk hge (I1.hok.fresh hge)
 exact ⟨s1.heap.objs.size+1,[s1.heap.objs.size+1,s1.heap.objs.size],_,_,H1,rfl,I1.kept (t':=s1.toks) hk,wm l _ _ (Nat.succ_ne_self _),⟨⟨_,he⟩,hit⟩,hfp,q⟩
end
theorem yM {K:PySem.W.Frag} {a:Addr} {xs:List V} {g:TG} {tb:TS} {D:Ends} {σ:St} {H:Hp} (Pv:Nat→St→Hp→Prop) (h0:Pv 0 σ H) (hl:∀ i σ H,i≤xs.length→Pv i σ H→SqL K H a xs)
  (hs:∀ i x σ H T,xs[i]?=some x→Pv i σ H→H T=none→g (.ref T) σ (upd H T (.tup [.int (i:Int),x])) fun σ2 H2=>tb { D with nx:=Pv (i+1),ct:=Pv (i+1),bk:=D.nx } σ2 H2) (hd:∀ σ H,Pv xs.length σ H→D.nx σ H) :
  ∃ W:Nat→Nat→St→Hp→Prop,(∃ m,W 0 m σ H)∧∀ i m σ H,W i m σ H→
   ((Ite K a).stop i H∧D.nx σ H)∨((Ite K a).go i H∧∃ N:St→Hp→Prop,(∀ σ' H',N σ' H'→∃ m',m'<m∧W (i+1) m' σ' H')∧∀ x H',(Ite K a).yld i H x H'→g x σ H' fun σ2 H2=>tb { D with nx:=N,ct:=N,bk:=D.nx } σ2 H2):=by
 refine ⟨fun i m σ H=>m=xs.length - i∧i≤xs.length∧Pv i σ H,⟨xs.length,by simp,Nat.zero_le _,h0⟩,?_⟩
 rintro i m σ H ⟨rfl,hi,p⟩
 have q:=hl i σ H hi p
 by_cases hlt:i<xs.length
 ·refine .inr ⟨⟨xs,xs[i],q,by simp [hlt]⟩,Pv (i+1),fun σ' H' p'=>⟨xs.length - (i+1),by omega,rfl,hlt,p'⟩,fun v H' y=>?_⟩
  obtain ⟨T,x,hT,e1,e2,y⟩:=y
  subst e1 e2
  exact hs i x σ H T (y xs q) p hT
 ·have e:i=xs.length:=by omega
  subst e
  exact .inl ⟨⟨xs,q,Nat.le_refl _⟩,hd σ H p⟩
section
variable {prog:Program} {w:World} {A:Around} {E:Value→Shared→Prop} {s:Shared}
end
section
variable {X:Cx} {pos:Pos}
def E5 (K:PySem.W.Frag) (n:Nat) (t:TGs):TG:=fun v σ H Q=>∃ a xs,v=.ref a∧SqL K H a xs∧xs.length=n∧t xs σ H Q
end
structure Cal (P:Program) (w:World) (K:PySem.W.Frag) (mg:Str→Option Value) (base:Heap) (k:Nat) (x:Str) (ps:List Str) (sp:Sp):Prop where
 ex:∃ (f:Addr) (fd:FuncData),FnOk P w K mg base CX0 k f fd ps sp∧Binds K fd ps []∧PySem.W.keepIn K (.ref f)=true∧mg x=some (.ref f)
section
variable {X:Cx} {k j:Nat} {x:Str} {ps:List Str} {sp:Sp} {p pos:Pos} {e:Expr} {es:List Expr} {t:TA}
theorem aH (C:Cal X.prog X.w X.K X.mg X.base k x ps sp) (hr:Room j X.A) (hj:k≤j) (hg:Gl X x) (ha:PA X (e::es) t) (hdb:(x == ("__debug__":Str))=false:=by decide) (he:starEach (e::es) X.env=(false,eval e X.env)::starEach es X.env:=by rfl) (hpl:(backTo pos (starEach es X.env)).any (·.1)=false:=by rfl) :
  PE X (.Call (.Name x p) (e::es) [] pos) (ub sp [] E0 t):=by
 obtain ⟨f,fd,G,b,kp,m⟩:=C.ex
 exact uf G (hr.mono hj) hg m kp b .nil cj ha hdb he hpl
end
theorem aq {H:Hp} {p:Addr} (h:H p=none) (o:HO):Same H (upd H p o):=fun b u q=>by rw [aC (aM q h)]; exact q
theorem Same.upd {H H1:Hp} {p:Addr} (s:Same H H1) (h:H p=none) (o:HO):Same H (upd H1 p o):=fun b u q=>by rw [aC (aM q h)]; exact s b u q
theorem small {n:Nat} (h:n≤1000):n≤sizeLine:=Nat.le_of_lt (aJ h)
end L2
namespace L2
open PySem PySem.Spec PyProof.Rows
structure FunAt (K:PySem.W.Frag) (x:Str) (st:Stmt):Prop where
 ex:∃ (f:Addr) (fd:FuncData),Fun K x x st f fd∧PySem.W.nsIn K mainGlobals x=some (some (.ref f))
theorem xh {K:PySem.W.Frag} {x:Str} {st:Stmt} {f:Addr} {oc:Value} {od an:Option Addr} {osl:Array (Option Value)} {kV doc pm cdv ct:Value} (a:PySem.W.nsIn K mainGlobals x=some (some (.ref f)))
  (l:K.lookup f=some ⟨oc,od,.func (PySem.W.fnOf x x (dP st) (cW st) (ar st) .none kV doc pm an cdv ct),osl⟩)
  (c:PySem.W.codeIn K cdv x=true) (k:PySem.W.keepIn K (.ref f)=true):FunAt K x st:=⟨f,_,tT (st:=st) l c k,a⟩
theorem FunAt.cal {P:Program} {w:World} {K:PySem.W.Frag} {h base:Heap} {mg:Str→Option Value} {x:Str} {st:Stmt} {ps:List Str} {k:Nat} {sp:Sp} (F:FunAt K x st) (X:K.In h) (G:h.Ns mainGlobals mg)
  (hb:∀ (kV doc pm:Value) (an:Option Addr) (cdv ct:Value) (us:List Value),us.length=ps.length→bindArgs (PySem.W.fnOf x x (dP st) (cW st) (ar st) .none kV doc pm an cdv ct) ⟨us,[]⟩=pure (ps.zip us))
  (ok:∀ (f:Addr) (fd:FuncData),Fun K x x st f fd→FnOk P w K mg base CX0 k f fd ps sp):Cal P w K mg base k x ps sp:=by
 obtain ⟨f,fd,F1,a⟩:=F.ex
 exact ⟨f,fd,ok f fd F1,F1.binds hb,F1.kp,PySem.W.mg_of X G a⟩
theorem FunAt.law {P:Program} {w:World} {K:PySem.W.Frag} {h:Heap} {mg:Str→Option Value} {x p:Str} {st:Stmt} {fa:Addr} {k:Nat} {sp:Sp} (F:FunAt K x st) (X:K.In h) (G:h.Ns mainGlobals mg) (hfa:mg x=some (.ref fa))
  (hb:∀ (kV doc pm:Value) (an:Option Addr) (cdv ct:Value) (u:Value),bindArgs (PySem.W.fnOf x x (dP st) (cW st) (ar st) .none kV doc pm an cdv ct) ⟨[u],[]⟩=pure [(p,u)])
  (ok:∀ (base:Heap),K.In base→base.Ns mainGlobals mg→∀ (f:Addr) (fd:FuncData),Fun K x x st f fd→FnOk P w K mg base CX0 k f fd [p] sp) :
  ∃ fd:FuncData,(∀ (s:Shared) (u:Value),BindsTo s fd ⟨[u],[]⟩ [(p,u)])∧∀ base:Heap,K.In base→base.Ns mainGlobals mg→FnOk P w K mg base CX0 k fa fd [p] sp:=by
 obtain ⟨f,fd,F1,a⟩:=F.ex
 have e:=hfa.symm.trans (PySem.W.mg_of X G a)
 cases e
 refine ⟨fd,fun s u=>?_,fun base kb nb=>ok base kb nb _ fd F1⟩
 obtain ⟨oc,od,kV,doc,pm,an,cdv,ct,osl,rfl,lk,hcd⟩:=F1.ex
 exact .of_eq (hb kV doc pm an cdv ct u)
end L2
namespace L2
open PySem PySem.Spec PyProof.Rows
theorem e6 {K:PySem.W.Frag} {x qual:Str} {st:Stmt} {f:Addr} {oc:Value} {od an:Option Addr} {osl:Array (Option Value)} {kV doc pm cdv ct:Value}
  (l:K.lookup f=some ⟨oc,od,.func (PySem.W.fnOf x qual (dP st) (cW st) (ar st) .none kV doc pm an cdv ct),osl⟩)
  (c:PySem.W.codeIn K cdv qual=true) (k:PySem.W.keepIn K (.ref f)=true):∃ fd,Fun K x qual st f fd:=⟨_,tT (st:=st) l c k⟩
end L2
namespace L2
open PySem PySem.Spec PyProof.Rows
theorem cy:∀ (names:List (Str×NameKind)) (n:Nat) (acc:List (Str×Addr)),cellsFrom n names acc=cellsFrom n names []++acc
 | [],_,_=>rfl
 | (x,k)::r,n,acc=>by
  unfold cellsFrom
  split
  ·rw [cy r (n+1) ((x,n)::acc),cy r (n+1) [(x,n)],List.append_assoc]
   rfl
  ·exact cy r n acc
theorem eZ {y:Str}:∀ (names:List (Str×NameKind)) (n:Nat),(∀ k,(y,k)∈names→k≠.cell)→(cellsFrom n names []).lookup y=none
 | [],_,_=>rfl
 | (x,k)::r,n,h=>by
  have hr:∀ k,(y,k)∈r→k≠.cell:=fun k' hk=>h k' (List.mem_cons_of_mem _ hk)
  unfold cellsFrom
  split
  ·rename_i hk
   rw [cy,List.lookup_append,eZ r (n+1) hr]
   have hne:(y == x)=false:=by
    cases e:(y == x) with
    | false=>rfl
    | true =>
     have e':y=x:=beq_iff_eq.mp e
     subst e'
     exact absurd (beq_iff_eq.mp hk) (h k List.mem_cons_self)
   show Option.or none (List.lookup y [(x,n)])=none
   rw [List.lookup_cons,hne]
   rfl
  ·exact eZ r n hr
theorem gE {env:Env} (f:Str×NameKind→List (Str×Addr)→Sem (ForInStep (List (Str×Addr))))
  (hf:∀ name kind cs,f (name,kind) cs=if kind == .free then (do let a ← cellOf env name; pure (.yield ((name,a)::cs))) else pure (.yield cs)) :
  ∀ (names:List (Str×NameKind)) (acc:List (Str×Addr)),(∀ y∈names,y.2=.free→∃ c,env.cells.lookup y.1=some c)→(∀ y c,acc.lookup y=some c→env.cells.lookup y=some c)→
   ∃ cl,forIn names acc f=pure cl∧(∀ y c,cl.lookup y=some c→env.cells.lookup y=some c)∧(∀ y c,acc.lookup y=some c→∃ c',cl.lookup y=some c')∧∀ y∈names,y.2=.free→∃ c,cl.lookup y.1=some c
 | [],acc,_,ha=>⟨acc,by rw [List.forIn_nil],ha,fun y c e=>⟨c,e⟩,fun y hy=>nomatch hy⟩
 | (x,k)::r,acc,hc,ha=>by
  have hr:∀ y∈r,y.2=.free→∃ c,env.cells.lookup y.1=some c:=fun y hy=>hc y (List.mem_cons_of_mem _ hy)
  by_cases hk:k=.free
  ·obtain ⟨c,ec⟩:=hc (x,k) List.mem_cons_self hk
   have ha':∀ y d,((x,c)::acc).lookup y=some d→env.cells.lookup y=some d:=fun y d e=>by
    rw [List.lookup_cons] at e
    cases q:(y == x) with
    | true =>
     rw [q] at e
     have e1:c=d:=Option.some.inj e
     rw [beq_iff_eq.mp q,← e1]
     exact ec
    | false=>rw [q] at e; exact ha y d e
   obtain ⟨cl,h1,h2,h3,h4⟩:=gE f hf r ((x,c)::acc) hr ha'
   refine ⟨cl,?_,h2,fun y d e=>?_,fun y hy hf=>?_⟩
   ·rw [List.forIn_cons,hf,if_pos (by rw [hk]; rfl)]
    have:cellOf env x=pure c:=by unfold cellOf; rw [ec]
    rw [this]
    simp only [pure_bind]
    exact h1
   ·cases q:(y == x) with
    | true=>exact h3 y c (by rw [List.lookup_cons,q])
    | false=>exact h3 y d (by rw [List.lookup_cons,q]; exact e)
   ·rcases List.mem_cons.mp hy with z | z
    ·subst z
     exact h3 x c (by rw [List.lookup_cons]; simp)
    ·exact h4 y z hf
  ·obtain ⟨cl,h1,h2,h3,h4⟩:=gE f hf r acc hr ha
   refine ⟨cl,?_,h2,h3,fun y hy hf=>?_⟩
   ·rw [List.forIn_cons,hf,if_neg (by intro z; exact hk (beq_iff_eq.mp z))]
    simp only [pure_bind]
    exact h1
   ·rcases List.mem_cons.mp hy with z | z
    ·subst z
     exact absurd hf hk
    ·exact h4 y z hf
theorem mV {scope:Scope} {env:Env} (hc:∀ y∈scope.names,y.2=.free→∃ c,env.cells.lookup y.1=some c) :
  ∃ cl,closureFor scope env=pure cl∧(∀ y c,cl.lookup y=some c→env.cells.lookup y=some c)∧∀ y∈scope.names,y.2=.free→∃ c,cl.lookup y.1=some c:=by
 unfold closureFor
 obtain ⟨cl,h1,h2,_,h4⟩:=gE (env:=env) (fun (x:Str×NameKind) (r:List (Str×Addr))=>if x.2 == .free then (do let a ← cellOf env x.1; pure (.yield ((x.1,a)::r))) else pure (.yield r)) (fun _ _ _=>rfl) scope.names [] hc (fun y c e=>by cases e)
 refine ⟨cl,?_,h2,h4⟩
 have e:∀ (f:Str×NameKind→List (Str×Addr)→Sem (ForInStep (List (Str×Addr)))),(∀ x r,f x r=if x.2 == .free then (do let a ← cellOf env x.1; pure (.yield ((x.1,a)::r))) else pure (.yield r))→(forIn scope.names ([]:List (Str×Addr)) f >>= fun cs=>pure cs)=(pure cl:Sem _):=fun f hf=>by
  have:f=fun (x:Str×NameKind) (r:List (Str×Addr))=>if x.2 == .free then (do let a ← cellOf env x.1; pure (.yield ((x.1,a)::r))) else pure (.yield r):=by
   funext x r
   exact hf x r
  rw [this,h1]
  rfl
 refine e _ fun x r=>?_
 obtain ⟨n,k⟩:=x
 cases hk:k == NameKind.free <;> simp [hk]
section
variable {prog:Program} {w:World} {A:Around} {E:Value→Shared→Prop} {R:Result→Shared→Prop} {s:Shared}
theorem vt {elt target iter:Expr} {ifs:List Expr} {scope:Scope} {pos:Pos} {it acc:Value} {env:Env} (I:Nat→Shared→Prop)
  (turn:∀ n s,I n s→wpAny (model prog w) A (pyNext it) (fun r s₁=>match r with
   | none=>R (.ok .next) s₁
   | some v=>wpAny (model prog w) A (letOwnedTupleGo target it v) (fun _ s₁'=>wpAny (model prog w) A (assign target env v) (fun _ s₂ =>
     wpAny (model prog w) A (forIn ifs true fun c r=>if r=true then do let ok ← isTrue c env (eval c env); pure (ForInStep.yield ok) else pure (ForInStep.yield r)) (fun ok s₃ =>
      if ok=true then wpAny (model prog w) A (eval elt env) (fun x s₄ =>
       wpAny (model prog w) A (call (.builtin "list.append") [acc,x]) (fun _ s₅=>∃ m,m<n∧I m s₅) (fun _ _=>False) s₄) (fun _ _=>False) s₃
      else ∃ m,m<n∧I m s₃) (fun _ _=>False) s₂) (fun _ _=>False) s₁') (fun _ _=>False) s₁) (fun _ _=>False) s)
  (n:Nat) (h:I n s) :
  codeAny (model prog w) A (.compLoop (.ListComp elt [⟨target,iter,ifs,0⟩] scope pos) 0 it acc env) R s:=by
 refine codeAny_loop rfl I (fun n s hI=>?_) n h
 show wpAny _ A ((compTurn (.ListComp elt [⟨target,iter,ifs,0⟩] scope pos) 0 it acc env).onRaise (fun x=>do noteFrame x env; theTreesLotGoes x)) _ _ s
 refine wpAny_noted ?_
 rw [compTurn_list]
 refine wpAny_mono (E:=fun _ _=>False) ?_ (fun _ _ z=>z) fun _ _ z=>z.elim
 refine wpAny_bind (wpAny_standAt (wpAny_bind (wpAny_mono (turn n s hI) (fun r s₁ h₁=>?_) fun _ _ h'=>h')))
 cases r with
 | none=>exact wpAny_pure h₁
 | some v =>
  refine wpAny_bind (wpAny_mono h₁ (fun _ s₁' h₁'=>?_) fun _ _ h'=>h')
  refine wpAny_bind (wpAny_mono h₁' (fun _ s₂ h₂=>wpAny_bind (wpAny_mono h₂ (fun ok s₃ h₃=>?_) fun _ _ h'=>h')) fun _ _ h'=>h')
  cases ok with
  | false=>exact wpAny_pure ⟨rfl,h₃⟩
  | true =>
   exact wpAny_bind (wpAny_bind (wpAny_mono h₃ (fun x s₄ h₄=>wpAny_bind (wpAny_mono h₄ (fun _ s₅ h₅=>wpAny_pure (wpAny_pure ⟨rfl,h₅⟩)) fun _ _ h'=>h')) fun _ _ h'=>h'))
theorem wO {scope:Scope} {env:Env} {cl:List (Str×Addr)} {Q:Env→Shared→Prop}
  (hQ:Q { scope:=scope,locals:=s.heap.objs.size,globals:=env.globals,cells:=cellsFrom (s.heap.objs.size+1) scope.names cl,qual:=env.qual,func:=none,code:=env.code,frame:=env.frame,builtins:=env.builtins }
   { s with heap:=pushCells (s.heap.push { cls:=.type "dict",data:=.dict #[] }) scope.names }) :
  wpAny (model prog w) A (newFunctionEnv scope env.globals cl [] env.qual none .none (some env)) Q E s:=by
 simp only [newFunctionEnv,Option.isSome_some,if_true]
 refine wpAny_bind (wpAny_alloc ?_)
 refine wpAny_bind (wpAny_layCells _ (fun name kind cells=>by cases hkc:kind == NameKind.cell <;> simp [hkc]) _ _ _ _ ?_)
 rw [show ({ s with heap:=s.heap.push { cls:=.type "dict",data:=.dict #[] } }:Shared).heap.objs.size=s.heap.objs.size+1 from Heap.size_push ..]
 rw [List.forIn_nil]
 exact wpAny_bind (wpAny_pure (wpAny_pure hQ))
end
end L2
namespace L2
open PySem PySem.Spec PyProof.Rows
def fM (X:Cx) (scope:Scope) (C:Addr) (cells:List (Str×Addr)) (N':List Str) (fp:List Addr) (s:Shared) (H:Hp):Cx where
 prog:=X.prog
 w:=X.w
 K:=X.K
 mg:=X.mg
 base:=X.base
 A:=X.A
 N:=N'
 s₀:=s
 H₀:=H
 env:={ scope:=relabel scope X.env,locals:=C,globals:=X.env.globals,cells:=cells,qual:=X.env.qual,func:=none,code:=X.env.code,frame:=X.env.frame,builtins:=X.env.builtins }
 outer:=X.stack
 stack:=X.stack
 ex:=fp
 fn:=fun y=>decide (scope.names.lookup y=some .cell)
 calm:=X.calm
 pn:=[]
 xe:=fun _ _=>False
def qY:Option NameKind→Bool
 | some .cell=>true
 | some .free=>true
 | _=>false
theorem jt {o:Option NameKind} (h:qY o=true):o=some .cell∨o=some .free:=by
 cases o with
 | none=>cases h
 | some k=>cases k <;> first | exact .inl rfl | exact .inr rfl | cases h
def t6 (env:Env) (scope:Scope) (y:Str):Bool:=qY (env.scope.names.lookup y) && qY ((relabel scope env).names.lookup y) && scope.names.all (fun z=>!(z.1 == y) || !(z.2 == .cell)) && scope.names.any fun z=>z.1 == y && z.2 == .free
def PTs (X:Cx) (ifs:List Expr) (t:TT):Prop :=
 ∀ (pins:List (Addr×Obj)) (s:Shared) (σ:St) (H:Hp) (Q:Bool→Hp→Prop),Inv X pins σ H s→t σ H Q→
  wpAny (model X.prog X.w) X.A (forIn ifs true fun c r=>if r=true then do let ok ← isTrue c X.env (eval c X.env); pure (ForInStep.yield ok) else pure (ForInStep.yield r)) (TP X pins σ Q) X.xe s
def Ba:TT:=fun _ H Q=>Q true H
theorem bp {X:Cx}:PTs X [] Ba:=fun pins s σ H Q I h=>by
 rw [List.forIn_nil]
 exact wpAny_pure ⟨H,I,h⟩
theorem pC {X:Cx} {c:Expr} {t:TT} (h:PT X c t):PTs X [c] t:=fun pins s σ H Q I hw=>by
 rw [List.forIn_cons]
 simp only [if_true]
 refine wpAny_bind (wpAny_bind (thn (h pins s σ H Q I hw) fun b s1 q=>wpAny_pure ?_))
 show wpAny _ _ (forIn [] b _) _ _ s1
 rw [List.forIn_nil]
 exact wpAny_pure q
def capσ (nv:Nat) (ix:List Nat) (σ:St):St:=List.replicate nv none++ix.map fun i=>(σ[i]?).getD none
def iT (J:It) (g:TG) (tt:TT) (te:TE) (nv:Nat) (ix:List Nat) (σ:St) (Q:VK) (H1:Hp) (D:Addr):Prop:=∃ W:Nat→Nat→Hp→Prop,(∃ m,W 0 m (upd H1 D (.lst [])))∧∀ i m H2,W i m H2→
 (J.stop i H2∧Q (.ref D) H2)∨(J.go i H2∧∃ Nx:Hp→Prop,(∀ H',Nx H'→∃ m',m'<m∧W (i+1) m' H')∧∀ x H',J.yld i H2 x H'→g x (capσ nv ix σ) H' fun σ2 H3=>σ2.drop nv=(capσ nv ix σ).drop nv∧tt σ2 H3 fun b H4 =>
  if b=true then te σ2 H4 fun v H5=>∃ xs,H5 D=some (.lst xs)∧xs.length<sizeLine∧Nx (upd H5 D (.lst (xs++[v]))) else Nx H4)
def Bc (wi:TI) (g:TG) (tt:TT) (te:TE) (nv:Nat) (ix:List Nat):TE:=fun σ H Q=>wi σ H fun J H1=>∀ D,H1 D=none→iT J g tt te nv ix σ Q H1 D
section
variable {X:Cx} {elt target iter:Expr} {ifs:List Expr} {scope:Scope} {pos:Pos} {g:TG} {tt:TT} {te:TE}
theorem lP {pins:List (Addr×Obj)} {σ:St} {H:Hp} {s:Shared} {J:It} {fp:List Addr} {it:Addr} {tn:Nat→Heap→Prop} {Q:VK} {E:Value→Shared→Prop} {RR:Value→Addr→Result→Shared→Prop} {cl:List (Str×Addr)} (xs capN:List Str) (ix:List Nat) (hc:X.calm=true)
  (hg:∀ C cells fp s H,PG (fM X scope C cells (xs++capN) fp s H) target g) (ht:∀ C cells fp s H,PTs (fM X scope C cells (xs++capN) fp s H) ifs tt) (he:∀ C cells fp s H,PE (fM X scope C cells (xs++capN) fp s H) elt te)
  (hix:ix.map (fun i=>X.N[i]?)=capN.map some) (hcap:capN.all (t6 X.env scope)=true) (hfree:scope.names.all (fun z=>!(z.2 == .free) || qY (X.env.scope.names.lookup z.1))=true) (hkind:scope.kind=.function)
  (hclo:∀ y c,cl.lookup y=some c→X.env.cells.lookup y=some c) (hclh:∀ y∈scope.names,y.2=.free→∃ c,cl.lookup y.1=some c)
  (I:Inv X pins σ H s) (T:Turn X.prog X.w X.K target J fp it tn) (st:tn 0 s.heap) (hf:∀ b∈fp,iF X pins H b)
  (h:∀ D,H D=none→iT J g tt te xs.length ix σ Q H D)
  (hRR:∀ D C s' H' m,Inv X pins σ H' s'→iF X pins H' C→s'.heap.Ns C m→Q (.ref D) H'→RR (.ref D) C (.ok .next) s') :
  wpAny (model X.prog X.w) X.A (newList []) (fun acc s₃=>wpAny (model X.prog X.w) X.A (newFunctionEnv scope X.env.globals cl [] X.env.qual none .none (some X.env)) (fun cenv s₄ =>
   codeAny (model X.prog X.w) X.A (.compStart (.ListComp elt [⟨target,iter,ifs,0⟩] scope pos) 0 (.ref it) acc { cenv with scope:=relabel scope X.env }) (RR acc cenv.locals) s₄) E s₃) E s:=by
 refine wpAny_newObj_type (wO ?_)
 generalize hD:s.heap.objs.size=D
 have nD:H D=none:=I.hok.fresh (Nat.le_of_eq hD)
 generalize hH1:s.heap.push { cls:=.type "list",dict:=none,data:=.seq ([]:List Value).toArray }=h1
 have z1:h1.objs.size=D+1:=by rw [← hH1,Heap.size_push,hD]
 have k1:∀ b o,s.heap.get? b=some o→h1.get? b=some o:=fun b o e=>by rw [← hH1]; exact Heap.get?_push_of_some _ e
 have l1:h1.get? D=some { cls:=.type "list",dict:=none,data:=.seq ([]:List Value).toArray }:=by rw [← hH1,← hD]; exact Heap.get?_push_size _ rfl
 show codeAny _ _ _ (RR (.ref D) h1.objs.size) { s with heap:=pushCells (h1.push { cls:=.type "dict",data:=.dict #[] }) scope.names }
 rw [z1]
 generalize hH2:h1.push { cls:=.type "dict",data:=.dict #[] }=h2
 have z2:h2.objs.size=D+2:=by rw [← hH2,Heap.size_push,z1]
 have k2:∀ b o,h1.get? b=some o→h2.get? b=some o:=fun b o e=>by rw [← hH2]; exact Heap.get?_push_of_some _ e
 have n2:h2.Ns (D+1) (fun _=>none):=by rw [← hH2,← z1]; exact Heap.Ns.new h1 (.type "dict")
 have ok:=cellsFrom_ok scope.names h2 (D+2) [] ⟨fun _ _ hm=>(nomatch hm),List.Pairwise.nil⟩ (Nat.le_of_eq z2.symm)
 rw [z2] at ok
 have k3:=pushCells_keeps scope.names h2
 have n3:(pushCells h2 scope.names).Ns (D+1) (fun _=>none):=n2.keeps k3
 generalize hH3:pushCells h2 scope.names=h3 at ok k3 n3
 have kk:∀ b o,s.heap.get? b=some o→h3.get? b=some o:=fun b o e=>k3 b o (k2 b o (k1 b o e))
 have l3:h3.get? D=some { cls:=.type "list",dict:=none,data:=.seq ([]:List Value).toArray }:=k3 _ _ (k2 _ _ l1)
 rw [cy]
 generalize hcs:cellsFrom (D+2) scope.names []=cs at ok
 have csn:∀ y,(∀ k,(y,k)∈scope.names→k≠.cell)→cs.lookup y=none:=fun y hy=>by rw [← hcs]; exact eZ _ _ hy
 have csh:∀ y,scope.names.lookup y=some .cell→∃ c,cs.lookup y=some c:=fun y hy=>by rw [← hcs]; exact lG hy
 have cells_or:∀ y c,(cs++cl).lookup y=some c→(cs.lookup y=some c)∨(cs.lookup y=none∧cl.lookup y=some c):=fun y c e=>by
  rw [List.lookup_append] at e
  cases q:cs.lookup y with
  | some d=>rw [q] at e; exact .inl e
  | none=>rw [q] at e; exact .inr ⟨rfl,e⟩
 have newc:∀ y c,cs.lookup y=some c→D+2≤c∧h3.IsCell c none:=fun y c e=>⟨(ok.empty y c (PySem.mem_of_lookup e)).2,(ok.empty y c (PySem.mem_of_lookup e)).1⟩
 have oldc:∀ y c,cl.lookup y=some c→D > c∧(∃ v,h3.IsCell c v)∧H c=none:=fun y c e=>by
  obtain ⟨v,q⟩:=I.cell y c (hclo y c e)
  exact ⟨by rw [← hD]; exact q.lt,⟨v,q.keeps kk⟩,I.freeC y c (hclo y c e)⟩
 have szD:s.heap.objs.size≤D:=Nat.le_of_eq hD
 have szC:s.heap.objs.size≤D+1:=by omega
 let X':Cx:=fM X scope (D+1) (cs++cl) (xs++capN) fp s H
 have fpD:∀ b∈fp,D > b:=fun b hb=>by
  obtain ⟨o,e,_⟩:=T.obj 0 s.heap st b hb
  rw [← hD]
  exact Heap.lt_size e
 have okX:X'.Ok:=by
  refine ⟨I.ok.mod,?_,I.ok.glob,I.ok.blt,szC,fun x y c h1 h2=>?_,fun x hx=>?_,fun x c hx hl=>?_,fun _=>I.ok.hd hc,I.ok.frames,.inl rfl,fun b hb=>⟨?_,fun x c hl z=>?_⟩,fun b o e=>⟨(I.bs b o e).1,(I.bs b o e).2⟩,Nat.le_trans I.ok.bsz I.sz,fun b o e hb=>?_,fun b hb hz=>?_,I.stack,I.stkFree⟩
  ·show (relabel scope X.env).kind=.function
   exact hkind
  ·rcases cells_or x c h1 with e1 | ⟨_,e1⟩ <;> rcases cells_or y c h2 with e2 | ⟨_,e2⟩
   ·exact name_of_addr ok.apart (PySem.mem_of_lookup e1) (PySem.mem_of_lookup e2)
   ·have a1:=(newc x c e1).1
    have a2:=(oldc y c e2).1
    omega
   ·have a1:=(newc y c e2).1
    have a2:=(oldc x c e1).1
    omega
   ·exact I.ok.inj x y c (hclo x c e1) (hclo y c e2)
  ·
   have hm:∃ k,(x,k)∈scope.names∧(k=.free∨k=.cell):=by
    have hx':(relabel scope X.env).names.lookup x=some .cell∨(relabel scope X.env).names.lookup x=some .free:=hx
    have mem:∀ k,(relabel scope X.env).names.lookup x=some k→(x,k)∈(relabel scope X.env).names:=fun k e=>PySem.mem_of_lookup e
    rcases hx' with e | e
    ·obtain ⟨⟨n,k⟩,h1,h2⟩:=List.mem_map.mp (mem _ e)
     by_cases q:(k == NameKind.free && X.env.scope.kind == .function && X.env.kindOf n == some .cell)=true
     ·simp only [q,if_true] at h2
      cases h2
      simp only [Bool.and_eq_true] at q
      exact ⟨k,h1,.inl (beq_iff_eq.mp q.1.1)⟩
     ·simp only [q] at h2
      cases h2
      exact ⟨_,h1,.inr rfl⟩
    ·obtain ⟨⟨n,k⟩,h1,h2⟩:=List.mem_map.mp (mem _ e)
     by_cases q:(k == NameKind.free && X.env.scope.kind == .function && X.env.kindOf n == some .cell)=true
     ·simp only [q,if_true] at h2
      cases h2
     ·simp only [q] at h2
      cases h2
      exact ⟨_,h1,.inl rfl⟩
   obtain ⟨k,hk,hk2⟩:=hm
   show ∃ c,(cs++cl).lookup x=some c
   rw [List.lookup_append]
   cases q:cs.lookup x with
   | some d=>exact ⟨d,rfl⟩
   | none =>
    rcases hk2 with z | z
    ·subst z
     obtain ⟨c,e⟩:=hclh _ hk rfl
     exact ⟨c,e⟩
    ·subst z
     exfalso
     have:∀ (names:List (Str×NameKind)) (n:Nat),(x,NameKind.cell)∈names→(cellsFrom n names []).lookup x≠none:=by
      intro names
      induction names with
      | nil=>intro n hm; cases hm
      | cons p r ih =>
       intro n hm
       obtain ⟨a,b⟩:=p
       unfold cellsFrom
       split
       ·rw [cy,List.lookup_append]
        rcases List.mem_cons.mp hm with z | z
        ·cases z
         cases (cellsFrom (n+1) r []).lookup x with
         | some d=>intro z; cases z
         | none=>simp
        ·cases e:(cellsFrom (n+1) r []).lookup x with
         | some d=>intro z; cases z
         | none=>exact absurd e (ih (n+1) z)
       ·rename_i hb
        rcases List.mem_cons.mp hm with z | z
        ·cases z
         exact absurd rfl hb
        ·exact ih n z
     exact this scope.names (D+2) hk (by rw [hcs]; exact q)
  ·have hx':scope.names.lookup x=some .cell:=of_decide_eq_true hx
   rcases cells_or x c hl with e1 | ⟨e0,_⟩
   ·have:=(newc x c e1).1
    show s.heap.objs.size≤c
    omega
   ·obtain ⟨d,e⟩:=csh x hx'
    rw [e0] at e
    cases e
  ·exact Nat.ne_of_lt (Nat.lt_succ_of_lt (fpD b hb))
  ·rcases cells_or x c hl with e1 | ⟨_,e1⟩
   ·have a1:=(newc x c e1).1
    have a2:=fpD b hb
    subst z
    omega
   ·exact (hf b hb).2.2.2.2.1 x c (hclo x c e1) z
  ·obtain ⟨f0,f1,f2,f3,_⟩:=hf b hb
   rcases f3 with z | z
   ·exact I.ok.noex b o e z
   ·have a1:=(I.ok.bs b o e).1
    exact absurd (Nat.lt_of_lt_of_le (Heap.lt_size a1) z) (Nat.lt_irrefl _)
  ·have z:=I.stkSub b hz
   rcases List.mem_cons.mp z with q | q
   ·exact (hf b hb).2.1 q
   ·exact (hf b hb).2.2.1 q
 have hgens:AllBare s.gens:=I.bare
 have capl:capN.length=ix.length:=by
  have:=congrArg List.length hix
  rw [List.length_map,List.length_map] at this
  exact this.symm
 have I0:Inv X' [] (capσ xs.length ix σ) (upd H D (.lst [])) { s with heap:=h3 }:=by
  refine ⟨okX,rfl,hgens,Un.laid kk szD nD,⟨_,n3,fun i y v e1 e2 e3=>?_⟩,fun y c e=>?_,?_,fun y c e=>?_,fun p hp=>absurd hp (by show p∉([]:List (Addr×Obj))++[]; simp),I.hok.laid kk szD ⟨by decide,[],0,.nil,l3⟩,?_⟩
  ·
   have e1':(xs++capN)[i]?=some y:=e1
   have e2':(List.replicate xs.length none++ix.map fun i=>(σ[i]?).getD none)[i]?=some (some v):=e2
   by_cases hi:i<xs.length
   ·rw [List.getElem?_append_left (by simpa using hi),List.getElem?_replicate] at e2'
    rw [if_pos hi] at e2'
    cases e2'
   ·rw [List.getElem?_append_right (by omega)] at e1'
    rw [List.getElem?_append_right (by simpa using hi),List.length_replicate,List.getElem?_map] at e2'
    generalize i - xs.length=j at e1' e2'
    cases ej:ix[j]? with
    | none=>rw [ej] at e2'; cases e2'
    | some k =>
     rw [ej] at e2'
     have e2'':(σ[k]?).getD none=some v:=Option.some.inj e2'
     have hs:σ[k]?=some (some v):=by
      cases q:σ[k]? with
      | none=>rw [q] at e2''; cases e2''
      | some o=>rw [q] at e2''; exact congrArg some e2''
     have hN:X.N[k]?=some y:=by
      have q:=congrArg (fun l=>l[j]?) hix
      simp only [List.getElem?_map,ej,e1',Option.map_some] at q
      exact Option.some.inj q
     have hyc:=List.all_eq_true.mp hcap y (List.mem_of_getElem? e1')
     unfold t6 at hyc
     simp only [Bool.and_eq_true] at hyc
     obtain ⟨⟨⟨c1,c2⟩,c3⟩,c4⟩:=hyc
     have vis:Vis X.env.scope y:=(jt c1).elim (fun z=>.inr (.inl z)) fun z=>.inr (.inr z)
     obtain ⟨m0,_,hl0⟩:=I.loc
     obtain ⟨u,ru,lk⟩:=hl0 k y v hN hs vis
     refine ⟨u,ru,.inr ⟨jt c2,?_⟩⟩
     rcases lk with ⟨q,_⟩ | ⟨_,c,ec,hcell⟩
     ·have q':X.env.scope.names.lookup y=some .local:=q
      rw [q'] at c1
      cases c1
     ·have no:cs.lookup y=none:=csn y fun k hk z=>by
       have:=List.all_eq_true.mp c3 _ hk
       subst z
       simp at this
      obtain ⟨z,hz,hz2⟩:=List.any_eq_true.mp c4
      simp only [Bool.and_eq_true] at hz2
      have ez:z.1=y:=beq_iff_eq.mp hz2.1
      obtain ⟨d,ed⟩:=hclh z hz (beq_iff_eq.mp hz2.2)
      rw [ez] at ed
      have:d=c:=Option.some.inj ((hclo y d ed).symm.trans ec)
      subst this
      refine ⟨d,?_,hcell.keeps kk⟩
      show (cs++cl).lookup y=some d
      rw [List.lookup_append,no]
      exact ed
  ·rcases cells_or y c e with e1 | ⟨_,e1⟩
   ·exact ⟨none,(newc y c e1).2⟩
   ·exact (oldc y c e1).2.1
  ·show (upd H D (.lst [])) (D+1)=none
   rw [aC (Nat.succ_ne_self D)]
   exact I.hok.fresh szC
  ·rcases cells_or y c e with e1 | ⟨_,e1⟩
   ·have a1:=(newc y c e1).1
    rw [aC (Nat.ne_of_gt (by omega:D<c))]
    exact I.hok.fresh (by omega)
   ·have a1:=oldc y c e1
    rw [aC (Nat.ne_of_lt a1.1)]
    exact a1.2.2
  ·show (capσ xs.length ix σ).length=(xs++capN).length
   unfold capσ
   rw [List.length_append,List.length_replicate,List.length_map,List.length_append,capl]
 have st3:tn 0 h3:=T.keep 0 s.heap h3 st fun b _ o e=>kk b o e
 obtain ⟨W,⟨m0,w0⟩,turn⟩:=h D nD
 have fpX:∀ {pins':List (Addr×Obj)} {H':Hp},(∀ b∈fp,H' b=none)→(∀ p∈pins',∀ b∈fp,p.1≠b)→∀ b∈fp,iF X' pins' H' b:=fun {pins' H'} hn hp b hb=>by
  refine ⟨hn b hb,(okX.exf b hb).1,okX.exfs b hb,.inl hb,(okX.exf b hb).2,fun p hp'=>?_⟩
  rcases List.mem_append.mp hp' with q | q
  ·exact absurd (show p∈([]:List (Addr×Obj)) from q) (by simp)
  ·exact hp p q b hb
 have noHP:∀ {H':Hp},(∀ b∈fp,H' b=none)→∀ b∈fp,iF X' [] H' b:=fun hn=>fpX hn fun p hp=>absurd hp (by simp)
 have loop:∀ s₃:Shared,s₃={ s with heap:=h3 }→codeAny (model X.prog X.w) X.A (.compLoop (.ListComp elt [⟨target,iter,ifs,0⟩] scope pos) 0 (.ref it) (.ref D) X'.env) (RR (.ref D) (D+1)) s₃:=by
  rintro s₃ rfl
  refine vt (fun n s'=>∃ i H',Inv X' [] (capσ xs.length ix σ) H' s'∧tn i s'.heap∧(∀ b∈fp,H' b=none)∧W i n H') ?_ m0 ⟨0,_,I0,st3,fun b hb=>?_,w0⟩
  ·rintro n s' ⟨i,H',I',st',fr',w'⟩
   rcases turn i n H' w' with ⟨stop,q⟩ | ⟨go,Nx,hN,step⟩
   ·refine thn (T.done X' rfl rfl rfl hc i [] s' _ H' _ I' (noHP fr') st' stop) fun r s4 ⟨hr,I4⟩=>?_
    subst hr
    obtain ⟨m,hn4,_⟩:=I4.loc
    have u4:Un (frs X.stack) fp H H' s.heap s4.heap:=I4.base
    have J4:Inv X pins σ H' s4:=I.call' I4.os u4 I4.hok I4.bare fun b hb=>by
     obtain ⟨f0,f1,f2,f3,f4,f5⟩:=hf b hb
     exact ⟨f3,f1,f4,f5⟩
    refine hRR D (D+1) s4 H' m J4 ⟨I4.free,?_,?_,.inr (Nat.le_trans I.sz szC),fun x c e z=>?_,fun p hp z=>?_⟩ hn4 q
    ·exact Nat.ne_of_gt (Nat.lt_of_lt_of_le I.lt szC)
    ·exact I.nofs szC
    ·obtain ⟨v,qq⟩:=I.cell x c e
     exact Nat.ne_of_lt (Nat.lt_of_lt_of_le qq.lt szC) z
    ·exact Nat.ne_of_lt (Nat.lt_of_lt_of_le (Heap.lt_size (I.pin p hp).1) szC) z
   ·refine thn (T.item X' rfl rfl rfl hc i [] s' _ H' _ I' (noHP fr') st' go) fun r s4 ⟨u,hr,h4⟩=>?_
    subst hr
    refine thn h4 fun _ s5 ⟨x,H5,I5,r5,y5,st5,fr5⟩=>?_
    have I5':=I5.pinned (noHP fr5) (T.obj _ _ st5)
    have back:∀ {σ7:St} {H7:Hp} {s7:Shared},Inv X' ([]++lU fp s5.heap) σ7 H7 s7→(∀ (j:Nat) v,(capσ xs.length ix σ)[j]?=some (some v)→σ7[j]?=some (some v))→Nx H7→∃ m,m<n∧∃ i H',Inv X' [] (capσ xs.length ix σ) H' s7∧tn i s7.heap∧(∀ b∈fp,H' b=none)∧W i m H':=fun {σ7 H7 s7} I7 hσ n7=>by
     obtain ⟨m',hm,w7⟩:=hN H7 n7
     have I8:Inv X' [] (capσ xs.length ix σ) H7 s7:=(I7.weak (by rw [I7.len]; exact I0.len) hσ).pins_of fun p hp=>absurd hp (by simp)
     refine ⟨m',hm,i+1,H7,I8,T.keep _ _ _ st5 fun b hb o e=>(I7.pin (b,o) (List.mem_append_right _ (List.mem_append_right _ (gF hb e)))).1,fun b hb=>?_,w7⟩
     obtain ⟨o,e,d⟩:=T.obj _ _ st5 b hb
     exact (I7.pin (b,o) (List.mem_append_right _ (List.mem_append_right _ (gF hb e)))).2.1
    have conv:∀ σ7:St,σ7.drop xs.length=(capσ xs.length ix σ).drop xs.length→∀ (j:Nat) v,(capσ xs.length ix σ)[j]?=some (some v)→σ7[j]?=some (some v):=fun σ7 e j v q=>by
     by_cases hj:j<xs.length
     ·unfold capσ at q
      rw [List.getElem?_append_left (by simpa using hj),List.getElem?_replicate,if_pos hj] at q
      cases q
     ·have e2:=congrArg (fun l=>l[j - xs.length]?) e
      simp only [List.getElem?_drop] at e2
      rw [show xs.length+(j - xs.length)=j by omega] at e2
      rw [e2]
      exact q
    refine thn (hg _ _ _ _ _ _ s5 _ H5 x u _ I5' r5 (step x H5 y5)) fun _ s6 ⟨σ6,H6,I6,hσ,q6⟩=>?_
    refine thn (ht _ _ _ _ _ _ s6 σ6 H6 _ I6 q6) fun b s7 ⟨H7,I7,q7⟩=>?_
    cases b with
    | false =>
     rw [if_neg Bool.false_ne_true]
     rw [if_neg Bool.false_ne_true] at q7
     exact back I7 (conv σ6 hσ) q7
    | true =>
     rw [if_pos rfl]
     rw [if_pos rfl] at q7
     refine thn (he _ _ _ _ _ _ s7 σ6 H7 _ I7 q7) fun v s8 ⟨y,H8,I8,r8,ys,hy,hl,q8⟩=>?_
     refine thn (cK _ s8 σ6 H8 (.ref D) [y] (.ref D) [v] (fun _ H9=>Nx H9) I8 rfl (.cons r8 .nil) ⟨D,ys,y,rfl,rfl,hy,hl,q8⟩) fun _ s9 ⟨_,H9,I9,_,q9⟩=>?_
     exact back I9 (conv σ6 hσ) q9
  ·rw [aC (Nat.ne_of_lt (fpD b hb))]
   exact (hf b hb).1
 exact codeAny_compStart_list (loop _ rfl) (wpAny_mono (T.self X.A 0 _ _ (fun _ _=>False) st3 (loop _ rfl)) (fun _ _ z=>z) fun _ _ z=>z.elim)
theorem bz {wi:TI} (xs capN:List Str) (ix:List Nat) (hc:X.calm=true) (hi:PI X target iter wi)
  (hg:∀ C cells fp s H,PG (fM X scope C cells (xs++capN) fp s H) target g) (ht:∀ C cells fp s H,PTs (fM X scope C cells (xs++capN) fp s H) ifs tt) (he:∀ C cells fp s H,PE (fM X scope C cells (xs++capN) fp s H) elt te)
  (hix:ix.map (fun i=>X.N[i]?)=capN.map some:=by rfl) (hcap:capN.all (t6 X.env scope)=true:=by rfl) (hfree:scope.names.all (fun z=>!(z.2 == .free) || qY (X.env.scope.names.lookup z.1))=true:=by rfl) (hkind:scope.kind=.function:=by rfl)
  (hnames:scope.names.all (fun z=>!(z.2 == .local) || scope.names.lookup z.1 == some .local)=true:=by decide +kernel) (hs:∀ x,foldedSetIterable iter X.env x=pure x:=by intro _; rfl) :
  PE X (.ListComp elt [⟨target,iter,ifs,0⟩] scope pos) (Bc wi g tt te xs.length ix):=by
 intro pins s σ H Q I h
 have hcf:∀ y∈scope.names,y.2=.free→∃ c,X.env.cells.lookup y.1=some c:=fun y hy hf=>by
  have:=List.all_eq_true.mp hfree y hy
  rw [hf] at this
  exact I.ok.has y.1 (jt (show qY (X.env.scope.names.lookup y.1)=true by simpa using this))
 obtain ⟨cl,hcl,h2,h3⟩:=mV hcf
 rw [eval_ListComp]
 refine wpAny_comprehension_free (use:=none) rfl hs hcl hkind (fun x hx hl=>?_) (thn (hi pins s σ H _ I h) fun v s1 h1=>thn h1 fun itv s2 ⟨it,fp,tn,J,H2,e,I2,T,st,hf,q⟩=>?_)
 ·have:=List.all_eq_true.mp hnames x hx
  rw [hl] at this
  simpa using this
 subst e
 refine lP (RR:=fun acc C=>compPost (model X.prog X.w) X.A X.xe none (EP X pins σ Q) acc C) xs capN ix hc hg ht he hix hcap hfree hkind h2 h3 I2 T st hf q ?_
 intro D C s' H' m I' fC hn q'
 refine ⟨m,hn,fun h' hs'=>⟨.ref D,H',?_,rfl,q'⟩⟩
 obtain ⟨f0,f1,f2,f3,f4,f5⟩:=fC
 exact I'.turned (t':=s'.toks) (fun b o hb e=>(hs'.2 b hb).trans e) f0 f1 f3 f4 f5
end
end L2
namespace L2
open PySem PySem.Spec PyProof.Rows
section
variable {X:Cx} {elt target iter:Expr} {ifs:List Expr} {scope:Scope} {pos spos px:Pos} {g:TG} {tt:TT} {te:TE}
theorem da {wi:TI} {i:Nat} {x:Str} (xs capN:List Str) (ix:List Nat) (hc:X.calm=true) (hN:X.N.Nodup) (hxi:X.N[i]?=some x) (hx:Loc X.env.scope x) (hi:PI X target iter wi)
  (hg:∀ C cells fp s H,PG (fM X scope C cells (xs++capN) fp s H) target g) (ht:∀ C cells fp s H,PTs (fM X scope C cells (xs++capN) fp s H) ifs tt) (he:∀ C cells fp s H,PE (fM X scope C cells (xs++capN) fp s H) elt te)
  (hix:ix.map (fun i=>X.N[i]?)=capN.map some:=by rfl) (hcap:capN.all (t6 X.env scope)=true:=by rfl) (hfree:scope.names.all (fun z=>!(z.2 == .free) || qY (X.env.scope.names.lookup z.1))=true:=by rfl) (hkind:scope.kind=.function:=by rfl)
  (hnames:scope.names.all (fun z=>!(z.2 == .local) || scope.names.lookup z.1 == some .local)=true:=by decide +kernel) (hs:∀ x,foldedSetIterable iter X.env x=pure x:=by intro _; rfl)
  (hsw:swapsWith (.ListComp elt [⟨target,iter,ifs,0⟩] scope pos) (some (.Name x px)) spos.line X.env=pure true:=by rfl)
  (hf:X.fn x=true∨X.env.scope.names.lookup x=some .local:=by first | exact .inl rfl | exact .inr rfl | assumption) :
  PS X (.Assign [.Name x px] (.ListComp elt [⟨target,iter,ifs,0⟩] scope pos) spos) (B7 (Bc wi g tt te xs.length ix) (uj i)):=by
 intro pins s σ H D I h
 have hcf:∀ y∈scope.names,y.2=.free→∃ c,X.env.cells.lookup y.1=some c:=fun y hy hf=>by
  have:=List.all_eq_true.mp hfree y hy
  rw [hf] at this
  exact I.ok.has y.1 (jt (show qY (X.env.scope.names.lookup y.1)=true by simpa using this))
 obtain ⟨cl,hcl,h2,h3⟩:=mV hcf
 rw [exec_Assign_Name_used _ _ _ _ hsw]
 refine wpAny_bind (wpAny_standAt (wpAny_bind ?_))
 show wpAny _ X.A (do let _ ← comprehension (.ListComp elt [⟨target,iter,ifs,0⟩] scope pos) scope X.env _ (newList []) false (eval iter X.env) (some (assign (.Name x px) X.env))) _ _ s
 refine wpAny_bind (wpAny_mono (wpAny_comprehension_free (use:=some (assign (.Name x px) X.env)) (Q:=fun _ s'=>SP X pins D .next s') rfl hs hcl hkind (fun x hx hl=>?_)
  (thn (hi pins s σ H _ I h) fun v s1 h1=>thn h1 fun itv s2 ⟨it,fp,tn,J,H2,e,I2,T,st,hf',q⟩=>?_)) (fun _ s' hq=>wpAny_pure (wpAny_pure hq)) fun _ _ e=>e)
 ·have:=List.all_eq_true.mp hnames x hx
  rw [hl] at this
  simpa using this
 subst e
 refine lP (Q:=fun v H1=>uj i v σ H1 D.nx) (RR:=fun acc C=>compPost (model X.prog X.w) X.A X.xe (some (assign (.Name x px) X.env)) (fun _ s'=>SP X pins D .next s') acc C) xs capN ix hc hg ht he hix hcap hfree hkind h2 h3 I2 T st hf' q ?_
 intro E C s' H' m I' fC hn q'
 obtain ⟨f0,f1,f2,f3,f4,f5⟩:=fC
 obtain ⟨oC,es,ep,hoC,hdC,r⟩:=hn
 have I'':Inv X (pins++[(C,oC)]) σ H' s':=I'.pins_of fun p hp=>by
  rcases List.mem_append.mp hp with z | z
  ·exact I'.pin p (List.mem_append_right _ z)
  ·have e:p=(C,oC):=by simpa using z
   subst e
   exact ⟨hoC,f0,f1,f2,fun v z=>by rw [hdC] at z; cases z⟩
 show wpAny _ X.A (assign (.Name x px) X.env (.ref E)) _ _ s'
 refine thn (ay hN hxi hx hf _ s' σ H' (.ref E) (.ref E) _ I'' rfl q') fun _ s4 ⟨σ2,H4,I4,q4⟩=>?_
 have hp4:=I4.pin (C,oC) (List.mem_append_right _ (List.mem_append_right _ (by simp)))
 refine ⟨m,⟨oC,es,ep,hp4.1,hdC,r⟩,fun h' hs'=>⟨σ2,H4,?_,q4⟩⟩
 have I5:Inv X pins σ2 H4 s4:=I4.unpinned
 exact I5.turned (t':=s4.toks) (fun b o hb e=>(hs'.2 b hb).trans e) hp4.2.1 f1 f3 f4 f5
end
theorem dH {K:PySem.W.Frag} {a:Addr} {xs:List V} {g:TG} {tt:TT} {te:TE} {nv:Nat} {ix:List Nat} {σ:St} {D:Addr} {H:Hp} {Q:VK} (Pv:Nat→List V→Hp→Prop) (h0:Pv 0 [] (upd H D (.lst []))) (hl:∀ i ys H,i≤xs.length→Pv i ys H→SqL K H a xs)
  (hs:∀ i x ys H,xs[i]?=some x→Pv i ys H→H D=some (.lst ys)→g x (capσ nv ix σ) H fun σ2 H3=>σ2.drop nv=(capσ nv ix σ).drop nv∧tt σ2 H3 fun b H4 =>
   if b=true then te σ2 H4 fun v H5=>∃ zs,H5 D=some (.lst zs)∧zs.length<sizeLine∧(∃ ys',Pv (i+1) ys' (upd H5 D (.lst (zs++[v])))∧(upd H5 D (.lst (zs++[v]))) D=some (.lst ys')) else ∃ ys',Pv (i+1) ys' H4∧H4 D=some (.lst ys'))
  (hd:∀ ys H,Pv xs.length ys H→H D=some (.lst ys)→Q (.ref D) H) :
  iT (Itl K a) g tt te nv ix σ Q H D:=by
 refine ⟨fun i m H2=>m=xs.length - i∧i≤xs.length∧∃ ys,Pv i ys H2∧H2 D=some (.lst ys),⟨xs.length,by simp,Nat.zero_le _,[],h0,ah⟩,?_⟩
 rintro i m H2 ⟨rfl,hi,ys,p,hD⟩
 have q:=hl i ys H2 hi p
 by_cases hlt:i<xs.length
 ·refine .inr ⟨⟨xs,xs[i],q,by simp [hlt]⟩,fun H'=>∃ ys,Pv (i+1) ys H'∧H' D=some (.lst ys),fun H' p'=>⟨xs.length - (i+1),by omega,rfl,hlt,p'⟩,fun x H' y=>?_⟩
  obtain ⟨e,y⟩:=y
  subst e
  exact hs i x ys _ (y xs q) p hD
 ·have e:i=xs.length:=by omega
  subst e
  exact .inl ⟨⟨xs,q,Nat.le_refl _⟩,hd ys H2 p hD⟩
theorem fh {lo:Int} {n:Nat} {g:TG} {tt:TT} {te:TE} {nv:Nat} {ix:List Nat} {σ:St} {D:Addr} {H:Hp} {Q:VK} (Pv:Nat→List V→Hp→Prop) (h0:Pv 0 [] (upd H D (.lst [])))
  (hs:∀ i ys H,i<n→Pv i ys H→H D=some (.lst ys)→g (.int (lo+i)) (capσ nv ix σ) H fun σ2 H3=>σ2.drop nv=(capσ nv ix σ).drop nv∧tt σ2 H3 fun b H4 =>
   if b=true then te σ2 H4 fun v H5=>∃ zs,H5 D=some (.lst zs)∧zs.length<sizeLine∧(∃ ys',Pv (i+1) ys' (upd H5 D (.lst (zs++[v])))∧(upd H5 D (.lst (zs++[v]))) D=some (.lst ys')) else ∃ ys',Pv (i+1) ys' H4∧H4 D=some (.lst ys'))
  (hd:∀ ys H,Pv n ys H→H D=some (.lst ys)→Q (.ref D) H) :
  iT (Itr lo n) g tt te nv ix σ Q H D:=by
 refine ⟨fun i m H2=>m=n - i∧i≤n∧∃ ys,Pv i ys H2∧H2 D=some (.lst ys),⟨n,by simp,Nat.zero_le _,[],h0,ah⟩,?_⟩
 rintro i m H2 ⟨rfl,hi,ys,p,hD⟩
 by_cases hlt:i<n
 ·refine .inr ⟨hlt,fun H'=>∃ ys,Pv (i+1) ys H'∧H' D=some (.lst ys),fun H' p'=>⟨n - (i+1),by omega,rfl,hlt,p'⟩,fun x H' y=>?_⟩
  obtain ⟨e,y⟩:=y
  subst e y
  exact hs i ys _ hlt p hD
 ·have e:i=n:=by omega
  subst e
  exact .inl ⟨Nat.le_refl _,hd ys H2 p hD⟩
end L2
namespace L2
open PySem PySem.Spec PyProof.Rows
def eqL:List V→List V→Bool
 | [],[]=>true
 | x::xs,y::ys=>eqV x y && eqL xs ys
 | _,_=>false
def eqJ (xs ys:List V) (j:Nat):Bool:=match xs[j]?,ys[j]? with
 | some a,some b=>eqV a b
 | _,_=>false
theorem ug:∀ (xs ys:List V),xs.length=ys.length→(List.range xs.length).all (eqJ xs ys)=eqL xs ys
 | [],[],_=>rfl
 | x::xs,y::ys,h=>by
  have ih:=ug xs ys (Nat.succ.inj h)
  rw [List.length_cons,List.range_succ_eq_map,List.all_cons,List.all_map]
  show (eqV x y && (List.range xs.length).all (eqJ xs ys))=(eqV x y && eqL xs ys)
  rw [ih]
theorem uA:∀ {xs ys:List V},¬ xs.length=ys.length→eqL xs ys=false
 | [],[],h=>absurd rfl h
 | [],_::_,_=>rfl
 | _::_,[],_=>rfl
 | x::xs,y::ys,h=>by
  unfold eqL
  rw [uA (fun e=>h (congrArg (·+1) e)),Bool.and_false]
section
variable {X:Cx}
def D8 (K:PySem.W.Frag) (neg:Bool):R2:=fun x y H Q=>∃ a b xs ys,x=.ref a∧y=.ref b∧SqL K H a xs∧SqL K H b ys∧xs.all et=true∧ys.all et=true∧Q (.bl (if neg then !eqL xs ys else eqL xs ys)) H
theorem BY {A:Around} {s:Shared} {xs ys:List V} {us ws:List Value} (r:Vals xs us) (r':Vals ys ws) (f:xs.all et=true) (f':ys.all et=true) :
  ∀ j (h1:j<us.toArray.size) (h2:j<ws.toArray.size),SeqAt.EqAt A s us.toArray[j] ws.toArray[j] (eqJ xs ys j):=fun j h1 h2=>by
 have l1:=r.length
 have l2:=r'.length
 simp only [List.size_toArray] at h1 h2
 have e1:xs[j]?=some xs[j]:=List.getElem?_eq_getElem (by omega)
 have e2:ys[j]?=some ys[j]:=List.getElem?_eq_getElem (by omega)
 obtain ⟨u,hu,ru⟩:=r.get e1
 obtain ⟨v,hv,rv⟩:=r'.get e2
 have fu:=List.all_eq_true.mp f _ (List.mem_of_getElem? e1)
 have fv:=List.all_eq_true.mp f' _ (List.mem_of_getElem? e2)
 have eu:us.toArray[j]=u:=by
  have:us[j]?=some us[j]:=List.getElem?_eq_getElem h1
  rw [this] at hu
  exact Option.some.inj hu
 have ev:ws.toArray[j]=v:=by
  have:ws[j]?=some ws[j]:=List.getElem?_eq_getElem h2
  rw [this] at hv
  exact Option.some.inj hv
 rw [eu,ev]
 unfold eqJ
 rw [e1,e2]
 exact rK ru rv fu fv
theorem CB (hu:X.A.units<cLine):OpR X (compareOp .Eq) (D8 X.K false):=by
 intro pins s σ H x y v u Q I rx ry h
 obtain ⟨a,b,xs,ys,rfl,rfl,ha,hb,fa,fb,q⟩:=h
 cases rx
 cases ry
 obtain ⟨us,r1,p1,_⟩:=I.list ha
 obtain ⟨ws,r2,p2,_⟩:=I.list hb
 have l1:=r1.length
 have l2:=r2.length
 by_cases hl:xs.length=ys.length
 ·refine SeqAt.eq_listAt p1.isList p2.isList (by simp only [List.size_toArray]; omega) hu (BY r1 r2 fa fb) ⟨.bl (eqL xs ys),H,I,?_,q⟩
  show Value.bool _=Value.bool _
  rw [List.size_toArray,← l1,ug _ _ hl]
 ·refine SeqAt.eq_list_lengthsAt p1.isList p2.isList (by simp only [List.size_toArray,bne_iff_ne]; omega) hu ⟨.bl (eqL xs ys),H,I,?_,q⟩
  show Value.bool _=Value.bool _
  rw [uA hl]
theorem kE:cT X (.builtin "sorted") (fun xs H Q=>∃ (p:Addr) (ns:List Int),xs=[.ref p]∧SqL X.K H p (ns.map V.int)∧ns.length<64∧∀ (l:Addr) (ns':List Int),H l=none→ns'.Perm ns→ns'.Pairwise (·≤·)→Q (.ref l) (upd H l (.lst (ns'.map V.int)))):=by
 intro pins s σ H xs us Q I r h
 obtain ⟨p,ns,rfl,hp,hl,q⟩:=h
 obtain ⟨u,rfl,ru⟩:=vals1 r
 cases ru
 obtain ⟨its,rv,pl,hz⟩:=I.list hp
 have hlen:=rv.length
 rw [List.length_map] at hlen
 refine sorted_ints pl.isList (intsAre_of rv) (by omega) fun out ns' a1 a2 a3=>?_
 obtain ⟨e,he⟩:=sortedAll_at s.heap its out
 have hn:H (s.heap.objs.size+1)=none:=I.hok.fresh (Nat.le_succ _)
 refine ⟨.ref (s.heap.objs.size+1),_,I.laid (t':=s.toks) (o:=.lst (ns'.map V.int)) (fun _ _=>sortedAll_old) (Nat.le_succ _) ?_,rfl,q _ ns' hn a2 a3⟩
 refine ⟨?_,out.toList,e,jB a1,?_⟩
 ·rw [List.length_map,a2.length_eq]
  exact small (by omega)
 ·simpa using he
theorem jT (hc:X.calm=true):cT X (.builtin "min") (fun xs H Q=>∃ (p:Addr) (ns:List Int),xs=[.ref p]∧SqL X.K H p (ns.map V.int)∧0<ns.length∧∀ M,M∈ns→(∀ a,a∈ns→M≤a)→Q (.int M) H):=by
 intro pins s σ H xs us Q I r h
 obtain ⟨p,ns,rfl,hp,hl,q⟩:=h
 obtain ⟨u,rfl,ru⟩:=vals1 r
 cases ru
 obtain ⟨its,rv,pl,hz⟩:=I.list hp
 have hi:=intsAre_of rv
 obtain ⟨ys,e⟩:=hi.allInts.items
 have hns:ns=ys.toList.map (·.1):=by rw [← hi.numsOf,← nums_intItems,← e]
 have hsz:0<ys.size:=by
  have h3:=hl; rw [hns,List.length_map,Array.length_toList] at h3; exact h3
 have hL:=pl.isList
 rw [e] at hL
 refine min_intList (I.ok.hd hc) hL hsz fun v h' tk hv hk=>?_
 obtain ⟨t,rfl⟩:=intItems_at hv
 obtain ⟨h1,h2⟩:=argBest_lt (numAt ys) (ys.size - 1)
 refine ⟨.int _,H,I.kept hk,⟨t,rfl⟩,q _ ?_ fun a ha=>?_⟩
 ·rw [hns,numAt_eq]; exact getD_mem (by rw [List.length_map,Array.length_toList]; omega)
 ·rw [hns] at ha
  obtain ⟨j,hj,rfl⟩:=mem_getD ha
  rw [List.length_map,Array.length_toList] at hj
  rw [← numAt_eq]; exact h2 j (by omega)
theorem lg:∀ {bs:List Bool} {us:List Value},Vals (bs.map V.bl) us→∀ (i:Nat) v,us[i]?=some v→∃ b,bs[i]?=some b∧v=.bool b
 | [],_,r,i,v,e=>by cases r; simp at e
 | b::bs,_,.cons r t,0,v,e=>by
  simp at e
  subst e
  exact ⟨b,rfl,r⟩
 | b::bs,_,.cons r t,i+1,v,e=>by
  obtain ⟨c,h1,h2⟩:=lg t i v (by simpa using e)
  exact ⟨c,by simpa using h1,h2⟩
theorem i9 (hc:X.calm=true):cT X (.builtin "all") (fun xs H Q=>∃ (p:Addr) (bs:List Bool),xs=[.ref p]∧SqL X.K H p (bs.map V.bl)∧Q (.bl (bs.all id)) H):=by
 intro pins s σ H xs us Q I r h
 obtain ⟨p,bs,rfl,hp,q⟩:=h
 obtain ⟨u,rfl,ru⟩:=vals1 r
 cases ru
 obtain ⟨its,rv,pl,hz⟩:=I.list hp
 have hl:=pl.isList
 have hlt:p<s.heap.objs.size:=by obtain ⟨_,e,_⟩:=hl; exact Heap.lt_size e
 have hlen:=rv.length
 rw [List.length_map] at hlen
 refine call_all_walk (wpAny_pyIter_list hl ?_)
 refine ⟨s.heap.objs.size,[s.heap.objs.size,p],[s.heap.objs.size],its.toArray.size,_,_,fun i=>(bs[i]?).getD true,rfl,Walks.list (A:=X.A.in1) (I.ok.hd hc) _ p (Nat.ne_of_lt hlt) its.toArray,
  ⟨⟨_,Heap.get?_push_size _ rfl,rfl,rfl⟩,hl.push _⟩,fun i v s' Q' E' hP hQ=>?_,fun h' tk hk=>?_⟩
 ·obtain ⟨b,e,rfl⟩:=lg rv i v (by simpa using hP)
  simp only [e,Option.getD_some] at hQ
  exact wpAny_truthy_bool hQ
 ·have e:((List.range its.toArray.size).all fun i=>(bs[i]?).getD true)=bs.all id:=by
   rw [List.size_toArray,← hlen,Bool.eq_iff_iff,List.all_eq_true,List.all_eq_true]
   constructor
   ·intro z b hb
    obtain ⟨i,hi,rfl⟩:=List.getElem_of_mem hb
    have:=z i (List.mem_range.mpr hi)
    show bs[i]=true
    simpa only [List.getElem?_eq_getElem hi,Option.getD_some] using this
   ·intro z i hi
    have hi':=List.mem_range.mp hi
    have z2:bs[i]=true:=z _ (List.getElem_mem hi')
    simpa only [List.getElem?_eq_getElem hi',Option.getD_some] using z2
  refine ⟨.bl (bs.all id),H,I.kept fun b o x=>hk b o (fun hm=>?_) (Heap.get?_push_of_some _ x),by rw [e]; rfl,q⟩
  rw [List.mem_singleton.mp hm] at x
  exact Nat.lt_irrefl _ (Heap.lt_size x)
def Dr (K:PySem.W.Frag):V→Hp→VK→Prop:=fun x H Q=>∃ a xs,x=.ref a∧SqL K H a xs∧∀ p,H p=none→Q (.ref p) (upd H p (.lst xs.reverse))
def Fw (K:PySem.W.Frag) (te:TE):TE:=fun σ H Q=>te σ H fun x H1=>Dr K x H1 Q
end
structure ClsFn (K:PySem.W.Frag) (C:Addr) (m:Str) (g:Addr):Prop where
 rd:PySem.W.readsIn K C (.type "type")=true
 at_:PySem.W.findCls K (.ref C) (.type "type") m=some (.val (.ref g))
 sp:PySem.W.specialIn K (.ref C) "__getattribute__"=some (some (.builtin "type.__getattribute__"))
 kp:PySem.W.keepIn K (.ref g)=true
section
variable {X:Cx} {CX:CXT} {k:Nat} {f C:Addr} {fd:FuncData} {ps:List Str} {sp:Sp} {dvs:List V} {ds:List Value} {E:XK} {x m:Str} {p pos apos:Pos} {e:Expr} {es:List Expr} {t:TA}
theorem f7 {pl:Sem Bool} (hg:Gl X x) (hm:X.mg x=some (.ref C)) (c:ClsFn X.K C m f) (F:FnOk X.prog X.w X.K X.mg X.base CX k f fd ps sp) (hr:Room k X.A) (hb:Binds X.K fd ps ds) (hd:Vals dvs ds) (hx:Passes CX X E) (ha:PA X (e::es) t)
  (hdb:(x == ("__debug__":Str))=false:=by decide) (hst:starEach (e::es) X.env=(false,eval e X.env)::starEach es X.env:=by rfl) (hpl:(backTo pos (starEach es X.env)).any (·.1)=false:=by rfl)
  (ht:eval (.Call (.Attribute (.Name x p) m apos) (e::es) [] pos) X.env=(do
   let ov ← eval (.Name x p) X.env
   standAt apos.atName
   let (f,first) ← holding [ov] (getMethod ov m pl)
   callWith pos f first (backTo pos (starEach (e::es) X.env)) (backToKw pos (keywordEach [] X.env))):=by rfl) :
  PE X (.Call (.Attribute (.Name x p) m apos) (e::es) [] pos) (ub sp dvs E t):=by
 intro pins s σ H Q I h
 refine PySem.W.methodCall_KW (pl:=pl) (fG I hg hm ?_ hdb) ht
 refine PySem.W.method_cls I.kIn c.sp (PySem.W.cls_value I.kIn c.rd c.at_ rfl ?_)
 have I1:Inv X pins σ H { s with toks:=s.toks+1 }:=I.tok _
 refine PySem.W.callWith_K (first:=[]) (h₀:=X.base) I.ok.mod.kin c.kp (thn (ha pos pins _ σ H _ I1 h) fun us s2 ⟨vs,H2,I2,r,q2⟩=>⟨I2.kIn,?_⟩) hst hpl
 exact pW (us:=us) (vs:=vs) F hr hb hd hx I2 r q2
end
end L2
namespace L2
open PySem PySem.Spec PyProof.Rows
def XAt (B h:Heap) (x:Addr) (C:Value) (d:Option Addr) (vs:Array Value):Prop:=B.get? x=none∧∃ sl,h.get? x=some ⟨C,d,.fields vs,sl⟩
def TAt (B h:Heap) (x:Addr) (vs:Array Value) (fl:Value):Prop:=∃ (T:Addr) (oT:Obj) (ts:Array Value),vs[1]?=some (.ref T)∧T≠x∧B.get? T=none∧h.get? T=some oT∧oT.data=.fields ts∧ts[3]?=some fl
structure Moved (l:List Env) (B h h':Heap):Prop where
 stay:B.StaysIn h'
 funs:h'.FunFrames B l
 slot:∀ b∈frs l,∀ o,h.get? b=some o→∃ sl,h'.get? b=some { o with slots:=sl }
theorem Moved.trans {l:List Env} {B h h1 h2:Heap} (a:Moved l B h h1) (b:Moved l B h1 h2):Moved l B h h2 :=
 ⟨b.stay,b.funs,fun c hc o e=>by
  obtain ⟨sl,e1⟩:=a.slot c hc o e
  obtain ⟨sl2,e2⟩:=b.slot c hc _ e1
  exact ⟨sl2,e2⟩⟩
section
variable {M:Model} {A:Around} {E:Value→Shared→Prop} {s:Shared} {B:Heap} {l:List Env} {x:Addr} {C:Value} {d:Option Addr} {vs:Array Value}
theorem ik {h:Heap} (hl:h.FunFrames B l) {b:Addr} {o:Obj} {ws:Array Value} (e:h.get? b=some o) (hd:o.data=.fields ws):b∉frs l:=fun hb=>by
 obtain ⟨_,o',e',n⟩:=hl.mem hb
 rw [e] at e'
 cases e'
 exact n ws hd
theorem gC {h:Heap} (hs:B.StaysIn h) (hl:h.FunFrames B l) {b:Addr} {o:Obj} {ws:Array Value} (e:h.get? b=some o) (hd:o.data=.fields ws) (hb:B.get? b=none) (f:Obj→Obj):Moved l B h (h.update b f):=by
 have nf:=ik hl e hd
 refine ⟨fun c u q=>?_,hl.of_keeps fun c u q n=>⟨u,?_,rfl⟩,fun c hc u q=>⟨u.slots,?_⟩⟩
 ·have hne:b≠c:=fun z=>by rw [z,q] at hb; cases hb
  rw [Heap.get?_update_other _ _ hne]
  exact hs c u q
 ·have hne:b≠c:=fun z=>by
   subst z
   rw [e] at q
   cases q
   exact n ws hd
  rw [Heap.get?_update_other _ _ hne]
  exact q
 ·have hne:b≠c:=fun z=>nf (by rw [z]; exact hc)
  rw [Heap.get?_update_other _ _ hne]
  exact q
theorem gY {fl:Value} {Q:Unit→Shared→Prop} (hs:B.StaysIn s.heap) (hl:s.heap.FunFrames B l) (hx:XAt B s.heap x C d vs) (ht:TAt B s.heap x vs fl)
  (h:∀ h',XAt B h' x C d vs→TAt B h' x vs .none→Moved l B s.heap h'→Q () { s with heap:=h' }):wpAny M A (setFlight (.ref x) none) Q E s:=by
 obtain ⟨bx,sl,ex⟩:=hx
 obtain ⟨T,oT,ts,v1,hne,bT,eT,dT,t3⟩:=ht
 have h3:3<ts.size:=(Array.getElem?_eq_some_iff.mp t3).1
 unfold setFlight
 refine wpAny_bind (wpAny_field ex rfl v1 ?_)
 rw [if_pos (show (Value.ref T != Value.none)=true by simp)]
 refine wpAny_setField eT dT h3 (h _ ⟨bx,sl,?_⟩ ?_ (gC hs hl eT dT bT _))
 ·rw [Heap.get?_update_other _ _ hne]
  exact ex
 ·have dN:=Obj.data_mapFields dT (·.setIfInBounds 3 Value.none)
  exact ⟨T,_,_,v1,hne,bT,Heap.get?_update_self _ eT (Obj.isFreed_of_fields dN),dN,by simp [h3]⟩
theorem oB {env:Env} {outer:List Env} {L:Addr} {head:Value} {hadNext:Bool} {Q:Unit→Shared→Prop} (hfr:A.frames=some (env::outer)) (hf:env.frame=some L) (hs:B.StaysIn s.heap) (hl:s.heap.FunFrames B (env::outer))
  (hx:XAt B s.heap x C d vs) (h1:1<vs.size)
  (h:∀ h' ws,ws[0]?=vs[0]?→XAt B h' x C d ws→TAt B h' x ws (rawInt L)→Moved (env::outer) B s.heap h'→Q () { s with heap:=h' }) :
  wpAny M A (do let a ← frameOf env; let pl ← entryPlaceOf L hadNext; let b ← EntryCells.newEntry head a .none (rawInt L) .none pl; setField (.ref x) 1 b) Q E s:=by
 obtain ⟨bx,sl,ex⟩:=hx
 have nx:=ik hl ex rfl
 refine wpAny_bind (wpAny_frameOf_fun hfr hl hf fun g1 k1=>?_)
 have ex1:g1.get? x=some ⟨C,d,.fields vs,sl⟩:=(k1.2.1 x nx).trans ex
 have hs1:B.StaysIn g1:=fun b o q=>(k1.2.1 b fun hb=>by have z:=(hl.mem hb).1; rw [q] at z; cases z).trans (hs b o q)
 have m1:Moved (env::outer) B s.heap g1:=⟨hs1,hl.of_keeps fun b o q _=>let ⟨sl',z⟩:=k1.2.2 b o q; ⟨_,z,rfl⟩,fun b _ o q=>k1.2.2 b o q⟩
 refine wpAny_bind (wpAny_entryPlaceOf fun pl hpl=>?_)
 unfold EntryCells.newEntry newFields
 refine wpAny_bind (wpAny_newObj_type ?_ (hpl.sizeOk5 _ _ _ _ _))
 generalize hts:([head,Value.ref L,Value.none,rawInt L,Value.none]++(if pl.isEmpty then List.replicate 6 Value.none else pl)).toArray=ts
 have t3:ts[3]?=some (rawInt L):=by
  rw [← hts]
  simp
 have hTx:g1.objs.size≠x:=Nat.ne_of_gt (Heap.lt_size ex1)
 have m2:Moved (env::outer) B g1 (g1.push ⟨.type "traceback",none,.fields ts,#[]⟩) :=
  ⟨fun b o q=>Heap.get?_push_of_some _ (hs1 b o q),m1.funs.of_keeps fun b o q _=>⟨o,Heap.get?_push_of_some _ q,rfl⟩,fun b _ o q=>⟨o.slots,Heap.get?_push_of_some _ q⟩⟩
 have ex2:=Heap.get?_push_of_some (h:=g1) ⟨.type "traceback",none,.fields ts,#[]⟩ ex1
 refine wpAny_setField ex2 rfl h1 (h _ (vs.setIfInBounds 1 (.ref g1.objs.size)) ?_ ⟨bx,sl,?_⟩ ?_ ((m1.trans m2).trans (gC m2.stay m2.funs ex2 rfl bx _)))
 ·rw [Array.getElem?_setIfInBounds_ne (by decide)]
 ·exact Heap.get?_update_self (Obj.mapFields (·.setIfInBounds 1 (Value.ref g1.objs.size))) ex2 rfl
 ·refine ⟨g1.objs.size,⟨.type "traceback",none,.fields ts,#[]⟩,ts,by simp [h1],hTx,hs1.fresh,?_,rfl,t3⟩
  rw [Heap.get?_update_other _ _ (Ne.symm hTx)]
  exact Heap.get?_push_size _ rfl
theorem ni {env:Env} {outer:List Env} {L:Addr} {Q:Unit→Shared→Prop} (hfr:A.frames=some (env::outer)) (hf:env.frame=some L) (hs:B.StaysIn s.heap) (hl:s.heap.FunFrames B (env::outer))
  (hx:XAt B s.heap x C d vs) (ht:vs[1]?=some .none∨TAt B s.heap x vs .none)
  (h:∀ h' ws,ws[0]?=vs[0]?→XAt B h' x C d ws→TAt B h' x ws (rawInt L)→Moved (env::outer) B s.heap h'→Q () { s with heap:=h' }) :
  wpAny M A (noteFrame (.ref x) env) Q E s:=by
 obtain ⟨bx,sl,ex⟩:=id hx
 unfold noteFrame
 simp only [hf]
 rcases ht with v1 | ⟨T,oT,ts,v1,hne,bT,eT,dT,t3⟩
 ·refine wpAny_bind (wpAny_field ex rfl v1 ?_)
  rw [if_neg (by decide)]
  exact oB hfr hf hs hl hx (Array.getElem?_eq_some_iff.mp v1).1 h
 ·refine wpAny_bind (wpAny_field ex rfl v1 ?_)
  rw [if_pos (show (Value.ref T != Value.none)=true by simp)]
  refine wpAny_bind (wpAny_field eT dT t3 ?_)
  rw [if_neg (show ¬ ((Value.none == rawInt L)=true) by simp [rawInt])]
  refine wpAny_bind (wpAny_setField eT dT (Array.getElem?_eq_some_iff.mp t3).1 ?_)
  have mv:=gC hs hl eT dT bT (Obj.mapFields (·.setIfInBounds 3 Value.none))
  refine oB (s:={ s with heap:=s.heap.update T (Obj.mapFields (·.setIfInBounds 3 Value.none)) }) hfr hf mv.stay mv.funs ⟨bx,sl,?_⟩ (Array.getElem?_eq_some_iff.mp v1).1 fun h' ws a b c e=>h h' ws a b c (mv.trans e)
  show (s.heap.update T _).get? x=_
  rw [Heap.get?_update_other _ _ hne]
  exact ex
theorem kq {env:Env} {outer:List Env} {L:Addr} {Q:Unit→Shared→Prop} (hfr:A.frames=some (env::outer)) (hf:env.frame=some L) (hs:B.StaysIn s.heap) (hl:s.heap.FunFrames B (env::outer))
  (hx:XAt B s.heap x C d vs) (ht:vs[1]?=some .none∨TAt B s.heap x vs .none)
  (h:∀ h' ws,ws[0]?=vs[0]?→XAt B h' x C d ws→TAt B h' x ws .none→Moved (env::outer) B s.heap h'→Q () { s with heap:=h' }) :
  wpAny M A (leaving env (.ref x)) Q E s:=by
 unfold leaving
 refine wpAny_bind (ni hfr hf hs hl hx ht fun g1 ws a b c e=>?_)
 exact gY (s:={ s with heap:=g1 }) e.stay e.funs b c fun g2 b2 c2 e2=>h g2 ws a b2 c2 (e.trans e2)
end
end L2
namespace L2
open PySem PySem.Spec PyProof.Rows
theorem HOk.tracked {P:Program} {w:World} {H:Hp} {h h':Heap} (ok:HOk P w H h) (k:∀ b u o,H b=some u→h.get? b=some o→h'.get? b=some o):HOk P w H h':=fun b u e=>by
 refine (ok b u e).stay (fun c v hc q=>?_) (fun _ q=>q) fun _ _ q=>q
 rcases hc with z | z
 ·subst z
  exact k _ u v e q
 ·exact k c _ v z q
theorem ObjOk.there {P:Program} {w:World} {H:Hp} {h:Heap} {a:Addr} {o:HO} (x:ObjOk P w H h a o):∃ u,h.get? a=some u:=by
 cases o with
 | lst xs=>obtain ⟨_,_,_,_,e⟩:=x; exact ⟨_,e⟩
 | tup xs=>obtain ⟨_,_,_,p⟩:=x; obtain ⟨u,e,_⟩:=p; exact ⟨u,e⟩
 | dK kvs=>obtain ⟨_,_,_,_,u,_,_,e,_⟩:=x; exact ⟨u,e⟩
 | dT kvs=>obtain ⟨_,_,_,_,u,_,_,e,_⟩:=x; exact ⟨u,e⟩
 | set S n=>obtain ⟨u,_,_,_,e,_⟩:=x; exact ⟨u,e⟩
 | ins C dx fs=>exact ⟨_,x.2.2.2.1⟩
 | own y=>exact x
 | xd fs=>obtain ⟨_,⟨u,_,_,e,_⟩,_⟩:=x; exact ⟨u,e⟩
 | met f y=>exact ⟨_,x⟩
 | rng lo hi=>obtain ⟨_,_,_,e⟩:=x; exact ⟨_,e⟩
 | frz u v=>exact ⟨u,x.1⟩
 | tbl ps=>exact ⟨_,x⟩
 | ext φ=>exact x.2.1
theorem kC {h B B':Heap}:∀ {l:List Env},(∀ b∈frs l,B'.get? b=none)→h.FunFrames B l→h.FunFrames B' l
 | [],_,_=>trivial
 | env::r,hn,⟨hk,⟨L,o,hf,_,ho,hd⟩,hr⟩=>by
  have e:frs (env::r)=L::frs r:=by
   unfold frs
   rw [List.filterMap_cons,hf]
  exact ⟨hk,⟨L,o,hf,hn L (by rw [e]; exact List.mem_cons_self),ho,hd⟩,kC (fun b hb=>hn b (by rw [e]; exact List.mem_cons_of_mem _ hb)) hr⟩
structure Fly (P:Program) (w:World) (outer:List Env) (H H':Hp) (g B:Heap) (x C:Addr) (d:Option Addr) (h':Heap):Prop where
 un:Un (frs outer) [] H H' g h'
 hok:HOk P w H' h'
 stay:B.StaysIn h'
 funs:h'.FunFrames B outer
 cov:∀ b o,g.get? b=some o→b∉frs outer→∃ o',B.get? b=some o'
 covT:∀ b o,H' b=some o→∃ o',B.get? b=some o'
 exc:∃ vs,XAt B h' x (.ref C) d vs∧TAt B h' x vs .none
def CXE (P:Program) (w:World):CXT:=fun outer H s E e s'=>∃ (x C:Addr) (d:Option Addr) (H':Hp) (B:Heap),e=.ref x∧s'.os=s.os∧AllBare s'.gens∧Fly P w outer H H' s.heap B x C d s'.heap∧E (.ref C) d H'
section
variable {P:Program} {w:World} {outer:List Env} {H H':Hp} {g B h h':Heap} {x C:Addr} {d:Option Addr}
theorem Fly.noX (F:Fly P w outer H H' g B x C d h):H' x=none:=by
 obtain ⟨_,⟨bx,_⟩,_⟩:=F.exc
 cases q:H' x with
 | none=>rfl
 | some o =>
  obtain ⟨o',z⟩:=F.covT x o q
  rw [z] at bx
  cases bx
theorem mz (un:Un (frs outer) [] H H' g h) (hs:B.StaysIn h) (hl:h.FunFrames B outer) (cov:∀ b o,g.get? b=some o→b∉frs outer→∃ o',B.get? b=some o') (m:Moved outer B h h'):Un (frs outer) [] H H' g h' where
 keep:=fun b o e n hb hx=>by
  have e1:=un.keep b o e n hb hx
  obtain ⟨o',e2⟩:=cov b o e hb
  have e3:=hs b o' e2
  rw [e1] at e3
  cases e3
  exact m.stay b _ e2
 slot:=fun b o e n hb hx=>by
  obtain ⟨sl,e1⟩:=un.slot b o e n hb hx
  obtain ⟨sl2,e2⟩:=m.slot b hb _ e1
  exact ⟨sl2,e2⟩
 free:=un.free
 there:=fun b o e hx=>by
  by_cases hb:b∈frs outer
  ·obtain ⟨o1,e1⟩:=un.there b o e hx
   obtain ⟨sl,e2⟩:=m.slot b hb o1 e1
   exact ⟨_,e2⟩
  ·obtain ⟨o',e2⟩:=cov b o e hb
   exact ⟨o',m.stay b o' e2⟩
 tups:=un.tups
 frzs:=un.frzs
 tbls:=un.tbls
theorem j5 (ok:HOk P w H' h) (hs:B.StaysIn h) (covT:∀ b o,H' b=some o→∃ o',B.get? b=some o') (m:B.StaysIn h'):HOk P w H' h' :=
 ok.tracked fun b u o e q=>by
  obtain ⟨o',e2⟩:=covT b u e
  have e3:=hs b o' e2
  rw [q] at e3
  cases e3
  exact m b _ e2
theorem Fly.moved (F:Fly P w outer H H' g B x C d h) {vs:Array Value} (m:Moved outer B h h') (hx:XAt B h' x (.ref C) d vs) (ht:TAt B h' x vs .none):Fly P w outer H H' g B x C d h' :=
 ⟨mz F.un F.stay F.funs F.cov m,j5 F.hok F.stay F.covT m.stay,m.stay,m.funs,F.cov,F.covT,vs,hx,ht⟩
end
def yg (X:Cx) (E:XK):Prop:=∀ (pins:List (Addr×Obj)) (σ:St) (H:Hp) (s:Shared) (h':Heap) (x C:Addr) (sl:Array (Option Value)) (vs:Array Value),Inv X pins σ H s→(∀ b o,s.heap.get? b=some o→h'.get? b=some o)→
 s.heap.get? x=none→h'.get? x=some ⟨.ref C,none,.fields vs,sl⟩→vs[1]?=some .none→E (.ref C) none H→X.xe (.ref x) { s with heap:=h' }
section
variable {P:Program} {w:World} {K:PySem.W.Frag} {mg:Str→Option Value} {base:Heap} {N:List Str} {qual:Str} {scope:Scope} {f:Addr} {cd:Value} {A:Around} {outer:List Env} {s₀:Shared} {H₀:Hp} {E:XK}
theorem nR {X:Cx} {env:Env} {outer:List Env} {L:Addr} (e:X.stack=env::outer) (hf:env.frame=some L):frs X.stack=L::frs outer:=by
 rw [e]
 unfold frs
 rw [List.filterMap_cons,hf]
theorem qM {H1 H2:Hp} {g0 g1 h' B:Heap} {L:Addr} (hL:g0.objs.size≤L) (a:Un (frs outer) [] H₀ H1 g0 g1) (b:Un (L::frs outer) [] H1 H2 g1 h'):Un (frs outer) [] H₀ H2 g0 h':=by
 have nL:∀ c o,g0.get? c=some o→c≠L:=fun c o e=>Nat.ne_of_lt (Nat.lt_of_lt_of_le (Heap.lt_size e) hL)
 have n0:∀ c:Addr,c∉([]:List Addr):=fun c=>by simp
 refine ⟨fun c o e n hc hx=>?_,fun c o e n hc hx=>?_,fun c o e n hx=>?_,fun c o e hx=>?_,fun c xs e=>b.tups c xs (a.tups c xs e),fun c o u e=>b.frzs c o u (a.frzs c o u e),fun c ps e=>?_⟩
 ·exact b.keep c o (a.keep c o e n hc hx) (a.free c o e n hx) (fun z=>(List.mem_cons.mp z).elim (nL c o e) hc) (n0 c)
 ·obtain ⟨sl,e1⟩:=a.slot c o e n hc hx
  obtain ⟨sl2,e2⟩:=b.slot c _ e1 (a.free c o e n hx) (List.mem_cons_of_mem _ hc) (n0 c)
  exact ⟨sl2,e2⟩
 ·obtain ⟨o1,e1⟩:=a.there c o e hx
  exact b.free c o1 e1 (a.free c o e n hx) (n0 c)
 ·obtain ⟨o1,e1⟩:=a.there c o e hx
  exact b.there c o1 e1 (n0 c)
 ·obtain ⟨m1,e1⟩:=a.tbls c ps e
  obtain ⟨m2,e2⟩:=b.tbls c _ e1
  exact ⟨m1++m2,by rw [e2,Array.append_assoc]⟩
theorem uP:Passes (CXE P w) (gL (CXE P w) P w K mg base N qual scope f cd A outer s₀ H₀ E) E:=by
 intro pins σ H s e s' I hx
 obtain ⟨x,C,d,H',B,rfl,os,bare,F,q⟩:=hx
 obtain ⟨vs,xa,ta⟩:=F.exc
 show wpAny _ _ (leaving _ _) _ _ s'
 have hfr:=I.ok.frames
 have hsf:frs (gL (CXE P w) P w K mg base N qual scope f cd A outer s₀ H₀ E).stack=s₀.heap.objs.size::frs outer:=nR rfl rfl
 refine kq (L:=s₀.heap.objs.size) hfr rfl F.stay F.funs xa (.inr ta) fun h' ws _ xa' ta' m=>?_
 refine ⟨x,C,d,H',B,rfl,os.trans I.os,bare,⟨?_,j5 F.hok F.stay F.covT m.stay,m.stay,m.funs.2.2,fun b o e hb=>?_,F.covT,ws,xa',ta'⟩,q⟩
 ·have u2:=mz F.un F.stay F.funs F.cov m
  exact qM (L:=s₀.heap.objs.size) (B:=B) (Nat.le_refl _) I.base (hsf▸u2)
 ·obtain ⟨o1,e1⟩:=I.base.there b o e (fun z=>by simp [gL] at z)
  refine F.cov b o1 e1 fun z=>?_
  rw [hsf] at z
  exact (List.mem_cons.mp z).elim (Nat.ne_of_lt (Heap.lt_size e)) hb
theorem oi:yg (gL (CXE P w) P w K mg base N qual scope f cd A outer s₀ H₀ E) E:=by
 intro pins σ H s h' x C sl vs I kp nx hx v1 q
 show wpAny _ _ (leaving _ _) _ _ _
 have hfr:=I.ok.frames
 have hsf:frs (gL (CXE P w) P w K mg base N qual scope f cd A outer s₀ H₀ E).stack=s₀.heap.objs.size::frs outer:=nR rfl rfl
 let B:=PySem.W.hideAll s.heap (frs (gL (CXE P w) P w K mg base N qual scope f cd A outer s₀ H₀ E).stack)
 have hB:B.StaysIn s.heap:=fun b o e=>PySem.W.of_hideAll _ e
 have hB':B.StaysIn h':=fun b o e=>kp b o (hB b o e)
 have bget:∀ b o,s.heap.get? b=some o→b∉frs (gL (CXE P w) P w K mg base N qual scope f cd A outer s₀ H₀ E).stack→B.get? b=some o:=fun b o e n=>PySem.W.hideAll_get _ e n
 have bx:B.get? x=none:=by
  cases z:B.get? x with
  | none=>rfl
  | some o =>
   have:=hB x o z
   rw [nx] at this
   cases this
 have fn:h'.FunFrames B (gL (CXE P w) P w K mg base N qual scope f cd A outer s₀ H₀ E).stack:=(kC (fun b hb=>PySem.W.hideAll_none _ hb) I.stack).of_keeps fun b o e _=>⟨o,kp b o e,rfl⟩
 have covT:∀ b o,H b=some o→∃ o',B.get? b=some o':=fun b o e=>by
  have hlt:=(I.hok b o e).lt
  obtain ⟨u,hu⟩:∃ u,s.heap.get? b=some u:=(I.hok b o e).there
  refine ⟨u,bget b u hu fun hb=>?_⟩
  rw [I.stkFree b hb] at e
  cases e
 have un0:Un (frs (gL (CXE P w) P w K mg base N qual scope f cd A outer s₀ H₀ E).stack) [] H H s.heap h':=Un.kept kp
 have cov1:∀ b o,s.heap.get? b=some o→b∉frs (gL (CXE P w) P w K mg base N qual scope f cd A outer s₀ H₀ E).stack→∃ o',B.get? b=some o':=fun b o e n=>⟨o,bget b o e n⟩
 refine kq (s:={ s with heap:=h' }) (B:=B) (L:=s₀.heap.objs.size) hfr rfl hB' fn ⟨bx,sl,hx⟩ (.inl v1) fun h2 ws _ xa' ta' m=>?_
 refine ⟨x,C,none,H,B,rfl,I.os,I.bare,⟨?_,j5 (I.hok.kept kp) hB' covT m.stay,m.stay,m.funs.2.2,fun b o e hb=>?_,covT,ws,xa',ta'⟩,q⟩
 ·have u2:=mz un0 hB' fn cov1 m
  exact qM (L:=s₀.heap.objs.size) (B:=B) (Nat.le_refl _) I.base (hsf▸u2)
 ·obtain ⟨o1,e1⟩:=I.base.there b o e (fun z=>by simp [gL] at z)
  refine cov1 b o1 e1 fun z=>?_
  rw [hsf] at z
  exact (List.mem_cons.mp z).elim (Nat.ne_of_lt (Heap.lt_size e)) hb
end
end L2
namespace L2
open PySem PySem.Spec PyProof.Rows
section
variable {P:Program} {w:World} {K:PySem.W.Frag} {mg:Str→Option Value} {base:Heap} {k:Nat} {f:Addr} {fd:FuncData} {ps:List Str} {sp:Sp}
theorem FnOk.to0 (F:FnOk P w K mg base (CXE P w) k f fd ps sp):FnOk P w K mg base CX0 k f fd ps (fun vs H Q _=>sp vs H Q E0) :=
 ⟨fun vs H Q _ h=>F.len vs H Q E0 h,fun A outer s H args us vs Q _ hr e0 hb r h=>codeAny_mono (F.run A outer s H args us vs Q E0 hr e0 hb r h) fun r s' q=>by
  cases r with
  | ok fl=>cases fl <;> exact q
  | error e =>
   obtain ⟨x,C,d,H',B,_,_,_,_,z⟩:=q
   exact z⟩
theorem Fun.okX {x qual:Str} {st:Stmt} {N:List Str} (F:Fun K x qual st f fd) (S:FnScope N ps (ar st)) (len:∀ vs H Q E,sp vs H Q E→vs.length=ps.length)
  (hbody:∀ (cdv:Value) (A:Around) (outer:List Env) (s:Shared) (H:Hp) (vs:List V) (Q:VK) (E:XK),Room k (A.deeper (envOfC qual (ar st) s.heap.objs.size f cdv))→sp vs H Q E→
   ∃ t,PSs (gL (CXE P w) P w K mg base N qual (ar st) f cdv A outer s H E) (cW st) t∧t { nx:=fun _ H'=>Q .non H',rt:=Q } (start N vs) H):FnOk P w K mg base (CXE P w) (k+1) f fd ps sp:=by
 obtain ⟨oc,od,kV,doc,pm,an,cdv,ct,osl,rfl,lk,hcd⟩:=F.ex
 exact A3 lk hcd S len fun A outer s H vs Q E hr hsp=>hbody cdv A outer s H vs Q E hr hsp
end
structure CalX (P:Program) (w:World) (K:PySem.W.Frag) (mg:Str→Option Value) (base:Heap) (k:Nat) (x:Str) (ps:List Str) (sp:Sp):Prop where
 ex:∃ f fd,FnOk P w K mg base (CXE P w) k f fd ps sp∧Binds K fd ps []∧PySem.W.keepIn K (.ref f)=true∧mg x=some (.ref f)
theorem CalX.to0 {P:Program} {w:World} {K:PySem.W.Frag} {mg:Str→Option Value} {base:Heap} {k:Nat} {x:Str} {ps:List Str} {sp:Sp} (C:CalX P w K mg base k x ps sp):Cal P w K mg base k x ps (fun vs H Q _=>sp vs H Q E0):=by
 obtain ⟨f,fd,F,b,kp,m⟩:=C.ex
 exact ⟨f,fd,F.to0,b,kp,m⟩
abbrev TX:=St→Hp→VK→XK→Prop
def FX (X:Cx) (pins:List (Addr×Obj)) (σ:St) (E:XK) (v:Value) (s':Shared):Prop:=∃ H1 s1,Inv X pins σ H1 s1∧CXE X.prog X.w X.stack H1 s1 E v s'
def PX (X:Cx) (e:Expr) (t:TX):Prop :=
 ∀ (pins:List (Addr×Obj)) (s:Shared) (σ:St) (H:Hp) (Q:VK) (E:XK),Inv X pins σ H s→t σ H Q E→wpAny (model X.prog X.w) X.A (eval e X.env) (EP X pins σ Q) (FX X pins σ E) s
section
variable {X:Cx} {k j:Nat} {f:Addr} {fd:FuncData} {ps:List Str} {sp:Sp} {E:XK} {x:Str} {p pos:Pos} {e:Expr} {es:List Expr} {t:TA}
theorem Cu (C:CalX X.prog X.w X.K X.mg X.base k x ps sp) (hx:Passes (CXE X.prog X.w) X E) (hr:Room j X.A) (hj:k≤j) (hg:Gl X x) (ha:PA X (e::es) t) (hdb:(x == ("__debug__":Str))=false:=by decide) (he:starEach (e::es) X.env=(false,eval e X.env)::starEach es X.env:=by rfl) (hpl:(backTo pos (starEach es X.env)).any (·.1)=false:=by rfl) :
  PE X (.Call (.Name x p) (e::es) [] pos) (ub sp [] E t):=by
 obtain ⟨f,fd,F,b,kp,m⟩:=C.ex
 exact uf F (hr.mono hj) hg m kp b .nil hx ha hdb he hpl
theorem DC (C:CalX X.prog X.w X.K X.mg X.base k x ps sp) (hr:Room j X.A) (hj:k≤j) (hg:Gl X x) (ha:PA X.nox (e::es) t) (hdb:(x == ("__debug__":Str))=false:=by decide) (he:starEach (e::es) X.env=(false,eval e X.env)::starEach es X.env:=by rfl) (hpl:(backTo pos (starEach es X.env)).any (·.1)=false:=by rfl) :
  PX X (.Call (.Name x p) (e::es) [] pos) (fun σ H Q E=>t σ H fun vs H1=>sp vs H1 Q E):=by
 obtain ⟨f,fd,F,b,kp,m⟩:=C.ex
 intro pins s σ H Q E I h
 refine wpAny_Call_Name_kw (fG I hg m ?_ hdb)
 have h1:=ha pos pins s σ H _ (I.wish _) h
 refine PySem.W.callWith_K (h₀:=X.base) I.ok.mod.kin kp (wpAny_mono h1 (fun us s1 ⟨vs,H1,I1,r,q⟩=>⟨I1.kIn,?_⟩) fun _ _ z=>z.elim) he hpl
 have I2:=I1.unwish
 have hl:(us++[]).length=ps.length:=by rw [List.append_nil,← r.length]; exact F.len _ _ _ _ q
 have hb2:=b s1 us I2.kIn hl
 rw [List.append_nil] at hb2
 refine wpAny_call (codeAny_mono (F.run X.A X.stack s1 H1 ⟨us,[]⟩ us vs Q E (hr.mono hj) I2.env0 hb2 r q) fun r s' hq=>?_)
 cases r with
 | error e=>exact ⟨H1,s1,I2,hq⟩
 | ok fl =>
  cases fl with
  | ret u=>exact I2.after hq
  | next=>exact False.elim hq
  | brk=>exact False.elim hq
  | cont=>exact False.elim hq
end
def VE:List Value:=[.type "ValueError",.type "Exception",.type "BaseException",.type "object"]
def sJ (K:PySem.W.Frag) (C:Addr):Prop:=PySem.W.excIn K C VE "ValueError.__new__"=true
theorem AU {K:PySem.W.Frag} {h:Heap} {C:Addr} (q:sJ K C) (X:K.In h):∃ bm N nm q bs hdct sn sub ab col dd k0 k1 k2 k3 k5 mN,h.get? C=some (excClassObj nm q C N bs bm hdct sn sub ab col dd k0 k1 k2 k3 k5 "ValueError.__new__")∧h.Ns N mN∧mN "__init__"=none∧OwnTail h VE bm:=by
 unfold sJ PySem.W.excIn at q
 split at q
 ·rename_i dd cd sl ho
  split at q
  ·rename_i C' bm k0 k1 k2 k3 n k5 hm hs
   simp only [Bool.and_eq_true,beq_iff_eq,Bool.not_eq_true'] at q
   obtain ⟨⟨⟨⟨⟨rfl,rfl⟩,hdel⟩,ht⟩,hok⟩,hni⟩:=q
   obtain ⟨nm,bs,mro,ns,qn,hd,sn,sub,ab,col,del⟩:=cd
   dsimp only at hm hdel hok hni
   subst hm hdel
   have hsl:sl=#[k0,k1,k2,k3,some (.builtin "ValueError.__new__"),k5]:=by
    obtain ⟨l⟩:=sl
    simp only at hs
    rw [hs]
   subst hsl
   exact ⟨bm,ns,nm,qn,bs,hd,sn,sub,ab,col,dd,k0,k1,k2,k3,k5,_,X _ _ ho,.of_isNs (PySem.W.isNs_of_in X hok),PySem.W.nsMap_none_of_in X hok hni,PySem.W.tail_of_in X ht⟩
  ·cases q
 ·cases q
def Ah (E:XK) (C:Addr):TS:=fun _ _ H=>E (.ref C) none H
theorem nG {X:Cx} {E:XK} {x:Str} {C:Addr} {np cpos pos:Pos} (hs:yg X E) (hc:X.calm=true) (hg:Gl X x) (hm:X.mg x=some (.ref C)) (q:sJ X.K C) (hd:(x == ("__debug__":Str))=false:=by decide) :
  PS X (.Raise (some (.Call (.Name x np) [] [] cpos)) none pos) (Ah E C):=by
 intro pins s σ H D I h
 obtain ⟨tl,N,nm,q,bs,hdct,sn,sub,ab,col,dd,k0,k1,k2,k3,k5,mN,hC,hN,hni,T⟩:=AU q I.kIn
 refine wpAny_Raise_call_subT (C:=C) (nm:=nm) (q:=q) (N:=N) (bs:=bs) (bm:=tl) (hdct:=hdct) (sn:=sn) (sub:=sub) (ab:=ab) (col:=col) (dd:=dd) (k0:=k0) (k1:=k1) (k2:=k2) (k3:=k3) (k5:=k5)
  PySem.F.excBase_ValueError (mN:=mN) (T.hasType PySem.F.excBase_ValueError.hasBase) (I.ok.hd hc) rfl hni (fG I hg hm ⟨rfl,?_⟩ hd)
 refine evalArgs_empty ⟨rfl,Nat.zero_le _,hC,hN,T,fun h' e made=>?_⟩
 obtain ⟨t,ht,_,_⟩:=made.there
 exact hs pins σ H s h' e C #[] _ I made.keeps made.new ht rfl h
end L2
namespace L2
open PySem PySem.Spec PyProof.Rows
abbrev TSX:=Ends→XK→St→Hp→Prop
def PSX (X:Cx) (st:Stmt) (t:TSX):Prop :=
 ∀ (pins:List (Addr×Obj)) (s:Shared) (σ:St) (H:Hp) (D:Ends) (E:XK),Inv X pins σ H s→t D E σ H→wpAny (model X.prog X.w) X.A (exec st X.env) (SP X pins D) (FX X pins σ E) s
section
variable {X:Cx} {e:Expr} {tx:TX} {pos:Pos}
def BM (tx:TX):TSX:=fun D E σ H=>tx σ H (fun _ H1=>D.nx σ H1) E
theorem xt (he:PX X e tx) (hs:swapsWith e none pos.line X.env=pure false:=by rfl):PSX X (.Expr e pos) (BM tx):=by
 intro pins s σ H D E I h
 exact wpAny_Expr_any (thn (he pins s σ H _ E I h) fun v s1 ⟨x,H1,I1,r1,q1⟩=>⟨σ,H1,I1,q1⟩) I.quiet hs
def E2 (tx:TX):TSX:=fun D E σ H=>tx σ H D.rt E
def E4 (i:Nat) (tx:TX):TSX:=fun D E σ H=>tx σ H (fun v H1=>D.nx (σ.set i (some v)) H1) E
end
def ExO (a C:Addr) (d:Option Addr):HO:=.ext fun h=>∃ vs sl,h.get? a=some ⟨.ref C,d,.fields vs,sl⟩
theorem BG {P:Program} {w:World} {H:Hp} {h:Heap} {a C:Addr} {d:Option Addr} {vs:Array Value} {sl:Array (Option Value)} (e:h.get? a=some ⟨.ref C,d,.fields vs,sl⟩):ObjOk P w H h a (ExO a C d) :=
 ⟨⟨vs,sl,e⟩,⟨_,e⟩,fun _ _ ⟨vs,sl,q⟩ k=>⟨vs,sl,k _ q⟩⟩
section
variable {P:Program} {w:World} {outer:List Env} {H H':Hp} {g B h:Heap} {x C:Addr} {d:Option Addr}
theorem Fly.fresh (F:Fly P w outer H H' g B x C d h):g.get? x=none:=by
 obtain ⟨vs,⟨bx,sl,ex⟩,_⟩:=F.exc
 cases q:g.get? x with
 | none=>rfl
 | some o =>
  obtain ⟨o',z⟩:=F.cov x o q (ik F.funs ex rfl)
  rw [z] at bx
  cases bx
theorem Fly.track (F:Fly P w outer H H' g B x C d h):Un (frs outer) [] H (upd H' x (ExO x C d)) g h∧HOk P w (upd H' x (ExO x C d)) h:=by
 have nx:=F.noX
 have gx:=F.fresh
 obtain ⟨vs,⟨_,sl,ex⟩,_⟩:=F.exc
 have ne:∀ b o,H' b=some o→b≠x:=fun b o e=>aM e nx
 refine ⟨⟨F.un.keep,F.un.slot,fun b o e n hx=>?_,F.un.there,fun b xs e=>?_,fun b o u e=>?_,fun b ps e=>?_⟩,fun b o e=>?_⟩
 ·have hb:b≠x:=fun z=>by rw [z,gx] at e; cases e
  rw [aC hb]
  exact F.un.free b o e n hx
 ·have q:=F.un.tups b xs e
  rw [aC (ne b _ q)]
  exact q
 ·have q:=F.un.frzs b o u e
  rw [aC (ne b _ q)]
  exact q
 ·obtain ⟨m,q⟩:=F.un.tbls b ps e
  exact ⟨m,by rw [aC (ne b _ q)]; exact q⟩
 ·by_cases hb:b=x
  ·subst hb
   rw [ah] at e
   cases e
   exact BG ex
  ·rw [aC hb] at e
   exact (F.hok b o e).stay (fun _ _ _ q=>q) (fun c q=>by rw [aC (ne c _ q)]; exact q) fun c xs q=>by rw [aC (ne c _ q)]; exact q
end
abbrev Cx.held (X:Cx) (x:Addr):Cx:={ X with A:=X.A.mark (some (.ref x)),calm:=false,xe:=fun _ _=>False }
section
variable {X:Cx} {pins:List (Addr×Obj)} {σ:St} {H:Hp} {s:Shared} {x:Addr}
theorem Inv.held (I:Inv X pins σ H s) (x:Addr):Inv (X.held x) pins σ H s :=
 ⟨⟨I.ok.mod,I.ok.kind,I.ok.glob,I.ok.blt,I.ok.above,I.ok.inj,I.ok.has,I.ok.cab,(fun z=>nomatch z),I.ok.frames,I.ok.stk,I.ok.exf,I.ok.bs,I.ok.bsz,I.ok.noex,I.ok.exfs,I.ok.funs,I.ok.frf⟩,
  I.os,I.bare,I.base,I.loc,I.cell,I.free,I.freeC,I.pin,I.hok,I.len⟩
theorem Inv.unheld (ok:X.Ok) (I:Inv (X.held x) pins σ H s):Inv X pins σ H s:=⟨ok,I.os,I.bare,I.base,I.loc,I.cell,I.free,I.freeC,I.pin,I.hok,I.len⟩
theorem SP.unheld (ok:X.Ok) {D:Ends} {f:Flow} {s':Shared} (h:SP (X.held x) pins D f s'):SP X pins D f s':=by
 cases f with
 | next=>obtain ⟨σ',H',I,q⟩:=h; exact ⟨σ',H',I.unheld ok,q⟩
 | brk=>obtain ⟨σ',H',I,q⟩:=h; exact ⟨σ',H',I.unheld ok,q⟩
 | cont=>obtain ⟨σ',H',I,q⟩:=h; exact ⟨σ',H',I.unheld ok,q⟩
 | ret u=>obtain ⟨v,σ',H',I,r,q⟩:=h; exact ⟨v,σ',H',I.unheld ok,r,q⟩
theorem xf {E:XK} {e:Value} {s':Shared} {R:Value→Shared→Prop} {Ee:Value→Shared→Prop} (hst:X.stack=X.env::X.outer) (hf:X.env.frame=some X.env.locals) (h:FX X pins σ E e s')
  (k:∀ (x C:Addr) (d:Option Addr) (H1 H':Hp) (s1 s'':Shared) (B:Heap),e=.ref x→Inv X pins σ H1 s1→s''.os=s1.os→AllBare s''.gens→Fly X.prog X.w X.stack H1 H' s1.heap B x C d s''.heap→E (.ref C) d H'→R e s'') :
  wpAny (model X.prog X.w) X.A (noteFrame e X.env) (fun _ s2=>wpAny (model X.prog X.w) X.A (setFlight e none) (fun _ s3=>R e s3) Ee s2) Ee s':=by
 obtain ⟨H1,s1,I1,x,C,d,H',B,rfl,os,bare,F,q⟩:=h
 have hfr:X.A.frames=some (X.env::X.outer):=by rw [I1.ok.frames,hst]
 obtain ⟨vs,xa,ta⟩:=F.exc
 have fu:=F.funs
 rw [hst] at fu
 refine ni hfr hf F.stay fu xa (.inr ta) fun g1 ws _ xa1 ta1 m1=>?_
 refine gY (s:={ s' with heap:=g1 }) m1.stay m1.funs xa1 ta1 fun g2 xa2 ta2 m2=>?_
 have m:=m1.trans m2
 rw [← hst] at m
 exact k x C d H1 H' s1 _ B rfl I1 os bare (F.moved m xa2 ta2) q
theorem uT {C:Addr} {d:Option Addr} {H1 H':Hp} {s1 s':Shared} {B:Heap} {R:Shared→Prop} {A:Around} {Ee:Value→Shared→Prop} (F:Fly X.prog X.w X.stack H1 H' s1.heap B x C d s'.heap)
  (k:∀ h',Fly X.prog X.w X.stack H1 H' s1.heap B x C d h'→R { s' with heap:=h' }):wpAny (model X.prog X.w) A (setFlight (.ref x) none) (fun _ s3=>R s3) Ee s':=by
 obtain ⟨vs,xa,ta⟩:=F.exc
 exact gY F.stay F.funs xa ta fun h' xa' ta' m=>k h' (F.moved m xa' ta')
end
theorem B5 {M:Model} {P:Program} {w:World} {outer:List Env} {H H':Hp} {g B h:Heap} {x C:Addr} {d:Option Addr} (F:Fly P w outer H H' g B x C d h):PySem.W.Looks M h (typeOf (.ref x)) (.ref C):=by
 obtain ⟨vs,⟨_,sl,ex⟩,_⟩:=F.exc
 exact (PySem.W.Looks.ld ex).andThen .now
section
variable {X:Cx} {st b0:Stmt} {suite:List Stmt} {c n:Str} {C0:Addr} {np hpos pos:Pos} {tb:TSX} {ts:TS}
def ED (K:PySem.W.Frag) (C0:Addr) (tb:TSX) (ts:TS):TS:=fun D σ H=>tb D (fun c d H'=>PySem.W.exmOne K c (.ref C0)=some true∧∀ a C,c=.ref C→H' a=none→ts D σ (upd H' a (ExO a C d))) σ H
theorem Bp (hst:X.stack=X.env::X.outer) (hf:X.env.frame=some X.env.locals) (hg:Gl X c) (hm:X.mg c=some (.ref C0)) (hb:PSX X st tb) (hs:∀ x,PSs (X.held x) (b0::suite) ts) (hd:(c == ("__debug__":Str))=false:=by decide) :
  PS X (.Try [st] [.ExceptHandler (some (.Name c np)) none (b0::suite) hpos] [] [] pos) (ED X.K C0 tb ts):=by
 intro pins s σ H D I h
 refine wpAny_Try_except (wpAny_execs_cons (wpAny_mono (hb pins s σ H D _ I h) (fun fl s1 q=>?_) fun e s1 q=>?_))
 ·cases fl with
  | next=>exact wpAny_execs_nil (wpAny_execs_nil q)
  | ret v=>exact q
  | brk=>exact q
  | cont=>exact q
 refine xf (R:=fun e s3=>wpAny (model X.prog X.w) X.A (handleBy e X.env [.ExceptHandler (some (.Name c np)) none (b0::suite) hpos]) (SP X pins D) X.xe s3) hst hf q fun x C d H1 H' s1 s'' B ee I1 os bare F ⟨hx,q2⟩=>?_
 subst ee
 obtain ⟨un,hok⟩:=F.track
 have I2:Inv X pins σ (upd H' x (ExO x C d)) s'':=I1.call' os un hok bare (fun b hb=>nomatch hb)
 refine wpAny_handleBy_cons (codeAny_handlers_test (fG (X:=X.held x) (I2.held x) hg hm ?_ hd)) (by intro q; cases q)
 refine PySem.W.Looks.here (PySem.W.exm_one I2.kIn (B5 F) hx) ?_
 refine codeAny_handlers_suite (uT (X:=X) F fun h' F'=>?_)
 obtain ⟨un',hok'⟩:=F'.track
 have I3:Inv X pins σ (upd H' x (ExO x C d)) { s'' with heap:=h' }:=I1.call' os un' hok' bare (fun b hb=>nomatch hb)
 refine wpAny_mono (hs x pins _ σ _ D (I3.held x) (q2 x C rfl F.noX)) (fun fl s3 q3=>?_) fun _ _ z=>z.elim
 exact q3.unheld I.ok
end
end L2
namespace L2
open PySem PySem.Spec PyProof.Rows
section
variable {X:Cx} {pins:List (Addr×Obj)} {σ:St} {H:Hp} {s:Shared}
end
section
variable {X:Cx} {st b0:Stmt} {suite:List Stmt} {c n:Str} {C0:Addr} {np hpos pos:Pos} {tb:TSX} {ts:TS} {i:Nat}
def Ends.forget (D:Ends) (i:Nat):Ends:={ nx:=fun σ H=>D.nx (σ.set i none) H,rt:=D.rt,bk:=fun σ H=>D.bk (σ.set i none) H,ct:=fun σ H=>D.ct (σ.set i none) H }
def DX (K:PySem.W.Frag) (C0:Addr) (i:Nat) (tb:TSX) (ts:TS):TS:=fun D σ H=>tb D (fun c d H'=>PySem.W.exmOne K c (.ref C0)=some true∧∀ a C,c=.ref C→H' a=none→ts (D.forget i) (σ.set i (some (.ref a))) (upd H' a (ExO a C d))) σ H
end
end L2
namespace L2
open PySem PySem.Spec PyProof.Rows PySem.W
structure XCls (K:PySem.W.Frag) (C:Addr):Prop where
 ga:findIn K (.ref C) "__getattribute__"=some (some (.builtin "BaseException.__getattribute__"))
 gh:findIn K (.ref C) "__getattr__"=some none
 bx:subIn K (.ref C) (.type "BaseException")=some true
 hd:hasDictIn K C=true
 ca:findIn K (.ref C) "__class__"=some (some (.builtin "object.__class__"))
 cg:specialIn K (.builtin "object.__class__") "__get__"=some (some (.builtin "getset_descriptor.__get__"))
 ct:takesIn K (.builtin "object.__class__")=some true
 ob:mroIn K C (.type "object")=some true
section
variable {prog:Program} {w:World} {A:Around} {E:Value→Shared→Prop} {s:Shared} {K:PySem.W.Frag} {x C:Addr} {ox:Obj} {od:Option Obj} {name:Str} {tk:Tok}
end
end L2
namespace L2
open PySem PySem.Spec PyProof.Rows
def C3 (H:Hp) (d:Option Addr):Prop:=d=none∨∃ dx fs,d=some dx∧H dx=some (.xd fs)
section
variable {X:Cx} {pins:List (Addr×Obj)} {σ:St} {H:Hp} {s:Shared}
def FQ (K:PySem.W.Frag):List V→Hp→VK→Prop:=fun xs H Q=>∃ (a C:Addr) (d:Option Addr) (c:V) (u:Value) (b:Bool),xs=[.ref a,c]∧H a=some (ExO a C d)∧C3 H d∧XCls K C∧(∀ u',RelV c u'→u'=u)∧PySem.W.kitOne K (.ref C) u=some b∧Q (.bl b) H
end
theorem aW {σ:St} {H:Hp} {A B:Hp→Prop} (h:A H):Ba σ H (fun b H4=>if b=true then A H4 else B H4):=bc (A:=A H) (B:=B H) h
theorem w6 {X:Cx} {K:PySem.W.Frag} {tg:Expr} (hK:X.K=K) {l:Expr} {tl:TE} (hl:PE X l tl):PI X tg l (Bf K tl):=hK▸gP hl
theorem nj {X:Cx} {K:PySem.W.Frag} (hK:X.K=K):IxR X (Bs K):=hK▸aE
theorem fJ {X:Cx} {K:PySem.W.Frag} (hK:X.K=K):IxR X (BZ K):=hK▸aT
end L2
namespace L2
open PySem PySem.Spec PyProof.Rows
def notStar:Expr→Bool
 | .Starred ..=>false
 | _=>true
section
variable {X:Cx} {e:Expr} {es:List Expr} {te:TE} {t:TA} {x:Str} {p pos:Pos} {id T:String} {r:List V→Hp→VK→Prop} {k j:Nat} {ps:List Str} {sp:Sp}
end
end L2
namespace L2
open PySem PySem.Spec PyProof.Rows
theorem FunAt.calX {P:Program} {w:World} {K:PySem.W.Frag} {h base:Heap} {mg:Str→Option Value} {x:Str} {st:Stmt} {ps:List Str} {k:Nat} {sp:Sp} (F:FunAt K x st) (X:K.In h) (G:h.Ns mainGlobals mg)
  (hb:∀ (kV doc pm:Value) (an:Option Addr) (cdv ct:Value) (us:List Value),us.length=ps.length→bindArgs (PySem.W.fnOf x x (dP st) (cW st) (ar st) .none kV doc pm an cdv ct) ⟨us,[]⟩=pure (ps.zip us))
  (ok:∀ (f:Addr) (fd:FuncData),Fun K x x st f fd→FnOk P w K mg base (CXE P w) k f fd ps sp):CalX P w K mg base k x ps sp:=by
 obtain ⟨f,fd,F1,a⟩:=F.ex
 exact ⟨f,fd,ok f fd F1,F1.binds hb,F1.kp,PySem.W.mg_of X G a⟩
end L2
namespace L2
open PySem PySem.Spec PyProof.Rows
inductive EqH (K:PySem.W.Frag) (H:Hp):Nat→V→V→Bool→Prop
 | flat {n:Nat} {x y:V} (fx:et x=true) (fy:et y=true):EqH K H n x y (eqV x y)
 | same {n:Nat} {a:Addr}:EqH K H n (.ref a) (.ref a) true
 | lst {n:Nat} {a b:Addr} {xs ys:List V} (e:Nat→Bool) (hne:a≠b) (ha:SqL K H a xs) (hb:SqL K H b ys) (hl:xs.length=ys.length) (he:∀ (i:Nat) x y,xs[i]?=some x→ys[i]?=some y→EqH K H n x y (e i)):EqH K H (n+1) (.ref a) (.ref b) ((List.range xs.length).all e)
 | len {n:Nat} {a b:Addr} {xs ys:List V} (hne:a≠b) (ha:SqL K H a xs) (hb:SqL K H b ys) (hl:¬ xs.length=ys.length):EqH K H (n+1) (.ref a) (.ref b) false
 | tup {n:Nat} {a b:Addr} {xs ys:List V} (e:Nat→Bool) (hne:a≠b) (ha:SqT K H a xs) (hb:SqT K H b ys) (he:∀ (i:Nat) x y,xs[i]?=some x→ys[i]?=some y→EqH K H n x y (e i)):EqH K H (n+1) (.ref a) (.ref b) ((List.range (min xs.length ys.length)).all e && xs.length == ys.length)
theorem IsTup.tup {h:Heap} {a:Addr} {its:Array Value} (t:IsTup h a its):h.IsTuple a its:=by
 obtain ⟨o,h1,h2,h3⟩:=t
 exact ⟨o,h1,h2,h3⟩
section
variable {X:Cx} {pins:List (Addr×Obj)} {σ:St} {H:Hp} {s:Shared}
theorem kT {A:Around} {xs ys:List V} {us ws:List Value} {e:Nat→Bool} (r:Vals xs us) (r':Vals ys ws) (he:∀ (i:Nat) x y u v,xs[i]?=some x→ys[i]?=some y→RelV x u→RelV y v→SeqAt.EqAt A s u v (e i)) :
  ∀ j (h1:j<us.toArray.size) (h2:j<ws.toArray.size),SeqAt.EqAt A s us.toArray[j] ws.toArray[j] (e j):=fun j h1 h2=>by
 have l1:=r.length
 have l2:=r'.length
 simp only [List.size_toArray] at h1 h2
 have e1:xs[j]?=some xs[j]:=List.getElem?_eq_getElem (by omega)
 have e2:ys[j]?=some ys[j]:=List.getElem?_eq_getElem (by omega)
 obtain ⟨u,hu,ru⟩:=r.get e1
 obtain ⟨v,hv,rv⟩:=r'.get e2
 have eu:us.toArray[j]=u:=by
  have:us[j]?=some us[j]:=List.getElem?_eq_getElem h1
  rw [this] at hu
  exact Option.some.inj hu
 have ev:ws.toArray[j]=v:=by
  have:ws[j]?=some ws[j]:=List.getElem?_eq_getElem h2
  rw [this] at hv
  exact Option.some.inj hv
 rw [eu,ev]
 exact he j _ _ _ _ e1 e2 ru rv
theorem EqH.at (I:Inv X pins σ H s) {n:Nat} {x y:V} {b:Bool} (h:EqH X.K H n x y b):∀ {A:Around} {u v:Value},A.units+n<cLine→RelV x u→RelV y v→SeqAt.EqAt A s u v b:=by
 induction h with
 | flat fx fy=>intro A u v hu rx ry; exact rK rx ry fx fy
 | same=>intro A u v hu rx ry; cases rx; cases ry; exact SeqAt.EqAt.same _
 | @lst n a b xs ys e hne ha hb hl he ih =>
  intro A u v hu rx ry
  cases rx
  cases ry
  obtain ⟨us,r1,p1,_⟩:=I.list ha
  obtain ⟨ws,r2,p2,_⟩:=I.list hb
  have l1:=r1.length
  have l2:=r2.length
  have:=SeqAt.EqAt.of_refs hne (SeqAt.RcAt.lists p1.isList p2.isList (by simp only [List.size_toArray]; omega) (by omega) (kT (A:=A.in1) r1 r2 fun i x y u v e1 e2 ru rv=>ih i x y e1 e2 (by show A.units+1+n<cLine; omega) ru rv))
  rw [List.size_toArray,← l1] at this
  exact this
 | @len n a b xs ys hne ha hb hl =>
  intro A u v hu rx ry
  cases rx
  cases ry
  obtain ⟨us,r1,p1,_⟩:=I.list ha
  obtain ⟨ws,r2,p2,_⟩:=I.list hb
  have l1:=r1.length
  have l2:=r2.length
  exact SeqAt.EqAt.of_refs hne (SeqAt.RcAt.lists_lengths p1.isList p2.isList (by simp only [List.size_toArray,bne_iff_ne]; omega) (by omega))
 | @tup n a b xs ys e hne ha hb he ih =>
  intro A u v hu rx ry
  cases rx
  cases ry
  obtain ⟨us,r1,p1,_⟩:=I.tuple ha
  obtain ⟨ws,r2,p2,_⟩:=I.tuple hb
  have l1:=r1.length
  have l2:=r2.length
  have:=SeqAt.EqAt.of_refs hne (SeqAt.RcAt.tuples (e:=e) (IsTup.tup p1) (IsTup.tup p2) (by omega) (kT (A:=A.in1) r1 r2 fun i x y u v e1 e2 ru rv=>ih i x y e1 e2 (by show A.units+1+n<cLine; omega) ru rv))
  rw [List.size_toArray,List.size_toArray,← l1,← l2] at this
  exact this
def EL (K:PySem.W.Frag) (neg:Bool):R2:=fun x y H Q=>∃ (n:Nat) (b:Bool) (p q:Addr),x=.ref p∧y=.ref q∧p≠q∧n≤32∧EqH K H n x y b∧Q (.bl (if neg then !b else b)) H
theorem tN (hu:X.A.units+64<cLine):OpR X (compareOp .Eq) (EL X.K false):=by
 intro pins s σ H x y v u Q I rx ry h
 obtain ⟨n,b,p,q,rfl,rfl,hpq,hn,he,hq⟩:=h
 cases rx
 cases ry
 cases he with
 | flat fx fy=>cases fx
 | same=>exact absurd rfl hpq
 | lst e hne ha hb hl he =>
  obtain ⟨us,r1,p1,_⟩:=I.list ha
  obtain ⟨ws,r2,p2,_⟩:=I.list hb
  have l1:=r1.length
  have l2:=r2.length
  refine SeqAt.eq_listAt p1.isList p2.isList (by simp only [List.size_toArray]; omega) (by omega) (kT r1 r2 fun i x y u v e1 e2 ru rv=>(he i x y e1 e2).at I (by show X.A.units+1+_<cLine; omega) ru rv) ⟨.bl _,H,I,?_,hq⟩
  show Value.bool _=Value.bool _
  rw [List.size_toArray,← l1]
  rfl
 | len hne ha hb hl =>
  obtain ⟨us,r1,p1,_⟩:=I.list ha
  obtain ⟨ws,r2,p2,_⟩:=I.list hb
  have l1:=r1.length
  have l2:=r2.length
  exact SeqAt.eq_list_lengthsAt p1.isList p2.isList (by simp only [List.size_toArray,bne_iff_ne]; omega) (by omega) ⟨.bl _,H,I,rfl,hq⟩
 | tup e hne ha hb he =>
  obtain ⟨us,r1,p1,_⟩:=I.tuple ha
  obtain ⟨ws,r2,p2,_⟩:=I.tuple hb
  have l1:=r1.length
  have l2:=r2.length
  refine SeqAt.eq_tupleAt (e:=e) (IsTup.tup p1) (IsTup.tup p2) (by omega) (kT r1 r2 fun i x y u v e1 e2 ru rv=>(he i x y e1 e2).at I (by show X.A.units+1+_<cLine; omega) ru rv) ⟨.bl _,H,I,?_,hq⟩
  show Value.bool _=Value.bool _
  rw [List.size_toArray,List.size_toArray,← l1,← l2]
  rfl
end
end L2
namespace L2
open PySem PySem.Spec PyProof.Rows
def sX {α:Type} (l:List α) (lo hi:Option Int):List α:=(l.drop (HT.sIx l.length 0 lo)).take (HT.sIx l.length l.length hi - HT.sIx l.length 0 lo)
theorem qD (v:Option Int) (n d:Nat):(match v with | none=>((d:Nat):Int) | some i=>max 0 (min (if i<0 then i+(n:Int) else i) (n:Int)))=((HT.sIx n d v:Nat):Int):=by
 cases v with
 | none=>rfl
 | some i =>
  show max 0 (min (if i<0 then i+(n:Int) else i) (n:Int))=(((if i<0 then (i+(n:Int)).toNat else min i.toNat n):Nat):Int)
  by_cases h:i<0
  ·simp only [if_pos h]; omega
  ·simp only [if_neg h]; omega
theorem B6 (lo hi:Option Int) (n:Nat):Builtin.Str.strSliceIndices lo hi 1 n=sliceRange ((HT.sIx n 0 lo:Nat):Int) ((HT.sIx n n hi:Nat):Int) 1:=by
 unfold Builtin.Str.strSliceIndices
 simp only [show (1:Int) > 0 by decide,if_true]
 rw [← qD lo n 0,← qD hi n n]
 rfl
theorem gm (x:Str) (lo hi:Option Int):(Txt.slice x lo hi).cps.toList=sX x.cps.toList lo hi:=by
 have hn:x.cps.toList.length=x.length:=by simp [Str.length]
 unfold Txt.slice sX
 rw [B6,sliceRange_one,hn]
 generalize ha:HT.sIx x.length 0 lo=a
 generalize hb:HT.sIx x.length x.length hi=b
 have hb':b≤x.length:=by rw [← hb]; exact HT.y4 _ _ (Nat.le_refl _) _
 split
 ·rename_i h
  simp only [List.length_map,List.length_range,Bool.and_eq_true,beq_iff_eq] at h
  by_cases hz:x.length=0
  ·have e:x.cps.toList=[]:=List.length_eq_zero_iff.mp (by omega)
   rw [e]
   simp
  ·have e1:a=0:=by omega
   have e2:b=x.length:=by omega
   subst e1 e2
   rw [List.drop_zero,Nat.sub_zero,List.take_of_length_le (by omega)]
 ·rw [pick_run]
theorem bj (x:Str):x.cps.toList.length=x.length:=by simp [Str.length]
section
variable {X:Cx}
def Et:V→Option Int→Option Int→Hp→VK→Prop:=fun x lo hi H Q=>∃ z,x=.str z∧z.length≤sizeLine∧Q (.str (Txt.slice z lo hi)) H
theorem part_of {v:Value} {o:Option Int} (p:IsPart v o):∃ l:Option (Int×Tok),v=partValue l∧l.map (·.1)=o:=by
 cases p with
 | none=>exact ⟨none,rfl,rfl⟩
 | int i t=>exact ⟨some (i,t),rfl,rfl⟩
theorem tP:SlR X Et:=by
 intro pins s σ H x v vl vu lo hi sl Q I rx hs pl pu h
 obtain ⟨z,rfl,hz,q⟩:=h
 obtain ⟨t,rfl⟩:=rx
 obtain ⟨l,e1,e2⟩:=part_of pl
 obtain ⟨u,e3,e4⟩:=part_of pu
 refine ⟨"str",_,PySem.F.slot_str_getitem.lookup,typeIs_str _ _ _,?_⟩
 obtain ⟨o,h1,h2,h3⟩:=hs
 subst e1 e3 e2 e4
 refine wpAny_getItem_str_slice (l:=l) (u:=u) (st:=none) ⟨o,h1,h2,h3⟩ rfl ?_
 refine post_val_or_str ⟨Nat.le_trans (Txt.slice_le z _ _) hz,fun t' k=>?_⟩
 exact ⟨.str _,H,I.tok _,⟨_,rfl⟩,q⟩
end
end L2
namespace L2
open PySem PySem.Spec PyProof.Rows
section
variable {prog:Program} {w:World} {A:Around} {E:Value→Shared→Prop} {s:Shared}
theorem qV {it t:Addr} {i:Nat} {its:Array Value} {x:Value} {Q:Value→Shared→Prop} (a:s.heap.IsTupleIter it t i) (b:s.heap.IsTuple t its) (c:its[i]?=some x) (d:∀ h',h'.IsTupleIter it t (i+1)→Heap.SameBut it s.heap h'→Q x { s with heap:=h' }):wpAny (model prog w) A (Builtin.SmallTypes.nextOf (.ref it)) Q E s:=by
 obtain ⟨u,e1,e2,e3⟩:=id a
 obtain ⟨v,f1,_,m,f3⟩:=b
 unfold Builtin.SmallTypes.nextOf
 refine wpAny_bind (wpAny_callSpecial?_slot (name:=Str.ofString "__next__") a.typeIs F.slot_tuple_iterator_next (wpAny_call_entry F.slot_tuple_iterator_next a.typeIs F.entry_tuple_iterator_next ?_ (F.args_tuple_iterator_next_1 _)))
 show wpAny _ _ (field (.ref it) 0 >>= _) _ _ s; refine wpAny_bind (wpAny_field e1 e3 (x:=.ref t) rfl ?_)
 show wpAny _ _ (if (Value.ref t == Value.none)=true then _ else _) _ _ s; rw [if_neg (show ¬ ((Value.ref t == Value.none)=true) from Bool.false_ne_true)]
 show wpAny _ _ (field (.ref it) 1 >>= _) _ _ s; refine wpAny_bind (wpAny_field e1 e3 (x:=.int i 0) rfl ?_)
 show wpAny _ _ (seqItems? (.ref t) >>= _) _ _ s; refine wpAny_bind (wpAny_seqItems f1 f3 ?_)
 simp only [Int.toNat_natCast,c]
 refine wpAny_bind (wpAny_setField e1 e3 (by simp) (wpAny_pure ⟨x,rfl,wpAny_pure (d _ ⟨_,Heap.get?_update_self _ e1 (Obj.isFreed_of_fields (Obj.data_mapFields e3 _)),(Obj.cls_mapFields ..).trans e2,?_⟩ (Heap.SameBut.update ..))⟩))
 rw [Obj.data_mapFields e3]; simp [rawInt]
theorem uC {it t:Addr} {i:Nat} {its:Array Value} {Q:Value→Shared→Prop} (hh:A.handled=none) (a:s.heap.IsTupleIter it t i) (b:s.heap.IsTuple t its) (c:its[i]?=none)
  (d:∀ h' e,Heap.ExtBut it s.heap h'→(∃ o,h'.get? e=some o∧o.cls=.type "StopIteration")→E (.ref e) { s with heap:=h' }):wpAny (model prog w) A (Builtin.SmallTypes.nextOf (.ref it)) Q E s:=by
 obtain ⟨u,e1,e2,e3⟩:=id a
 obtain ⟨v,f1,_,m,f3⟩:=b
 unfold Builtin.SmallTypes.nextOf
 refine wpAny_bind (wpAny_callSpecial?_slot (name:=Str.ofString "__next__") a.typeIs F.slot_tuple_iterator_next (wpAny_call_entry F.slot_tuple_iterator_next a.typeIs F.entry_tuple_iterator_next ?_ (F.args_tuple_iterator_next_1 _)))
 show wpAny _ _ (field (.ref it) 0 >>= _) _ _ s; refine wpAny_bind (wpAny_field e1 e3 (x:=.ref t) rfl ?_)
 show wpAny _ _ (if (Value.ref t == Value.none)=true then _ else _) _ _ s; rw [if_neg (show ¬ ((Value.ref t == Value.none)=true) from Bool.false_ne_true)]
 show wpAny _ _ (field (.ref it) 1 >>= _) _ _ s; refine wpAny_bind (wpAny_field e1 e3 (x:=.int i 0) rfl ?_)
 show wpAny _ _ (seqItems? (.ref t) >>= _) _ _ s; refine wpAny_bind (wpAny_seqItems f1 f3 ?_)
 simp only [Int.toNat_natCast,c]
 refine wpAny_bind (wpAny_rule (wpAny_bind (wpAny_setField e1 e3 (by simp) ?_)))
 show wpAny _ _ (newExc (.type "StopIteration") [] >>= _) _ _ _; refine wpAny_bind ?_
 simp only [newExc,newTuple]; refine wpAny_bind (wpAny_newObj_type ?_ (by size_fits))
 refine wpAny_bind (m:=firstArgMember _ _) (wpAny_of_eq (a:=Value.none) (by first | rfl | (simp only [firstArgMember]; rfl)) (wpAny_newObj_type ?_ (by size_fits)))
 simp only [raiseNew]; refine wpAny_bind (wpAny_handled ?_)
 rw [show A.in1.handled=none from hh]
 exact wpAny_bind (wpAny_pure (wpAny_throw (d _ _ (((Heap.SameBut.update ..).extBut.push _).push _) ⟨_,Heap.get?_push_size _ rfl,rfl⟩)))
theorem wU (hh:A.handled=none) (it t:Addr) (hne:t≠it) (its:Array Value):Draws prog w A it [it,t] its.size (fun i v=>its[i]?=some v) (fun i h=>h.IsTupleIter it t i∧h.IsTuple t its) where
 live:=fun _ _ st=>by
  obtain ⟨⟨o,e,_⟩,_⟩:=st
  exact ⟨o,e⟩
 frame:=fun _ _ _ st k=>by
  obtain ⟨⟨o,e,r⟩,⟨o2,e2,r2⟩⟩:=st
  exact ⟨⟨o,k it (by simp) o e,r⟩,⟨o2,k t (by simp) o2 e2,r2⟩⟩
 item:=fun i s Q E hi st d=>qV st.1 st.2 (x:=its[i]) (by simp [hi]) fun h' a b=>d _ h' s.toks (by simp [hi]) ⟨a,st.2.extBut b.extBut hne⟩ b
 done:=fun s Q E st d=>uC hh st.1 st.2 (by simp) d
theorem rH (l:Addr) (its:Array Value) (n:Nat) (dc:Option Addr) (sl:Array (Option Value)) :
  Meets (Builtin.«enumerate.__new__» ⟨[.type "enumerate",.ref l],[]⟩) (fun _ R s=>s.heap.get? l=some { cls:=.type "tuple",dict:=dc,data:=.seq its n,slots:=sl }∧
   R (.ok (.ret (.ref (s.heap.push { cls:=.type "tuple_iterator",data:=.fields #[.ref l,.int 0 0] }).objs.size)))
    { s with heap:=(s.heap.push { cls:=.type "tuple_iterator",data:=.fields #[.ref l,.int 0 0] }).push { cls:=.type "enumerate",data:=.fields #[.none,.bool false,.ref s.heap.objs.size,rawInt 0,.none,.none] } }) :=
 .of_wp fun prog w A R s h=>by
  obtain ⟨hp,g,d,tk,os⟩:=s; obtain ⟨a1,h⟩:=h
  have sb:=sub_enumerate
  have a2:Heap.IsTuple (Shared.heap ⟨hp,g,d,tk,os⟩) l its:=⟨_,a1,rfl,n,rfl⟩
  wp_walk using AutoSeq1.wpAny_loadPart' a1
  refine wpAny_stack_any fun st=>wpAny_pure ?_
  split
  ·rename_i c _ _ _ _ _
   cases (c == Value.type "enumerate") <;> (wp_walk using AutoSeq1.wpAny_loadPart' a1,wpAny_pyIter_tuple a2; exact ⟨_,rfl,h⟩)
  ·wp_walk using AutoSeq1.wpAny_loadPart' a1,wpAny_pyIter_tuple a2; exact ⟨_,rfl,h⟩
theorem sr {l:Addr} {its:Array Value} {Q:Value→Shared→Prop} (a:s.heap.IsTuple l its)
  (k:∀ h',IsEnum h' (s.heap.objs.size+1) s.heap.objs.size 0 .none→h'.IsTupleIter s.heap.objs.size l 0→h'.objs.size=s.heap.objs.size+2→(∀ b o,s.heap.get? b=some o→h'.get? b=some o)→Q (.ref (s.heap.objs.size+1)) { s with heap:=h' }) :
  wpAny (model prog w) A (call (.type "enumerate") [.ref l]) Q E s:=by
 obtain ⟨⟨c,dc,dt,sl⟩,a1,a2,n,a3⟩:=a
 replace a2:c=.type "tuple":=a2; replace a3:dt=.seq its n:=a3
 subst a2 a3
 refine callType_new F.called_enumerate (by decide) (F.typeCall_enumerate_1 _) (F.newCall_enumerate_1 _) (fun obj=>F.args_object_init_2 obj _) F.entry_enumerate_new (rH l its n dc sl) ⟨a1,?_⟩
 have z:(s.heap.push { cls:=.type "tuple_iterator",data:=.fields #[.ref l,.int 0 0] }).objs.size=s.heap.objs.size+1:=Heap.size_push ..
 show _∧_; rw [z]
 have e:=Heap.get?_push_size (s.heap.push { cls:=.type "tuple_iterator",data:=.fields #[.ref l,.int 0 0] }) (o:={ cls:=.type "enumerate",data:=.fields #[.none,.bool false,.ref s.heap.objs.size,rawInt 0,.none,.none] }) rfl
 rw [z] at e
 exact ⟨⟨_,e,rfl⟩,k _ e ⟨_,Heap.get?_push_of_some _ (Heap.get?_push_size _ rfl),rfl,rfl⟩ (by rw [Heap.size_push,z]) fun b o x=>Heap.get?_push_of_some _ (Heap.get?_push_of_some _ x)⟩
end
def yY (K:PySem.W.Frag) (a:Addr):It :=
 ⟨fun i H=>∃ xs x,SqT K H a xs∧xs[i]?=some x,fun i H v H'=>∃ T x,H T=none∧H'=upd H T (.tup [.int (i:Int),x])∧v=.ref T∧∀ xs,SqT K H a xs→xs[i]?=some x,fun i H=>∃ xs,SqT K H a xs∧xs.length=i⟩
theorem rZ {P:Program} {w:World} {K:PySem.W.Frag} {elts:List Expr} {x1:Nat} {tp:Pos} (a e it:Addr) (hei:e≠it) (hea:e≠a) (hai:a≠it) :
  Turn P w K (.Tuple elts x1 tp) (yY K a) [e,it] e (fun i h=>(∃ old,IsEnum h e it i old)∧h.IsTupleIter it a i) where
 mem:=by simp
 obj:=fun i h st b hb=>by
  obtain ⟨⟨old,he⟩,⟨o,e1,c,d⟩⟩:=st
  rcases List.mem_cons.mp hb with z | z
  ·subst z
   exact ⟨_,he,fun v q=>nomatch q⟩
  ·have z':b=it:=by simpa using z
   subst z'
   exact ⟨o,e1,fun v q=>by rw [d] at q; cases q⟩
 keep:=fun i h h' st k=>⟨st.1.elim fun old he=>⟨old,k e (by simp) _ he⟩,st.2.elim fun o r=>⟨o,k it (by simp) o r.1,r.2⟩⟩
 item:=by
  intro X hP hw hK hc i pins s σ H E I hf st hg
  subst hP hw hK
  obtain ⟨xs,x,hq,hx⟩:=hg
  obtain ⟨its,rv,p,hz⟩:=I.tuple hq
  obtain ⟨u,hu,ru⟩:=rv.get hx
  obtain ⟨⟨old,he⟩,hit⟩:=st
  have hlen:=rv.length
  have hlt:i<its.toArray.size:=by rw [List.size_toArray,← hlen]; exact (List.getElem?_eq_some_iff.mp hx).1
  refine wpAny_pyNext_enum_itemD (wU (A:=X.A.in1) (show X.A.in1.handled=none from I.ok.hd hc) it a hai its.toArray) he ⟨hit,IsTup.tup p⟩ hlt hei (by simp [hei,hea]) fun v h' tk hv ho hst hT hsz hk=>?_
  obtain rfl:v=u:=by
   have:its[i]?=some v:=by simpa using hv
   rw [hu] at this
   exact (Option.some.inj this).symm
  have helt:e<s.heap.objs.size:=Heap.lt_size he
  have hilt:it<s.heap.objs.size:=by obtain ⟨_,q,_⟩:=hit; exact Heap.lt_size q
  refine ⟨_,rfl,?_⟩
  refine wpAny_letOwnedTupleGo_enum ho fun h2 he2 hs2=>?_
  have k2:∀ b o,b∉[e,it]→s.heap.get? b=some o→h2.get? b=some o:=fun b o hb q=>by
   have n1:b≠e:=fun z=>hb (by simp [z])
   have n2:b≠it:=fun z=>hb (by simp [z])
   exact (hs2.2 b n1).trans (hk b o n1 n2 q)
  have t2:h2.get? s.heap.objs.size=some { cls:=.type "tuple",data:=.seq #[.int i tk,v] }:=(hs2.2 _ (Nat.ne_of_gt helt)).trans hT
  have hn:H s.heap.objs.size=none:=I.hok.fresh (Nat.le_refl _)
  have new:ObjOk X.prog X.w (upd H s.heap.objs.size (.tup [.int (i:Int),x])) h2 s.heap.objs.size (.tup [.int (i:Int),x]) :=
   ⟨by simp only [List.length_cons,List.length_nil]; rw [sizeLine_eq]; decide,[.int i tk,v],.cons ⟨_,rfl⟩ (.cons ru .nil),⟨_,t2,rfl,_,rfl⟩⟩
  have I2:Inv X pins σ (upd H s.heap.objs.size (.tup [.int (i:Int),x])) { s with heap:=h2,toks:=tk+1 }:=I.turnedNew k2 hf (Nat.le_refl _) new
  refine ⟨.ref s.heap.objs.size,_,I2,rfl,⟨s.heap.objs.size,x,hn,rfl,rfl,fun ys hy=>by rw [I.tuple_inj hy hq]; exact hx⟩,⟨⟨v,?_⟩,hst.1.elim fun o r=>⟨o,(hs2.2 it hei.symm).trans r.1,r.2⟩⟩,fun b hb=>?_⟩
  ·simpa using he2
  ·have hb1:b≠s.heap.objs.size:=by
    rcases List.mem_cons.mp hb with z | z
    ·rw [z]; exact Nat.ne_of_lt helt
    ·have z':b=it:=by simpa using z
     rw [z']; exact Nat.ne_of_lt hilt
   rw [aC hb1]
   exact (hf b hb).1
 done:=by
  intro X hP hw hK hc i pins s σ H E I hf st hg
  subst hP hw hK
  obtain ⟨xs,hq,hx⟩:=hg
  obtain ⟨its,rv,p,hz⟩:=I.tuple hq
  obtain ⟨⟨old,he⟩,hit⟩:=st
  have e:i=its.toArray.size:=by rw [List.size_toArray,← rv.length]; exact hx.symm
  subst e
  refine wpAny_pyNext_enum_endD (wU (A:=X.A.in1) (show X.A.in1.handled=none from I.ok.hd hc) it a hai its.toArray) he ⟨hit,IsTup.tup p⟩ fun h' eb=>⟨rfl,?_⟩
  exact I.turnedL (t':=s.toks) (fun b o hb q=>eb b o (fun z=>hb (by simp [z])) q) hf
 self:=fun _ _ _ _ _ st h=>by
  obtain ⟨⟨old,he⟩,_⟩:=st
  exact wpAny_pyIter_enum he h
section
variable {X:Cx}
def Bq (K:PySem.W.Frag) (ta:TA):TI:=fun σ H R=>ta σ H fun vs H1=>∃ a,vs=[.ref a]∧(∃ xs,SqT K H1 a xs)∧R (yY K a) H1
theorem p7 {a:Expr} {ta:TA} {p pos tp:Pos} {elts:List Expr} {x1:Nat} (hg:Gl X "enumerate") (hm:X.mg "enumerate"=none) (ha:PA X [a] ta) (hs:starEach [a] X.env=[(false,eval a X.env)]:=by rfl) :
  PI X (.Tuple elts x1 tp) (.Call (.Name "enumerate" p) [a] [] pos) (Bq X.K ta):=by
 intro pins s σ H R I h
 refine Call_ (fL I hg hm boot_enumerate (PyProof.Rows.callWith_type1 (thn (ha pos pins s σ H _ I h) fun us s1 ⟨vs,H1,I1,r1,q1⟩=>?_) hs rfl))
 obtain ⟨l,e,⟨xs,hx⟩,q⟩:=q1
 subst e
 obtain ⟨u,rfl,ru⟩:=vals1 r1
 cases ru
 obtain ⟨its,rv,pl,hz⟩:=I1.tuple hx
 have hl:l<s1.heap.objs.size:=by obtain ⟨o,z,_⟩:=IsTup.tup pl; exact Heap.lt_size z
 refine sr (IsTup.tup pl) fun h' he hit hsz hk=>?_
 refine wpAny_pyIter_enum he ?_
 have hfp:∀ b∈[s1.heap.objs.size+1,s1.heap.objs.size],iF X pins H1 b:=fun b hb=>by
  have hge:s1.heap.objs.size≤b:=by
   rcases List.mem_cons.mp hb with z | z
   ·omega
   ·have z':b=s1.heap.objs.size:=by simpa using z
    omega
  exact I1.fpOk hge (I1.hok.fresh hge)
 exact ⟨s1.heap.objs.size+1,[s1.heap.objs.size+1,s1.heap.objs.size],_,_,H1,rfl,I1.kept (t':=s1.toks) hk,rZ l _ _ (Nat.succ_ne_self _) (Nat.ne_of_gt (Nat.lt_succ_of_lt hl)) (Nat.ne_of_lt hl),⟨⟨_,he⟩,hit⟩,hfp,q⟩
end
theorem nX {K:PySem.W.Frag} {a:Addr} {xs:List V} {g:TG} {tb:TS} {D:Ends} {σ:St} {H:Hp} (Pv:Nat→St→Hp→Prop) (h0:Pv 0 σ H) (hl:∀ i σ H,i≤xs.length→Pv i σ H→SqT K H a xs)
  (hs:∀ i x σ H T,xs[i]?=some x→Pv i σ H→H T=none→g (.ref T) σ (upd H T (.tup [.int (i:Int),x])) fun σ2 H2=>tb { D with nx:=Pv (i+1),ct:=Pv (i+1),bk:=D.nx } σ2 H2) (hd:∀ σ H,Pv xs.length σ H→D.nx σ H) :
  ∃ W:Nat→Nat→St→Hp→Prop,(∃ m,W 0 m σ H)∧∀ i m σ H,W i m σ H→
   ((yY K a).stop i H∧D.nx σ H)∨((yY K a).go i H∧∃ N:St→Hp→Prop,(∀ σ' H',N σ' H'→∃ m',m'<m∧W (i+1) m' σ' H')∧∀ x H',(yY K a).yld i H x H'→g x σ H' fun σ2 H2=>tb { D with nx:=N,ct:=N,bk:=D.nx } σ2 H2):=by
 refine ⟨fun i m σ H=>m=xs.length - i∧i≤xs.length∧Pv i σ H,⟨xs.length,by simp,Nat.zero_le _,h0⟩,?_⟩
 rintro i m σ H ⟨rfl,hi,p⟩
 have q:=hl i σ H hi p
 by_cases hlt:i<xs.length
 ·refine .inr ⟨⟨xs,xs[i],q,by simp [hlt]⟩,Pv (i+1),fun σ' H' p'=>⟨xs.length - (i+1),by omega,rfl,hlt,p'⟩,fun v H' y=>?_⟩
  obtain ⟨T,x,hT,e1,e2,y⟩:=y
  subst e1 e2
  exact hs i x σ H T (y xs q) p hT
 ·have e:i=xs.length:=by omega
  subst e
  exact .inl ⟨⟨xs,q,rfl⟩,hd σ H p⟩
end L2
namespace L2
open PySem PySem.Spec PyProof.Rows
def sgn (c:Nat):V:=.str ⟨#[c]⟩
def ItS (z:Str):It:=⟨fun i _=>i<z.cps.size,fun i H x H'=>H'=H∧∃ c,z.cps[i]?=some c∧x=sgn c,fun i _=>i=z.cps.size⟩
theorem yN {prog:Program} {w:World} {A:Around} {E:Value→Shared→Prop} {s:Shared} {it:Addr} {z:Str} {t:Tok} {i c:Nat} {Q:Option Value→Shared→Prop} (a:s.heap.IsStrIter it (strIterType z) z t i) (b:z.cps[i]?=some c)
  (k:∀ h',h'.IsStrIter it (strIterType z) z t (i+1)→Heap.SameBut it s.heap h'→Q (some (.str ⟨#[c]⟩ s.toks)) { s with heap:=h',toks:=s.toks+1 }):wpAny (model prog w) A (pyNext (.ref it)) Q E s:=by
 unfold strIterType at a k
 split at a
 ·rename_i e
  rw [if_pos e] at k
  exact wpAny_pyNext_ascii_item a b k
 ·rename_i e
  rw [if_neg e] at k
  exact wpAny_pyNext_wide_item a b k
theorem zV {prog:Program} {w:World} {A:Around} {E:Value→Shared→Prop} {s:Shared} {it:Addr} {z:Str} {t:Tok} {i:Nat} {Q:Option Value→Shared→Prop} (hh:A.handled=none) (a:s.heap.IsStrIter it (strIterType z) z t i) (b:z.cps[i]?=none)
  (k:∀ h',Heap.ExtBut it s.heap h'→Q none { s with heap:=h' }):wpAny (model prog w) A (pyNext (.ref it)) Q E s:=by
 unfold strIterType at a
 split at a
 ·exact wpAny_pyNext_ascii_end hh a b k
 ·exact wpAny_pyNext_wide_end hh a b k
theorem DL (z:Str):["enumerate","zip","dict_itemiterator","dict_reverseitemiterator","odict_iterator","itertools.zip_longest","itertools.pairwise"].contains (strIterType z)=false:=by
 unfold strIterType
 split <;> decide
theorem yX {P:Program} {w:World} {K:PySem.W.Frag} {tg:Expr} (z:Str) (t:Tok) (it:Addr):Turn P w K tg (ItS z) [it] it (fun i h=>h.IsStrIter it (strIterType z) z t i) where
 mem:=by simp
 obj:=fun i h st b hb=>by
  have e:b=it:=by simpa using hb
  subst e
  obtain ⟨o,e,c,d⟩:=st
  exact ⟨o,e,fun v q=>by rw [d] at q; cases q⟩
 keep:=fun i h h' st k=>st.elim fun o r=>⟨o,k it (by simp) o r.1,r.2⟩
 item:=by
  intro X hP hw hK hc i pins s σ H E I hf st hg
  subst hP hw hK
  have hg':i<z.cps.size:=hg
  have hx:z.cps[i]?=some z.cps[i]:=Array.getElem?_eq_getElem hg'
  obtain ⟨f0,f1,f2,f3,f4,f5⟩:=hf it (by simp)
  refine yN st hx fun h' st' sb=>?_
  have I1:Inv X pins σ H { s with heap:=h',toks:=s.toks+1 }:=I.turned (t':=s.toks+1) (fun b o hb e=>(sb.2 b hb).trans e) f0 f1 f3 f4 f5
  obtain ⟨o,e,c,d⟩:=id st'
  exact ⟨_,rfl,p8 (s:={ s with heap:=h',toks:=s.toks+1 }) e c d (DL z) ⟨sgn z.cps[i],H,I1,⟨_,rfl⟩,⟨rfl,_,hx,rfl⟩,st',fun b hb=>(hf b hb).1⟩⟩
 done:=by
  intro X hP hw hK hc i pins s σ H E I hf st hg
  subst hP hw hK
  obtain ⟨f0,f1,f2,f3,f4,f5⟩:=hf it (by simp)
  have hx:z.cps[i]?=none:=by simp [show i=z.cps.size from hg]
  exact zV (I.ok.hd hc) st hx fun h' eb=>⟨rfl,I.turned (t':=s.toks) (fun b o hb e=>eb b o hb e) f0 f1 f3 f4 f5⟩
 self:=fun _ _ _ _ _ st h=>by
  unfold strIterType at st
  split at st
  ·exact wpAny_pyIter_striter_ascii st h
  ·exact wpAny_pyIter_striter_wide st h
section
variable {X:Cx} {tg:Expr}
def El (tl:TE):TI:=fun σ H R=>tl σ H fun x H1=>∃ z,x=.str z∧R (ItS z) H1
theorem yb {l:Expr} {tl:TE} (hl:PE X l tl):PI X tg l (El tl):=by
 intro pins s σ H R I h
 refine thn (hl pins s σ H _ I h) fun v s1 ⟨x,H1,I1,r1,q1⟩=>?_
 obtain ⟨z,rfl,q⟩:=q1
 obtain ⟨t,rfl⟩:=r1
 refine wpAny_pyIter_strU ?_
 refine ⟨s1.heap.objs.size,[s1.heap.objs.size],_,_,H1,rfl,I1.kept (t':=s1.toks) fun b o e=>Heap.get?_push_of_some _ e,yX z t _,⟨_,Heap.get?_push_size _ rfl,rfl,rfl⟩,fun b hb=>?_,q⟩
 have e:b=s1.heap.objs.size:=by simpa using hb
 subst e
 exact I1.fpOk (Nat.le_refl _) (I1.hok.fresh (Nat.le_refl _))
end
theorem qi {z:Str} {g:TG} {tt:TT} {te:TE} {nv:Nat} {ix:List Nat} {σ:St} {D:Addr} {H:Hp} {Q:VK} (Pv:Nat→List V→Hp→Prop) (h0:Pv 0 [] (upd H D (.lst [])))
  (hs:∀ i c ys H,z.cps[i]?=some c→Pv i ys H→H D=some (.lst ys)→g (sgn c) (capσ nv ix σ) H fun σ2 H3=>σ2.drop nv=(capσ nv ix σ).drop nv∧tt σ2 H3 fun b H4 =>
   if b=true then te σ2 H4 fun v H5=>∃ zs,H5 D=some (.lst zs)∧zs.length<sizeLine∧(∃ ys',Pv (i+1) ys' (upd H5 D (.lst (zs++[v])))∧(upd H5 D (.lst (zs++[v]))) D=some (.lst ys')) else ∃ ys',Pv (i+1) ys' H4∧H4 D=some (.lst ys'))
  (hd:∀ ys H,Pv z.cps.size ys H→H D=some (.lst ys)→Q (.ref D) H) :
  iT (ItS z) g tt te nv ix σ Q H D:=by
 refine ⟨fun i m H2=>m=z.cps.size - i∧i≤z.cps.size∧∃ ys,Pv i ys H2∧H2 D=some (.lst ys),⟨z.cps.size,by simp,Nat.zero_le _,[],h0,ah⟩,?_⟩
 rintro i m H2 ⟨rfl,hi,ys,p,hD⟩
 by_cases hlt:i<z.cps.size
 ·refine .inr ⟨hlt,fun H'=>∃ ys,Pv (i+1) ys H'∧H' D=some (.lst ys),fun H' p'=>⟨z.cps.size - (i+1),by omega,rfl,hlt,p'⟩,fun x H' y=>?_⟩
  obtain ⟨e,c,hc,e2⟩:=y
  subst e e2
  exact hs i c ys _ hc p hD
 ·have e:i=z.cps.size:=by omega
  subst e
  exact .inl ⟨rfl,hd ys H2 p hD⟩
theorem bV {K:PySem.W.Frag} {a:Addr} {xs:List V} {g:TG} {tt:TT} {te:TE} {nv:Nat} {ix:List Nat} {σ:St} {D:Addr} {H:Hp} {Q:VK} (Pv:Nat→List V→Hp→Prop) (h0:Pv 0 [] (upd H D (.lst []))) (hl:∀ i ys H,i≤xs.length→Pv i ys H→SqT K H a xs)
  (hs:∀ i x ys H,xs[i]?=some x→Pv i ys H→H D=some (.lst ys)→g x (capσ nv ix σ) H fun σ2 H3=>σ2.drop nv=(capσ nv ix σ).drop nv∧tt σ2 H3 fun b H4 =>
   if b=true then te σ2 H4 fun v H5=>∃ zs,H5 D=some (.lst zs)∧zs.length<sizeLine∧(∃ ys',Pv (i+1) ys' (upd H5 D (.lst (zs++[v])))∧(upd H5 D (.lst (zs++[v]))) D=some (.lst ys')) else ∃ ys',Pv (i+1) ys' H4∧H4 D=some (.lst ys'))
  (hd:∀ ys H,Pv xs.length ys H→H D=some (.lst ys)→Q (.ref D) H) :
  iT (Itt K a) g tt te nv ix σ Q H D:=by
 refine ⟨fun i m H2=>m=xs.length - i∧i≤xs.length∧∃ ys,Pv i ys H2∧H2 D=some (.lst ys),⟨xs.length,by simp,Nat.zero_le _,[],h0,ah⟩,?_⟩
 rintro i m H2 ⟨rfl,hi,ys,p,hD⟩
 have q:=hl i ys H2 hi p
 by_cases hlt:i<xs.length
 ·refine .inr ⟨⟨xs,xs[i],q,by simp [hlt]⟩,fun H'=>∃ ys,Pv (i+1) ys H'∧H' D=some (.lst ys),fun H' p'=>⟨xs.length - (i+1),by omega,rfl,hlt,p'⟩,fun x H' y=>?_⟩
  obtain ⟨e,y⟩:=y
  subst e
  exact hs i x ys _ (y xs q) p hD
 ·have e:i=xs.length:=by omega
  subst e
  exact .inl ⟨⟨xs,q,Nat.le_refl _⟩,hd ys H2 p hD⟩
theorem jO (c:Nat):(⟨#[c]⟩:Str).length=1:=rfl
theorem aQ (a b:Str):(a++b).length=a.length+b.length:=by
 show (a.cps++b.cps).size=a.cps.size+b.cps.size
 simp
theorem jg (z:Str) (l:List Str):inV (.str z) (l.map V.str)=decide (z∈l):=by
 unfold inV
 induction l with
 | nil=>rfl
 | cons x r ih =>
  rw [List.map_cons,List.any_cons,ih]
  show ((x == z) || _)=_
  by_cases h:x=z
  ·subst h
   simp
  ·have h':¬ z=x:=fun e=>h e.symm
   simp [h,h']
theorem iq (l:List Str):(l.map V.str).all et=true:=by
 rw [List.all_eq_true]
 intro x hx
 obtain ⟨o,_,rfl⟩:=List.mem_map.mp hx
 rfl
end L2
namespace L2
open PySem PySem.Spec PyProof.Rows
section
variable {X:Cx} {CX:CXT} {k:Nat} {f:Addr} {fd:FuncData} {ps:List Str} {sp:Sp} {dvs:List V} {ds:List Value} {E:XK} {m:Str} {pos apos:Pos} {e o:Expr} {es:List Expr} {ta:TE} {t:TA}
def xQ (K:PySem.W.Frag) (f:Addr) (m:Str) (sp:Sp) (dvs:List V) (E:XK) (ta:TE) (t:TA):TE:=fun σ H Q=>ta σ H fun x H1=>∃ C a dx fs,x=.ref a∧H1 a=some (.ins C dx fs)∧Cls K C∧Meth K C m f∧fs.lookup m=none∧t σ H1 fun vs H2=>sp (x::(vs++dvs)) H2 Q E
theorem cu {pl:Sem Bool} (he:PE X o ta) (F:FnOk X.prog X.w X.K X.mg X.base CX k f fd ps sp) (hr:Room k X.A) (hb:Binds X.K fd ps ds) (hd:Vals dvs ds) (hx:Passes CX X E) (ha:PA X (e::es) t)
  (hst:starEach (e::es) X.env=(false,eval e X.env)::starEach es X.env:=by rfl) (hpl:(backTo pos (starEach es X.env)).any (·.1)=false:=by rfl)
  (ht:eval (.Call (.Attribute o m apos) (e::es) [] pos) X.env=(do let ov ← eval o X.env; standAt apos.atName; let (f,first) ← holding [ov] (getMethod ov m pl); callWith pos f first (backTo pos (starEach (e::es) X.env)) (backToKw pos (keywordEach [] X.env))):=by rfl) :
  PE X (.Call (.Attribute o m apos) (e::es) [] pos) (xQ X.K f m sp dvs E ta t):=by
 intro pins s σ H Q I h
 refine PySem.W.methodCall_KW (pl:=pl) (thn (he pins s σ H _ I h) fun u s1 ⟨x,H1,I1,rx,C,a,dx,fs,ex,ea,c,hm,l,q⟩=>?_) ht
 subst ex; obtain rfl:u=Value.ref a:=rx
 refine lC I1 ea c hm l ?_
 refine PySem.W.callWith_K (first:=[.ref a]) (h₀:=X.base) I.ok.mod.kin hm.kp (thn (ha pos pins s1 σ H1 _ I1 q) fun us s2 ⟨vs,H2,I2,r,q2⟩=>⟨I2.kIn,?_⟩) hst hpl
 exact pW (us:=.ref a::us) (vs:=.ref a::vs) F hr hb hd hx I2 (.cons rfl r) q2
end
end L2
namespace L2
open PySem PySem.Spec PyProof.Rows
def ItAt (tp:Bool) (h:Heap) (i l:Addr) (k:Nat) (xs:Array Value):Prop:=match tp with
 | false=>h.IsListIter i l k∧h.IsList l xs
 | true=>h.IsTupleIter i l k∧h.IsTuple l xs
theorem ItAt.at {tp:Bool} {h h':Heap} {i l:Addr} {k:Nat} {xs:Array Value} (a:ItAt tp h i l k xs) (k1:∀ o,h.get? i=some o→h'.get? i=some o) (k2:∀ o,h.get? l=some o→h'.get? l=some o):ItAt tp h' i l k xs:=by
 cases tp with
 | false=>exact ⟨a.1.at k1,a.2.at k2⟩
 | true=>obtain ⟨⟨o,e,r⟩,⟨o2,e2,r2⟩⟩:=a; exact ⟨⟨o,k1 o e,r⟩,⟨o2,k2 o2 e2,r2⟩⟩
theorem ItAt.ext {tp:Bool} {h h':Heap} {i l b:Addr} {k:Nat} {xs:Array Value} (a:ItAt tp h i l k xs) (x:Heap.ExtBut b h h') (n1:i≠b) (n2:l≠b):ItAt tp h' i l k xs:=a.at (fun o e=>x i o n1 e) (fun o e=>x l o n2 e)
section
variable {prog:Program} {w:World} {A:Around} {E:Value→Shared→Prop} {s:Shared}
theorem ItAt.nx {tp:Bool} {i l:Addr} {k:Nat} {xs:Array Value} {x:Value} {Q:Value→Shared→Prop} (a:ItAt tp s.heap i l k xs) (hne:l≠i) (c:xs[k]?=some x) (d:∀ h',ItAt tp h' i l (k+1) xs→Heap.SameBut i s.heap h'→Q x { s with heap:=h' }):wpAny (model prog w) A (Builtin.SmallTypes.nextOf (.ref i)) Q E s:=by
 cases tp with
 | false=>exact wpAny_nextOf_list_item a.1 a.2 c fun h' b sb=>d h' ⟨b,a.2.extBut sb.extBut hne⟩ sb
 | true=>exact qV a.1 a.2 c fun h' b sb=>d h' ⟨b,a.2.extBut sb.extBut hne⟩ sb
theorem ItAt.nxE {tp:Bool} {i l:Addr} {k:Nat} {xs:Array Value} {Q:Value→Shared→Prop} (hh:A.handled=none) (a:ItAt tp s.heap i l k xs) (c:xs[k]?=none) (d:∀ h' e,Heap.ExtBut i s.heap h'→(∃ o,h'.get? e=some o∧o.cls=.type "StopIteration")→E (.ref e) { s with heap:=h' }):wpAny (model prog w) A (Builtin.SmallTypes.nextOf (.ref i)) Q E s:=by
 cases tp with
 | false=>exact wpAny_nextOf_list_end hh a.1 a.2 c d
 | true=>exact uC hh a.1 a.2 c d
theorem wH {t1 t2:Bool} {z TI TO i1 i2 l1 l2:Addr} {k1 k2:Nat} {xs ys:Array Value} {x y a b:Value} {Q:Value→Shared→Prop} (D:ZipApart z TI TO i1 i2 l1 l2) (gz:IsZip s.heap z TI TO .none) (gI:IsPair s.heap TI (.ref i1) (.ref i2)) (gO:IsPair s.heap TO a b)
  (g1:ItAt t1 s.heap i1 l1 k1 xs) (g2:ItAt t2 s.heap i2 l2 k2 ys) (hx:xs[k1]?=some x) (hy:ys[k2]?=some y) (d:∀ h',IsZip h' z TI TO (rawInt s.heap.objs.size)→IsPair h' TO x y→ItAt t1 h' i1 l1 (k1+1) xs→ItAt t2 h' i2 l2 (k2+1) ys→IsPair h' s.heap.objs.size x y→h'.objs.size=s.heap.objs.size+1→
   (∀ c o,c≠z→c≠TO→c≠i1→c≠i2→s.heap.get? c=some o→h'.get? c=some o)→Q (.ref s.heap.objs.size) { s with heap:=h' }):wpAny (model prog w) A (Builtin.«zip.__next__» ⟨[.ref z],[]⟩) (fun fin s'=>∃ v,fin=.done (.ret v)∧Q v s') E s:=by
 show wpAny _ _ (field (.ref z) 2 >>= _) _ _ _; refine wpAny_bind (wpAny_field gz rfl (x:=.bool false) rfl ?_)
 show wpAny _ _ (field (.ref z) 3 >>= _) _ _ _; refine wpAny_bind (wpAny_field gz rfl (x:=.ref TI) rfl ?_)
 refine wpAny_bind (wpAny_seqItems gI rfl ?_)
 show wpAny _ _ (Builtin.SmallTypes.ownedTupleIsFree (.ref z) >>= _) _ _ _; refine wpAny_bind ?_; unfold Builtin.SmallTypes.ownedTupleIsFree
 refine wpAny_bind (wpAny_field gz rfl (x:=.none) rfl (wpAny_pure ?_)); simp only [if_true]
 refine wpAny_bind (wpAny_rule ?_); refine wpAny_bind (wpAny_field gz rfl (x:=.ref TO) rfl ?_)
 refine wpAny_bind (wpAny_setField_rec gz (by simp) fun u1 gz1 s1=>?_); replace gz1:IsZip u1 z TI TO .ellipsis:=gz1
 refine wpAny_bind ?_; simp only [List.zipIdx_cons,List.zipIdx_nil,List.forIn_cons,List.forIn_nil]
 refine wpAny_bind (wpAny_bind (wpAny_onRaise ?_)); show wpAny _ _ (Builtin.SmallTypes.nextOf (.ref i1) >>= _) _ _ _
 refine wpAny_bind ((g1.ext s1.extBut D.i1z D.l1z).nx D.l1i1 hx fun u2 g12 s2=>wpAny_pure ?_)
 have gO2:IsPair u2 TO a b:=s2.extBut _ _ D.TOi1 (s1.extBut _ _ D.TOz gO)
 refine wpAny_bind (wpAny_seqItems gO2 rfl ?_); refine wpAny_bind (wpAny_updateSeq_pair gO2 fun u3 gO3 s3=>?_); replace gO3:IsPair u3 TO x b:=gO3
 refine wpAny_bind (wpAny_letGo (wpAny_pure ?_))
 refine wpAny_bind (wpAny_bind (wpAny_onRaise ?_)); show wpAny _ _ (Builtin.SmallTypes.nextOf (.ref i2) >>= _) _ _ _
 refine wpAny_bind ((((g2.ext s1.extBut D.i2z D.l2z).ext s2.extBut D.i12.symm D.l2i1).ext s3.extBut D.TOi2.symm D.l2TO).nx D.l2i2 hy fun u4 g24 s4=>wpAny_pure ?_)
 have gO4:IsPair u4 TO x b:=s4.extBut _ _ D.TOi2 gO3
 refine wpAny_bind (wpAny_seqItems gO4 rfl ?_); refine wpAny_bind (wpAny_updateSeq_pair gO4 fun u5 gO5 s5=>?_); replace gO5:IsPair u5 TO x y:=gO5
 refine wpAny_bind (wpAny_letGo (wpAny_pure (wpAny_pure ?_))); refine wpAny_bind (wpAny_seqItems gO5 rfl ?_); refine wpAny_bind (wpAny_newTuple ?_)
 have hsz:u5.objs.size=s.heap.objs.size:=by rw [s5.1,s4.1,s3.1,s2.1,s1.1]
 have gz5:IsZip u5 z TI TO .ellipsis:=s5.extBut _ _ D.TOz.symm (s4.extBut _ _ D.i2z.symm (s3.extBut _ _ D.TOz.symm (s2.extBut _ _ D.i1z.symm gz1)))
 have k5:∀ c o,c≠z→c≠TO→c≠i1→c≠i2→s.heap.get? c=some o→u5.get? c=some o:=fun c o c1 c2 c3 c4 e=>s5.extBut _ _ c2 (s4.extBut _ _ c4 (s3.extBut _ _ c2 (s2.extBut _ _ c3 (s1.extBut _ _ c1 e))))
 have g15:ItAt t1 u5 i1 l1 (k1+1) xs:=((g12.ext s3.extBut D.TOi1.symm D.l1TO).ext s4.extBut D.i12 D.l1i2).ext s5.extBut D.TOi1.symm D.l1TO
 have g25:ItAt t2 u5 i2 l2 (k2+1) ys:=g24.ext s5.extBut D.TOi2.symm D.l2TO
 have zlt:z<u5.objs.size:=Heap.lt_size gz5
 show wpAny _ _ (Builtin.SmallTypes.ownedTupleHandOut (.ref z) (.ref u5.objs.size) >>= _) _ _ _; refine wpAny_bind ?_; unfold Builtin.SmallTypes.ownedTupleHandOut
 have gz6:IsZip (u5.push { cls:=.type "tuple",data:=.seq #[x,y] }) z TI TO .ellipsis:=Heap.get?_push_of_some _ gz5
 refine wpAny_bind (wpAny_setField_rec gz6 (by simp) fun u7 gz7 s7=>?_); replace gz7:IsZip u7 z TI TO (rawInt u5.objs.size):=gz7
 refine wpAny_setField_rec gz7 (by simp) fun u8 gz8 s8=>?_; replace gz8:IsZip u8 z TI TO (rawInt u5.objs.size):=gz8
 have up:∀ c o,c≠z→u5.get? c=some o→u8.get? c=some o:=fun c o c1 e=>s8.extBut _ _ c1 (s7.extBut _ _ c1 (Heap.get?_push_of_some _ e))
 have gT:IsPair u8 u5.objs.size x y:=s8.extBut _ _ (Nat.ne_of_gt zlt) (s7.extBut _ _ (Nat.ne_of_gt zlt) (Heap.get?_push_size _ rfl))
 have z8:u8.objs.size=u5.objs.size+1:=by rw [s8.1,s7.1,Heap.size_push]
 rw [hsz] at gz8 gT z8
 refine wpAny_pure ⟨_,rfl,?_⟩; show Q (.ref u5.objs.size) _; rw [hsz]
 exact d u8 gz8 (up _ _ D.TOz gO5) (g15.at (fun o e=>up _ o D.i1z e) fun o e=>up _ o D.l1z e) (g25.at (fun o e=>up _ o D.i2z e) fun o e=>up _ o D.l2z e) gT z8 fun c o c1 c2 c3 c4 e=>up c o c1 (k5 c o c1 c2 c3 c4 e)
theorem yx {t1 t2:Bool} {z TI TO i1 i2 l1 l2:Addr} {k1 k2:Nat} {xs ys:Array Value} {a b:Value} {Q:Fin→Shared→Prop} (hh:A.handled=none) (D:ZipApart z TI TO i1 i2 l1 l2) (gz:IsZip s.heap z TI TO .none) (gI:IsPair s.heap TI (.ref i1) (.ref i2)) (gO:IsPair s.heap TO a b)
  (g1:ItAt t1 s.heap i1 l1 k1 xs) (g2:ItAt t2 s.heap i2 l2 k2 ys) (hend:xs[k1]?=none∨ys[k2]?=none)
  (d:∀ h' e,(∀ c o,c≠z→c≠TO→c≠i1→c≠i2→s.heap.get? c=some o→h'.get? c=some o)→(∃ o,h'.get? e=some o∧o.cls=.type "StopIteration")→E (.ref e) { s with heap:=h' }):wpAny (model prog w) A (Builtin.«zip.__next__» ⟨[.ref z],[]⟩) Q E s:=by
 show wpAny _ _ (field (.ref z) 2 >>= _) _ _ _; refine wpAny_bind (wpAny_field gz rfl (x:=.bool false) rfl ?_)
 show wpAny _ _ (field (.ref z) 3 >>= _) _ _ _; refine wpAny_bind (wpAny_field gz rfl (x:=.ref TI) rfl ?_)
 refine wpAny_bind (wpAny_seqItems gI rfl ?_)
 show wpAny _ _ (Builtin.SmallTypes.ownedTupleIsFree (.ref z) >>= _) _ _ _; refine wpAny_bind ?_; unfold Builtin.SmallTypes.ownedTupleIsFree
 refine wpAny_bind (wpAny_field gz rfl (x:=.none) rfl (wpAny_pure ?_)); simp only [if_true]
 refine wpAny_bind (wpAny_rule ?_); refine wpAny_bind (wpAny_field gz rfl (x:=.ref TO) rfl ?_)
 refine wpAny_bind (wpAny_setField_rec gz (by simp) fun u1 gz1 s1=>?_); replace gz1:IsZip u1 z TI TO .ellipsis:=gz1
 refine wpAny_bind ?_; simp only [List.zipIdx_cons,List.zipIdx_nil,List.forIn_cons,List.forIn_nil]
 refine wpAny_bind (wpAny_bind (wpAny_onRaise ?_)); show wpAny _ _ (Builtin.SmallTypes.nextOf (.ref i1) >>= _) _ _ _
 cases hx:xs[k1]? with
 | none =>
  refine wpAny_bind ((g1.ext s1.extBut D.i1z D.l1z).nxE hh hx fun u2 e s2 he=>?_)
  obtain ⟨oe,hoe,hce⟩:=he
  have gz2:IsZip u2 z TI TO .ellipsis:=s2 _ _ D.i1z.symm gz1
  have hez:e≠z:=fun x=>by subst x; rw [gz2] at hoe; cases hoe; simp at hce
  refine wpAny_setField_rec gz2 (by simp) fun u3 _ s3=>d u3 e (fun c o c1 _ c3 _ x=>s3.extBut _ _ c1 (s2 _ _ c3 (s1.extBut _ _ c1 x))) ⟨oe,s3.extBut _ _ hez hoe,hce⟩
 | some x =>
  have hy:ys[k2]?=none:=by rcases hend with h | h; rw [hx] at h; cases h; exact h
  refine wpAny_bind ((g1.ext s1.extBut D.i1z D.l1z).nx D.l1i1 hx fun u2 g12 s2=>wpAny_pure ?_)
  have gO2:IsPair u2 TO a b:=s2.extBut _ _ D.TOi1 (s1.extBut _ _ D.TOz gO)
  refine wpAny_bind (wpAny_seqItems gO2 rfl ?_); refine wpAny_bind (wpAny_updateSeq_pair gO2 fun u3 gO3 s3=>?_)
  refine wpAny_bind (wpAny_letGo (wpAny_pure ?_)); refine wpAny_bind (wpAny_bind (wpAny_onRaise ?_)); show wpAny _ _ (Builtin.SmallTypes.nextOf (.ref i2) >>= _) _ _ _
  refine wpAny_bind ((((g2.ext s1.extBut D.i2z D.l2z).ext s2.extBut D.i12.symm D.l2i1).ext s3.extBut D.TOi2.symm D.l2TO).nxE hh hy fun u4 e s4 he=>?_)
  obtain ⟨oe,hoe,hce⟩:=he
  have gz4:IsZip u4 z TI TO .ellipsis:=s4 _ _ D.i2z.symm (s3.extBut _ _ D.TOz.symm (s2.extBut _ _ D.i1z.symm gz1))
  have hez:e≠z:=fun x=>by subst x; rw [gz4] at hoe; cases hoe; simp at hce
  refine wpAny_setField_rec gz4 (by simp) fun u5 _ s5=>d u5 e (fun c o c1 c2 c3 c4 x=>s5.extBut _ _ c1 (s4 _ _ c4 (s3.extBut _ _ c2 (s2.extBut _ _ c3 (s1.extBut _ _ c1 x))))) ⟨oe,s5.extBut _ _ hez hoe,hce⟩
theorem rT {t1 t2:Bool} {z TI TO i1 i2 l1 l2:Addr} {k1 k2:Nat} {xs ys:Array Value} {x y a b:Value} {Q:Option Value→Shared→Prop} (D:ZipApart z TI TO i1 i2 l1 l2) (gz:IsZip s.heap z TI TO .none) (gI:IsPair s.heap TI (.ref i1) (.ref i2)) (gO:IsPair s.heap TO a b)
  (g1:ItAt t1 s.heap i1 l1 k1 xs) (g2:ItAt t2 s.heap i2 l2 k2 ys) (hx:xs[k1]?=some x) (hy:ys[k2]?=some y) (d:∀ h',IsZip h' z TI TO (rawInt s.heap.objs.size)→IsPair h' TO x y→ItAt t1 h' i1 l1 (k1+1) xs→ItAt t2 h' i2 l2 (k2+1) ys→IsPair h' s.heap.objs.size x y→h'.objs.size=s.heap.objs.size+1→
   (∀ c o,c≠z→c≠TO→c≠i1→c≠i2→s.heap.get? c=some o→h'.get? c=some o)→Q (some (.ref s.heap.objs.size)) { s with heap:=h' }):wpAny (model prog w) A (pyNext (.ref z)) Q E s:=by
 have hT:s.TypeIs (.ref z) "zip":=⟨_,gz,rfl⟩; unfold pyNext
 exact wpAny_bind (wpAny_attempt (wpAny_callSpecial?_slot (name:=Str.ofString "__next__") hT F.slot_zip_next (wpAny_call_entry F.slot_zip_next hT F.entry_zip_next (wH D gz gI gO g1 g2 hx hy fun h' a1 a2 a3 a4 a5 a6 a7=>wpAny_pure (d h' a1 a2 a3 a4 a5 a6 a7)) (F.args_zip_next_1 _))))
theorem uY {t1 t2:Bool} {z TI TO i1 i2 l1 l2:Addr} {k1 k2:Nat} {xs ys:Array Value} {a b:Value} {Q:Option Value→Shared→Prop} (hh:A.handled=none) (D:ZipApart z TI TO i1 i2 l1 l2) (gz:IsZip s.heap z TI TO .none) (gI:IsPair s.heap TI (.ref i1) (.ref i2)) (gO:IsPair s.heap TO a b)
  (g1:ItAt t1 s.heap i1 l1 k1 xs) (g2:ItAt t2 s.heap i2 l2 k2 ys) (hend:xs[k1]?=none∨ys[k2]?=none) (d:∀ h',(∀ c o,c≠z→c≠TO→c≠i1→c≠i2→s.heap.get? c=some o→h'.get? c=some o)→Q none { s with heap:=h' }):wpAny (model prog w) A (pyNext (.ref z)) Q E s:=by
 have hT:s.TypeIs (.ref z) "zip":=⟨_,gz,rfl⟩; unfold pyNext
 refine wpAny_bind (wpAny_attempt (wpAny_callSpecial?_slot (name:=Str.ofString "__next__") hT F.slot_zip_next (wpAny_call_entry F.slot_zip_next hT F.entry_zip_next (yx hh D gz gI gO g1 g2 hend fun h' e hk he=>?_) (F.args_zip_next_1 _))))
 obtain ⟨o,ho,hc⟩:=he; refine wpAny_bind (wpAny_isInstance (T:="StopIteration") (b:=true) ⟨o,ho,hc⟩ isSubtype_stop ?_); exact wpAny_pure (d _ hk)
abbrev Bm (tp:Bool):String:=if tp then "tuple_iterator" else "list_iterator"
def kI (tp:Bool) (h:Heap) (l:Addr) (xs:Array Value):Prop:=match tp with
 | false=>h.IsList l xs
 | true=>h.IsTuple l xs
abbrev zP (h:Heap) (tp:Bool) (l:Addr):Heap:=h.push { cls:=.type (Bm tp),data:=.fields #[.ref l,.int 0 0] }
abbrev zQ (h:Heap) (t1 t2:Bool) (l1 l2:Addr):Heap:=(zP (zP h t1 l1) t2 l2).push { cls:=.type "tuple",data:=.seq #[.ref h.objs.size,.ref (zP h t1 l1).objs.size] }
abbrev zR (h:Heap) (t1 t2:Bool) (l1 l2:Addr):Heap:=(zQ h t1 t2 l1 l2).push { cls:=.type "tuple",data:=.seq #[.none,.none] }
abbrev zS (h:Heap) (t1 t2:Bool) (l1 l2:Addr):Heap:=(zR h t1 t2 l1 l2).push { cls:=.type "zip",data:=.fields #[.none,.bool false,.bool false,.ref (zP (zP h t1 l1) t2 l2).objs.size,.ref (zQ h t1 t2 l1 l2).objs.size] }
theorem rQ (t1 t2:Bool) (l1 l2:Addr) (xs ys:Array Value):Meets (Builtin.«zip.__new__» ⟨[.type "zip",.ref l1,.ref l2],[]⟩) (fun _ R s=>kI t1 s.heap l1 xs∧kI t2 s.heap l2 ys∧R (.ok (.ret (.ref (zR s.heap t1 t2 l1 l2).objs.size))) { s with heap:=zS s.heap t1 t2 l1 l2 }) :=
 .of_wp fun prog w A R s h=>by
  obtain ⟨hp,g,d,tk,os⟩:=s; obtain ⟨g1,g2,h⟩:=h
  have sb:=sub_zip
  cases t1 <;> cases t2
  ·have a1:Heap.IsList (Shared.heap ⟨hp,g,d,tk,os⟩) l1 xs:=g1
   have a2:Heap.IsList (Shared.heap ⟨hp.push { cls:=.type "list_iterator",data:=.fields #[.ref l1,.int 0 0] },g,d,tk,os⟩) l2 ys:=Heap.IsList.push g2 _
   wp_walk using wpAny_pyIter_list a1,wpAny_pyIter_list a2; exact ⟨_,rfl,h⟩
  ·have a1:Heap.IsList (Shared.heap ⟨hp,g,d,tk,os⟩) l1 xs:=g1
   have a2:Heap.IsTuple (Shared.heap ⟨hp.push { cls:=.type "list_iterator",data:=.fields #[.ref l1,.int 0 0] },g,d,tk,os⟩) l2 ys:=by obtain ⟨o,e,r⟩:=g2; exact ⟨o,Heap.get?_push_of_some _ e,r⟩
   wp_walk using wpAny_pyIter_list a1,wpAny_pyIter_tuple a2; exact ⟨_,rfl,h⟩
  ·have a1:Heap.IsTuple (Shared.heap ⟨hp,g,d,tk,os⟩) l1 xs:=g1
   have a2:Heap.IsList (Shared.heap ⟨hp.push { cls:=.type "tuple_iterator",data:=.fields #[.ref l1,.int 0 0] },g,d,tk,os⟩) l2 ys:=Heap.IsList.push g2 _
   wp_walk using wpAny_pyIter_tuple a1,wpAny_pyIter_list a2; exact ⟨_,rfl,h⟩
  ·have a1:Heap.IsTuple (Shared.heap ⟨hp,g,d,tk,os⟩) l1 xs:=g1
   have a2:Heap.IsTuple (Shared.heap ⟨hp.push { cls:=.type "tuple_iterator",data:=.fields #[.ref l1,.int 0 0] },g,d,tk,os⟩) l2 ys:=by obtain ⟨o,e,r⟩:=g2; exact ⟨o,Heap.get?_push_of_some _ e,r⟩
   wp_walk using wpAny_pyIter_tuple a1,wpAny_pyIter_tuple a2; exact ⟨_,rfl,h⟩
theorem m7 {tp:Bool} {h h':Heap} {i l:Addr} {xs:Array Value} (g:kI tp h l xs) (e:h'.get? i=some { cls:=.type (Bm tp),data:=.fields #[.ref l,.int 0 0] }) (k:∀ c o,h.get? c=some o→h'.get? c=some o):ItAt tp h' i l 0 xs:=by
 cases tp with
 | false=>exact ⟨⟨_,e,rfl,rfl⟩,g.at fun o x=>k _ o x⟩
 | true=>obtain ⟨o,x,r⟩:=g; exact ⟨⟨_,e,rfl,rfl⟩,⟨o,k _ o x,r⟩⟩
theorem vG {t1 t2:Bool} {l1 l2:Addr} {xs ys:Array Value} {Q:Value→Shared→Prop} (g1:kI t1 s.heap l1 xs) (g2:kI t2 s.heap l2 ys)
  (k:∀ h',IsZip h' (s.heap.objs.size+4) (s.heap.objs.size+2) (s.heap.objs.size+3) .none→IsPair h' (s.heap.objs.size+2) (.ref s.heap.objs.size) (.ref (s.heap.objs.size+1))→IsPair h' (s.heap.objs.size+3) .none .none→ItAt t1 h' s.heap.objs.size l1 0 xs→ItAt t2 h' (s.heap.objs.size+1) l2 0 ys→
   (∀ c o,s.heap.get? c=some o→h'.get? c=some o)→Q (.ref (s.heap.objs.size+4)) { s with heap:=h' }):wpAny (model prog w) A (call (.type "zip") [.ref l1,.ref l2]) Q E s:=by
 refine callType_new F.called_zip (by decide) (F.typeCall_zip_2 _ _) (F.newCall_zip_2 _ _) (fun obj=>F.args_object_init_3 obj _ _) F.entry_zip_new (rQ t1 t2 l1 l2 xs ys) ⟨g1,g2,?_⟩
 have z1:(zP s.heap t1 l1).objs.size=s.heap.objs.size+1:=Heap.size_push ..
 have z2:(zP (zP s.heap t1 l1) t2 l2).objs.size=s.heap.objs.size+2:=by rw [Heap.size_push,z1]
 have z3:(zQ s.heap t1 t2 l1 l2).objs.size=s.heap.objs.size+3:=by rw [Heap.size_push,z2]
 have z4:(zR s.heap t1 t2 l1 l2).objs.size=s.heap.objs.size+4:=by rw [Heap.size_push,z3]
 have e5:(zS s.heap t1 t2 l1 l2).get? (zR s.heap t1 t2 l1 l2).objs.size=some _:=Heap.get?_push_size _ rfl
 have e4:(zS s.heap t1 t2 l1 l2).get? (zQ s.heap t1 t2 l1 l2).objs.size=some _:=Heap.get?_push_of_some _ (Heap.get?_push_size _ rfl)
 have e3:(zS s.heap t1 t2 l1 l2).get? (zP (zP s.heap t1 l1) t2 l2).objs.size=some _:=Heap.get?_push_of_some _ (Heap.get?_push_of_some _ (Heap.get?_push_size _ rfl))
 have e2:(zS s.heap t1 t2 l1 l2).get? (zP s.heap t1 l1).objs.size=some _:=Heap.get?_push_of_some _ (Heap.get?_push_of_some _ (Heap.get?_push_of_some _ (Heap.get?_push_size _ rfl)))
 have e1:(zS s.heap t1 t2 l1 l2).get? s.heap.objs.size=some _:=Heap.get?_push_of_some _ (Heap.get?_push_of_some _ (Heap.get?_push_of_some _ (Heap.get?_push_of_some _ (Heap.get?_push_size _ rfl))))
 show _∧_
 rw [z2,z3,z4] at e5; rw [z1,z2] at e3; rw [z3] at e4; rw [z1] at e2; rw [z4]
 have up:∀ c o,s.heap.get? c=some o→(zS s.heap t1 t2 l1 l2).get? c=some o:=fun c o x=>Heap.get?_push_of_some _ (Heap.get?_push_of_some _ (Heap.get?_push_of_some _ (Heap.get?_push_of_some _ (Heap.get?_push_of_some _ x))))
 exact ⟨⟨_,e5,rfl⟩,k _ e5 e3 e4 (m7 g1 e1 up) (m7 g2 e2 up) up⟩
end
end L2
namespace L2
open PySem PySem.Spec PyProof.Rows
def SqX (tp:Bool) (K:PySem.W.Frag) (H:Hp) (a:Addr) (xs:List V):Prop:=match tp with
 | false=>SqL K H a xs
 | true=>SqT K H a xs
theorem Inv.seqX {X:Cx} {pins:List (Addr×Obj)} {σ:St} {H:Hp} {s:Shared} {tp:Bool} {a:Addr} {xs:List V} (I:Inv X pins σ H s) (h:SqX tp X.K H a xs):∃ its:List Value,Vals xs its∧kI tp s.heap a its.toArray:=by
 cases tp with
 | false=>obtain ⟨its,r,p,_⟩:=I.list h; exact ⟨its,r,p.isList⟩
 | true=>obtain ⟨its,r,p,_⟩:=I.tuple h; exact ⟨its,r,IsTup.tup p⟩
def wG (K:PySem.W.Frag) (t1 t2:Bool) (a b:Addr):It :=
  ⟨fun i H=>∃ xs ys x y,SqX t1 K H a xs∧SqX t2 K H b ys∧xs[i]?=some x∧ys[i]?=some y,
   fun i H v H'=>∃ T x y,H T=none∧H'=upd H T (.tup [x,y])∧v=.ref T∧∀ xs ys,SqX t1 K H a xs→SqX t2 K H b ys→xs[i]?=some x∧ys[i]?=some y,
   fun i H=>∃ xs ys,SqX t1 K H a xs∧SqX t2 K H b ys∧(xs[i]?=none∨ys[i]?=none)⟩
def IterAt (tp:Bool) (h:Heap) (i l:Addr) (k:Nat):Prop:=match tp with
 | false=>h.IsListIter i l k
 | true=>h.IsTupleIter i l k
theorem IterAt.it {tp:Bool} {h:Heap} {i l:Addr} {k:Nat} {xs:Array Value} (a:IterAt tp h i l k) (b:kI tp h l xs):ItAt tp h i l k xs:=by
 cases tp with
 | false=>exact ⟨a,b⟩
 | true=>exact ⟨a,b⟩
theorem ItAt.iter {tp:Bool} {h:Heap} {i l:Addr} {k:Nat} {xs:Array Value} (a:ItAt tp h i l k xs):IterAt tp h i l k:=by
 cases tp with
 | false=>exact a.1
 | true=>exact a.1
theorem IterAt.at {tp:Bool} {h h':Heap} {i l:Addr} {k:Nat} (a:IterAt tp h i l k) (k1:∀ o,h.get? i=some o→h'.get? i=some o):IterAt tp h' i l k:=by
 cases tp with
 | false=>obtain ⟨o,e,r⟩:=a; exact ⟨o,k1 o e,r⟩
 | true=>obtain ⟨o,e,r⟩:=a; exact ⟨o,k1 o e,r⟩
theorem IterAt.obj {tp:Bool} {h:Heap} {i l:Addr} {k:Nat} (a:IterAt tp h i l k):∃ o,h.get? i=some o∧∀ v,o.data≠.cell v:=by
 cases tp with
 | false=>obtain ⟨o,e,_,d⟩:=a; exact ⟨o,e,fun v q=>by rw [d] at q; cases q⟩
 | true=>obtain ⟨o,e,_,d⟩:=a; exact ⟨o,e,fun v q=>by rw [d] at q; cases q⟩
theorem pO {X:Cx} {pins:List (Addr×Obj)} {σ:St} {H:Hp} {s:Shared} {tp:Bool} {a:Addr} {xs ys:List V} (I:Inv X pins σ H s) (h1:SqX tp X.K H a xs) (h2:SqX tp X.K H a ys):xs=ys:=by
 cases tp with
 | false=>exact I.list_inj h1 h2
 | true=>exact I.tuple_inj h1 h2
theorem yf {P:Program} {w:World} {K:PySem.W.Frag} {elts:List Expr} {x1:Nat} {tp:Pos} {t1 t2:Bool} {a b z TI TO i1 i2:Addr} (D:ZipApart z TI TO i1 i2 a b) :
  Turn P w K (.Tuple elts x1 tp) (wG K t1 t2 a b) [z,TI,TO,i1,i2] z (fun i h=>IsZip h z TI TO .none∧IsPair h TI (.ref i1) (.ref i2)∧(∃ u v,IsPair h TO u v)∧IterAt t1 h i1 a i∧IterAt t2 h i2 b i) where
 mem:=by simp
 obj:=fun i h st c hc=>by
  obtain ⟨h1,h2,⟨u,v,h3⟩,h4,h5⟩:=st
  simp only [List.mem_cons,List.not_mem_nil,or_false] at hc
  rcases hc with rfl | rfl | rfl | rfl | rfl
  ·exact ⟨_,h1,fun v q=>nomatch q⟩
  ·exact ⟨_,h2,fun v q=>nomatch q⟩
  ·exact ⟨_,h3,fun v q=>nomatch q⟩
  ·exact h4.obj
  ·exact h5.obj
 keep:=fun i h h' st k=>by
  obtain ⟨h1,h2,⟨u,v,h3⟩,h4,h5⟩:=st
  exact ⟨k z (by simp) _ h1,k TI (by simp) _ h2,⟨u,v,k TO (by simp) _ h3⟩,h4.at fun o e=>k i1 (by simp) o e,h5.at fun o e=>k i2 (by simp) o e⟩
 item:=by
  intro X hP hw hK hc i pins s σ H E I hf st hg
  subst hP hw hK
  obtain ⟨xs,ys,x,y,hxs,hys,hx,hy⟩:=hg
  obtain ⟨us,r1,q1⟩:=I.seqX hxs
  obtain ⟨ws,r2,q2⟩:=I.seqX hys
  obtain ⟨u,hu,ru⟩:=r1.get hx
  obtain ⟨v,hv,rv⟩:=r2.get hy
  obtain ⟨h1,h2,⟨o1,o2,h3⟩,h4,h5⟩:=st
  refine rT D h1 h2 h3 (h4.it q1) (h5.it q2) (x:=u) (y:=v) (by simpa using hu) (by simpa using hv) fun h' b1 b2 b3 b4 b5 b6 b7=>?_
  refine ⟨_,rfl,?_⟩
  refine wpAny_letOwnedTupleGo_zip b1 fun h6 c1 c2=>?_
  have lt:∀ {c o},s.heap.get? c=some o→c≠s.heap.objs.size:=fun e=>Nat.ne_of_lt (Heap.lt_size e)
  have zlt:s.heap.objs.size≠z:=Ne.symm (lt h1)
  have k2:∀ c o,c∉[z,TI,TO,i1,i2]→s.heap.get? c=some o→h6.get? c=some o:=fun c o hc' q=>by
   have n1:c≠z:=fun e=>hc' (by simp [e])
   exact (c2.2 c n1).trans (b7 c o n1 (fun e=>hc' (by simp [e])) (fun e=>hc' (by simp [e])) (fun e=>hc' (by simp [e])) q)
  have t2:h6.get? s.heap.objs.size=some { cls:=.type "tuple",data:=.seq #[u,v] }:=(c2.2 _ zlt).trans b5
  have hn:H s.heap.objs.size=none:=I.hok.fresh (Nat.le_refl _)
  have new:ObjOk X.prog X.w (upd H s.heap.objs.size (.tup [x,y])) h6 s.heap.objs.size (.tup [x,y]):=⟨by simp only [List.length_cons,List.length_nil]; rw [sizeLine_eq]; decide,[u,v],.cons ru (.cons rv .nil),⟨_,t2,rfl,_,rfl⟩⟩
  have I2:Inv X pins σ (upd H s.heap.objs.size (.tup [x,y])) { s with heap:=h6,toks:=s.toks }:=I.turnedNew k2 hf (Nat.le_refl _) new
  refine ⟨.ref s.heap.objs.size,_,I2,rfl,⟨s.heap.objs.size,x,y,hn,rfl,rfl,fun xs' ys' hx' hy'=>⟨by rw [pO I hx' hxs]; exact hx,by rw [pO I hy' hys]; exact hy⟩⟩,⟨c1,(c2.2 _ D.TIz).trans (b7 _ _ D.TIz D.TITO D.TIi1 D.TIi2 h2),⟨_,_,(c2.2 _ D.TOz).trans b2⟩,b3.iter.at fun o e=>(c2.2 _ D.i1z).trans e,b4.iter.at fun o e=>(c2.2 _ D.i2z).trans e⟩,fun c hc'=>?_⟩
  have hne:c≠s.heap.objs.size:=by
   simp only [List.mem_cons,List.not_mem_nil,or_false] at hc'
   rcases hc' with rfl | rfl | rfl | rfl | rfl
   ·exact lt h1
   ·exact lt h2
   ·exact lt h3
   ·obtain ⟨o,e,_⟩:=h4.obj; exact lt e
   ·obtain ⟨o,e,_⟩:=h5.obj; exact lt e
  rw [aC hne]
  exact (hf c hc').1
 done:=by
  intro X hP hw hK hc i pins s σ H E I hf st hg
  subst hP hw hK
  obtain ⟨xs,ys,hxs,hys,hend⟩:=hg
  obtain ⟨us,r1,q1⟩:=I.seqX hxs
  obtain ⟨ws,r2,q2⟩:=I.seqX hys
  obtain ⟨h1,h2,⟨o1,o2,h3⟩,h4,h5⟩:=st
  have e1:=r1.length
  have e2:=r2.length
  refine uY (show X.A.handled=none from I.ok.hd hc) D h1 h2 h3 (h4.it q1) (h5.it q2) ?_ fun h' k=>⟨rfl,?_⟩
  ·rcases hend with h | h
   ·refine .inl ?_
    have:=List.getElem?_eq_none_iff.mp h
    simp
    omega
   ·refine .inr ?_
    have:=List.getElem?_eq_none_iff.mp h
    simp
    omega
  ·exact I.turnedL (t':=s.toks) (fun c o hc' q=>k c o (fun e=>hc' (by simp [e])) (fun e=>hc' (by simp [e])) (fun e=>hc' (by simp [e])) (fun e=>hc' (by simp [e])) q) hf
 self:=fun _ _ _ _ _ st h=>wpAny_pyIter_zip st.1 h
section
variable {X:Cx}
def EB (K:PySem.W.Frag) (t1 t2:Bool) (ta:TA):TI:=fun σ H R=>ta σ H fun vs H1=>∃ a b,vs=[.ref a,.ref b]∧(∃ xs,SqX t1 K H1 a xs)∧(∃ ys,SqX t2 K H1 b ys)∧R (wG K t1 t2 a b) H1
theorem CF (t1 t2:Bool) {a b:Expr} {ta:TA} {p pos tp:Pos} {elts:List Expr} {x1:Nat} (hg:Gl X "zip") (hm:X.mg "zip"=none) (ha:PA X [a,b] ta) (hs:starEach [a,b] X.env=(false,eval a X.env)::starEach [b] X.env:=by rfl) (hpl:(backTo pos (starEach [b] X.env)).any (·.1)=false:=by rfl) :
  PI X (.Tuple elts x1 tp) (.Call (.Name "zip" p) [a,b] [] pos) (EB X.K t1 t2 ta):=by
 intro pins s σ H R I h
 refine Call_ (fL I hg hm PyProof.Rows.boot_zip (PyProof.Rows.callWith_type1 (thn (ha pos pins s σ H _ I h) fun us s1 ⟨vs,H1,I1,r1,q1⟩=>?_) hs hpl))
 obtain ⟨l1,l2,e,⟨xs,hx⟩,⟨ys,hy⟩,q⟩:=q1
 subst e
 obtain ⟨u,v,rfl,ru,rv⟩:=vals2 r1
 cases ru
 cases rv
 obtain ⟨us,_,g1⟩:=I1.seqX hx
 obtain ⟨ws,_,g2⟩:=I1.seqX hy
 have lt:∀ {tp:Bool} {l:Addr} {zs:Array Value},kI tp s1.heap l zs→l<s1.heap.objs.size:=fun {tp} {l} {zs} g=>by
  cases tp with
  | false=>obtain ⟨o,z,_⟩:=g; exact Heap.lt_size z
  | true=>obtain ⟨o,z,_⟩:=g; exact Heap.lt_size z
 refine vG g1 g2 fun h' b1 b2 b3 b4 b5 hk=>?_
 refine wpAny_pyIter_zip b1 ?_
 have hfp:∀ c∈[s1.heap.objs.size+4,s1.heap.objs.size+2,s1.heap.objs.size+3,s1.heap.objs.size,s1.heap.objs.size+1],iF X pins H1 c:=fun c hc=>by
  have hge:s1.heap.objs.size≤c:=by
   simp only [List.mem_cons,List.not_mem_nil,or_false] at hc
   omega
  exact I1.fpOk hge (I1.hok.fresh hge)
 exact ⟨s1.heap.objs.size+4,_,_,_,H1,rfl,I1.kept (t':=s1.toks) hk,yf (zipApart_new (lt g1) (lt g2)),⟨b1,b2,⟨_,_,b3⟩,b4.iter,b5.iter⟩,hfp,q⟩
end
theorem DQ {K:PySem.W.Frag} {t1 t2:Bool} {a b:Addr} {xs ys:List V} {g:TG} {tb:TS} {D:Ends} {σ:St} {H:Hp} (Pv:Nat→St→Hp→Prop) (h0:Pv 0 σ H) (hl:∀ i σ H,i≤min xs.length ys.length→Pv i σ H→SqX t1 K H a xs∧SqX t2 K H b ys)
  (hs:∀ i x y σ H T,xs[i]?=some x→ys[i]?=some y→Pv i σ H→H T=none→g (.ref T) σ (upd H T (.tup [x,y])) fun σ2 H2=>tb { D with nx:=Pv (i+1),ct:=Pv (i+1),bk:=D.nx } σ2 H2) (hd:∀ σ H,Pv (min xs.length ys.length) σ H→D.nx σ H) :
  ∃ W:Nat→Nat→St→Hp→Prop,(∃ m,W 0 m σ H)∧∀ i m σ H,W i m σ H→((wG K t1 t2 a b).stop i H∧D.nx σ H)∨((wG K t1 t2 a b).go i H∧∃ N:St→Hp→Prop,(∀ σ' H',N σ' H'→∃ m',m'<m∧W (i+1) m' σ' H')∧∀ x H',(wG K t1 t2 a b).yld i H x H'→g x σ H' fun σ2 H2=>tb { D with nx:=N,ct:=N,bk:=D.nx } σ2 H2):=by
 refine ⟨fun i m σ H=>m=min xs.length ys.length - i∧i≤min xs.length ys.length∧Pv i σ H,⟨min xs.length ys.length,by simp,Nat.zero_le _,h0⟩,?_⟩
 rintro i m σ H ⟨rfl,hi,p⟩
 obtain ⟨q1,q2⟩:=hl i σ H hi p
 by_cases hlt:i<min xs.length ys.length
 ·have e1:=List.getElem?_eq_getElem (show i<xs.length by omega)
  have e2:=List.getElem?_eq_getElem (show i<ys.length by omega)
  refine .inr ⟨⟨xs,ys,_,_,q1,q2,e1,e2⟩,Pv (i+1),fun σ' H' p'=>⟨min xs.length ys.length - (i+1),by omega,rfl,hlt,p'⟩,fun v H' y=>?_⟩
  obtain ⟨T,x,y,hT,z1,z2,z3⟩:=y
  subst z1 z2
  obtain ⟨z4,z5⟩:=z3 xs ys q1 q2
  exact hs i x y σ H T z4 z5 p hT
 ·have e:i=min xs.length ys.length:=by omega
  refine .inl ⟨⟨xs,ys,q1,q2,?_⟩,hd σ H (by rw [← e]; exact p)⟩
  by_cases hx:i<xs.length
  ·exact .inr (List.getElem?_eq_none (by omega))
  ·exact .inl (List.getElem?_eq_none (by omega))
theorem zi {K:PySem.W.Frag} {t1 t2:Bool} {a b:Addr} {xs ys:List V} {g:TG} {tt:TT} {te:TE} {nv:Nat} {ix:List Nat} {σ:St} {D:Addr} {H:Hp} {Q:VK} (Pv:Nat→List V→Hp→Prop) (h0:Pv 0 [] (upd H D (.lst []))) (hl:∀ i zs H,i≤min xs.length ys.length→Pv i zs H→SqX t1 K H a xs∧SqX t2 K H b ys)
  (hs:∀ i x y zs H T,xs[i]?=some x→ys[i]?=some y→Pv i zs H→H D=some (.lst zs)→H T=none→g (.ref T) (capσ nv ix σ) (upd H T (.tup [x,y])) fun σ2 H3=>σ2.drop nv=(capσ nv ix σ).drop nv∧tt σ2 H3 fun b H4 =>
   if b=true then te σ2 H4 fun v H5=>∃ zs,H5 D=some (.lst zs)∧zs.length<sizeLine∧(∃ ys',Pv (i+1) ys' (upd H5 D (.lst (zs++[v])))∧(upd H5 D (.lst (zs++[v]))) D=some (.lst ys')) else ∃ ys',Pv (i+1) ys' H4∧H4 D=some (.lst ys'))
  (hd:∀ zs H,Pv (min xs.length ys.length) zs H→H D=some (.lst zs)→Q (.ref D) H):iT (wG K t1 t2 a b) g tt te nv ix σ Q H D:=by
 refine ⟨fun i m H2=>m=min xs.length ys.length - i∧i≤min xs.length ys.length∧∃ zs,Pv i zs H2∧H2 D=some (.lst zs),⟨min xs.length ys.length,by simp,Nat.zero_le _,[],h0,ah⟩,?_⟩
 rintro i m H2 ⟨rfl,hi,zs,p,hD⟩
 obtain ⟨q1,q2⟩:=hl i zs H2 hi p
 by_cases hlt:i<min xs.length ys.length
 ·have e1:=List.getElem?_eq_getElem (show i<xs.length by omega)
  have e2:=List.getElem?_eq_getElem (show i<ys.length by omega)
  refine .inr ⟨⟨xs,ys,_,_,q1,q2,e1,e2⟩,fun H'=>∃ zs,Pv (i+1) zs H'∧H' D=some (.lst zs),fun H' p'=>⟨min xs.length ys.length - (i+1),by omega,rfl,hlt,p'⟩,fun v H' y=>?_⟩
  obtain ⟨T,x,y,hT,z1,z2,z3⟩:=y
  subst z1 z2
  obtain ⟨z4,z5⟩:=z3 xs ys q1 q2
  exact hs i x y zs H2 T z4 z5 p hD hT
 ·have e:i=min xs.length ys.length:=by omega
  refine .inl ⟨⟨xs,ys,q1,q2,?_⟩,hd zs H2 (by rw [← e]; exact p) hD⟩
  by_cases hx:i<xs.length
  ·exact .inr (List.getElem?_eq_none (by omega))
  ·exact .inl (List.getElem?_eq_none (by omega))
end L2
namespace L2
open PySem PySem.Spec PyProof.Rows
def CQ (t u:TS):TS:=fun D σ H=>∃ Pv:St→Hp→Prop,t { D with nx:=Pv } σ H∧∀ σ' H',Pv σ' H'→u D σ' H'
theorem fT {X:Cx} {st:Stmt} {rest:List Stmt} {t u:TS} (h1:PS X st t) (h2:PSs X rest u):PSs X (st::rest) (CQ t u):=by
 intro pins s σ H D I ⟨Pv,h,k⟩
 refine wpAny_execs_cons (thn (h1 pins s σ H { D with nx:=Pv } I h) fun f s1 q=>?_)
 cases f with
 | next=>obtain ⟨σ',H',I',q⟩:=q; exact h2 pins s1 σ' H' D I' (k σ' H' q)
 | ret v=>exact q
 | brk=>exact q
 | cont=>exact q
section
variable {X:Cx}
end
end L2
namespace HT
open PySem PySem.Spec PyProof PyProof.Rows
section
variable {prog:Program} {w:World} {A:Around} {E:Value→Shared→Prop} {s:Shared}
theorem iG {t sl:Addr} {items:Array Value} {vl vu:Value} {lo hi:Option Int} {Q:Value→Shared→Prop} (ht:IsTup s.heap t items) (hs:s.heap.IsSliceOf sl vl vu .none) (pl:IsPart vl lo) (pu:IsPart vu hi)
  (hw:sIx items.size 0 lo=0∧sIx items.size items.size hi=items.size) (h:Q (.ref t) s):wpAny (model prog w) A (getItem (.ref t) (.ref sl)) Q E s:=by
 obtain ⟨os,hos,hcs,hds⟩:=id hs
 have hTs:s.TypeIs (.ref sl) "slice":=⟨os,hos,hcs⟩
 unfold getItem
 try with_reducible refine wpAny_holding ?_
 first | refine wpAny_bind (wpAny_pure ?_) | skip
 refine wpAny_bind (wpAny_sequenceKey ht.typeIs (by decide) ?_)
 refine wpAny_bind (wpAny_callSpecial?_slot (name:=Str.ofString "__getitem__") ht.typeIs PyProof.Rows.slot_tuple_getitem
  (wpAny_call_entry PyProof.Rows.slot_tuple_getitem ht.typeIs entry_tuple_getitem ?_ (args_tuple_getitem _ _)))
 show wpAny _ _ (Builtin.Tuple.tupleItemsOf (.ref t) >>= _) _ _ s
 refine wpAny_bind (tupleItemsOf_ ht ?_)
 refine wpAny_bind (wpAny_typeOf hTs ?_)
 rw [if_pos (by decide)]
 refine wpAny_bind (fU hs pl pu ?_)
 have hyes:(((sIx items.size 0 lo:Nat):Int) == 0 && (1:Int) == 1 && (sIx items.size items.size hi - sIx items.size 0 lo) == items.size)=true:=by
  rw [hw.1,hw.2]
  simp
 show wpAny _ _ (if (((sIx items.size 0 lo:Nat):Int) == 0 && (1:Int) == 1 && (sIx items.size items.size hi - sIx items.size 0 lo) == items.size)=true then _ else _) _ _ s
 rw [if_pos hyes]
 unfold Builtin.Tuple.tupleIsExact
 refine wpAny_bind (wpAny_bind (wpAny_typeOf ht.typeIs (wpAny_pure ?_)))
 rw [if_pos (by decide)]
 exact wpAny_bind (wpAny_rule (wpAny_pure ⟨_,rfl,wpAny_pure h⟩))
end
end HT
namespace L2
open PySem PySem.Spec PyProof.Rows
section
variable {X:Cx}
def DI:V→Option Int→Option Int→Hp→VK→Prop:=fun x lo hi H Q=>∃ a xs,x=.ref a∧H a=some (.tup xs)∧∀ p H',Same H H'→H' p=some (.tup (gS xs lo hi))→Q (.ref p) H'
theorem sV {xs:List V} {lo hi:Option Int} (h:HT.sIx xs.length 0 lo=0∧HT.sIx xs.length xs.length hi=xs.length):gS xs lo hi=xs:=by
 unfold gS
 rw [h.1,h.2,List.drop_zero,Nat.sub_zero,List.take_length]
theorem An:SlR X DI:=by
 intro pins s σ H x v vl vu lo hi sl Q I rx hs pl pu h
 obtain ⟨a,xs,rfl,ha,q⟩:=h
 by_cases hw:HT.sIx xs.length 0 lo=0∧HT.sIx xs.length xs.length hi=xs.length
 ·cases rx
  obtain ⟨its,r,ht,hz⟩:=I.tuple (SqT.of (K:=X.K) ha)
  have hlen:its.toArray.size=xs.length:=by rw [List.size_toArray]; exact r.length.symm
  refine ⟨"tuple",_,PyProof.Rows.slot_tuple_getitem.lookup,ht.typeIs,?_⟩
  exact HT.iG ht hs pl pu (by rw [hlen]; exact hw) ⟨.ref a,H,I,rfl,q a H (Same.refl H) (by rw [sV hw]; exact ha)⟩
 ·exact Cj pins s σ H _ v vl vu lo hi sl Q I rx hs pl pu ⟨a,xs,rfl,SqT.of ha,hw,fun p hp=>q p _ (aq hp _) ah⟩
def Fe:R2:=fun x y H Q=>∃ a b xs ys,x=.ref a∧y=.ref b∧H a=some (.tup xs)∧H b=some (.tup ys)∧xs≠[]∧xs.length+ys.length≤sizeLine∧∀ p H',Same H H'→H' p=some (.tup (xs++ys))→Q (.ref p) H'
def DY (t:TT):TT:=fun σ H Q=>∃ R:Bool→Hp→Prop,t σ H R∧∀ b H',R b H'→Q b H'
theorem eF {α:Type} {l:List α} (h:l.length=1):∃ a,l=[a]:=by
 match l,h with
 | [a],_=>exact ⟨a,rfl⟩
theorem dn {α:Type} {l:List α} (h:l.length=2):∃ a b,l=[a,b]:=by
 match l,h with
 | [a,b],_=>exact ⟨a,b,rfl⟩
theorem pG {α:Type} {l:List α} (h:l.length=3):∃ a b c,l=[a,b,c]:=by
 match l,h with
 | [a,b,c],_=>exact ⟨a,b,c,rfl⟩
theorem Bw {α:Type} {l:List α} (h:l.length=4):∃ a b c d,l=[a,b,c,d]:=by
 match l,h with
 | [a,b,c,d],_=>exact ⟨a,b,c,d,rfl⟩
end
end L2
namespace L2
open PySem PySem.Spec PyProof.Rows PySem.W Builtin Builtin.ObjectAttr
def tX:List Value→Bool
 | .ref _::r=>tX r
 | l=>l == [.type "ValueError",.type "Exception",.type "BaseException",.type "object"]
def Dg (K:Frag) (C:Addr):Bool:=(clsIn K C).any fun cd=>tX cd.mro
section
variable {prog:Program} {w:World} {A:Around} {s:Shared} {K:Frag} {x C:Addr} {R:Result→Shared→Prop}
end
end L2
namespace L2
open PySem PySem.Spec PyProof.Rows
section
variable {prog:Program} {w:World} {A:Around} {E:Value→Shared→Prop} {s:Shared} {K:PySem.W.Frag} {x C:Addr} {name:Str} {v:Value}
end
end L2
namespace L2
open PySem PySem.Spec PyProof.Rows
def BX (K:PySem.W.Frag) (C f:Addr):Bool :=
 match K.lookup C with
 | some ⟨.type "type",_,.cls cd,sl⟩ =>
  match cd.mro,sl.toList with
  | .ref C'::bm,[_,_,_,_,some (.builtin n),_]=>((C' == C && n == "ValueError.__new__") && (!cd.hasDel && PySem.W.tailIn K VE bm)) && (PySem.W.nsOkIn K cd.ns && PySem.W.nsIn K cd.ns "__init__" == some (some (.ref f)))
  | _,_=>false
 | _=>false
section
variable {prog:Program} {w:World} {A:Around} {h:Heap} {g:Array GenState} {d:Drawn} {t:Nat} {os:OsState} {R:Result→Shared→Prop}
variable {nm q:Str} {C N:Addr} {bs bm:List Value} {hdct:Bool} {sn:List Str} {sub:List Value} {ab:Bool} {col:Option Bool} {dd:Option Addr} {k0 k1 k2 k3 k5:Option Value}
end
end L2
namespace L2
open PySem PySem.Spec PyProof.Rows
def ExN (a C:Addr) (d:Option Addr):HO:=.ext fun h=>∃ vs sl,h.get? a=some ⟨.ref C,d,.fields vs,sl⟩∧vs[1]?=some .none
structure XSet (K:PySem.W.Frag) (C:Addr) (f:Str):Prop where
 sa:PySem.W.findIn K (.ref C) "__setattr__"=some (some (.builtin "object.__setattr__"))
 po:Dg K C=true
 tk:PySem.W.takerIn K C f=some none
 hd:PySem.W.hasDictIn K C=true
structure MkX (K:PySem.W.Frag) (C f:Addr):Prop where
 ex:BX K C f=true
 fn:PySem.W.isFn K (.ref f)=true
 kp:PySem.W.keepIn K (.ref C)=true
section
variable {X:Cx} {pins:List (Addr×Obj)} {σ:St} {H:Hp} {s:Shared} {A:Around} {E:Value→Shared→Prop}
def E3 (K:PySem.W.Frag) (ta tv:TE) (f:Str):TS:=fun D σ H=>tv σ H fun y H1=>ta σ H1 fun x H2=>∃ a C,x=.ref a∧H2 a=some (ExN a C none)∧XSet K C f∧∀ dx,H2 dx=none→dx≠a→D.nx σ (upd (upd H2 dx (.xd [(f,y)])) a (ExN a C (some dx)))
def DZ (C:Addr) (sp:Sp) (E:XK) (t:TA):TE:=fun σ H Q=>t σ H fun vs H1=>vs.length≤sizeLine∧∀ x,H1 x=none→sp (.ref x::vs) (upd H1 x (ExN x C none)) (fun v H2=>v=.non∧Q (.ref x) H2) E
section
variable {CX:CXT} {k:Nat} {f C:Addr} {fd:FuncData} {ps:List Str} {sp:Sp} {E:XK} {x:Str} {p pos:Pos} {e:Expr} {es:List Expr} {t:TA}
end
end
end L2
namespace L2
open PySem PySem.Spec PyProof.Rows
def drop (H:Hp) (x:Addr):Hp:=fun b=>if b=x then none else H b
section
variable {M:Model} {A:Around} {E:Value→Shared→Prop} {env:Env} {nm q:Str} {C N:Addr} {bs bm:List Value} {hdct:Bool} {sn:List Str} {sub:List Value} {ab:Bool} {col:Option Bool} {dd:Option Addr} {k0 k1 k2 k3 k5:Option Value} {newId:String}
end
def DT (X:Cx) (E:XK):Prop:=∀ (pins:List (Addr×Obj)) (σ:St) (H:Hp) (s:Shared) (x C:Addr) (d:Option Addr),Inv X pins σ H s→H x=some (ExN x C d)→X.H₀ x=none→E (.ref C) d (drop H x)→X.xe (.ref x) s
def DP (X:Cx) (E:XK) (C:Addr) (te:TE):TS:=fun _ σ H=>te σ H fun v H1=>∃ a d,v=.ref a∧H1 a=some (ExN a C d)∧X.H₀ a=none∧E (.ref C) d (drop H1 a)
section
variable {P:Program} {w:World} {K:PySem.W.Frag} {mg:Str→Option Value} {base:Heap} {N:List Str} {qual:Str} {scope:Scope} {f:Addr} {cd:Value} {A:Around} {outer:List Env} {s₀:Shared} {H₀:Hp} {E:XK}
end
end L2
namespace L2
open PySem PySem.Spec PyProof.Rows
def E6 (K:PySem.W.Frag) (ta:TE) (f:Str):TE:=fun σ H Q=>ta σ H fun x H1=>∃ a C dx fs l,x=.ref a∧H1 a=some (ExO a C (some dx))∧H1 dx=some (.xd fs)∧XCls K C∧PySem.W.findIn K (.ref C) f=some none∧fs.lookup f=some (.ref l)∧Q (.ref l) H1
end L2
namespace L2
open PySem PySem.Spec PyProof.Rows
theorem nB:∀ {ss:List Str} {us:List Value},Vals (ss.map V.str) us→∃ l:List (Str×Tok),us=strValues l∧l.map (·.1)=ss
 | [],_,.nil=>⟨[],rfl,rfl⟩
 | x::ss,_,.cons r q=>by
  obtain ⟨l,rfl,e⟩:=nB q
  obtain ⟨t,rfl⟩:=r
  exact ⟨(x,t)::l,rfl,by rw [List.map_cons,e]⟩
def rJoin:V→List V→Hp→VK→Prop:=fun x vs H Q=>∃ sep l ss,x=.str sep∧vs=[.ref l]∧H l=some (.lst (ss.map V.str))∧JoinOk sep ss=true∧Q (.str (Txt.join sep ss)) H
section
variable {X:Cx}
theorem eI:MtM X "str.join" rJoin:=by
 intro pins s σ H x vs v us Q I rx rv h
 obtain ⟨sep,l,ss,rfl,rfl,hH,hok,q⟩:=h
 obtain ⟨t,rfl⟩:=rx
 obtain ⟨u,rfl,ru⟩:=rv.one
 cases ru
 obtain ⟨z,its,n,r,hl,e⟩:=I.lstM hH
 obtain ⟨L,rfl,hL⟩:=nB r
 refine SC.join (l:=L) ⟨_,e,rfl,n,rfl⟩ hL hok fun t' k=>?_
 exact ⟨.str _,_,I.tok k,⟨t',rfl⟩,q⟩
end
def EI (K:PySem.W.Frag) (ta:TE) (f:Str):TE:=fun σ H Q=>ta σ H fun x H1=>∃ a C dx fs v,x=.ref a∧H1 a=some (ExO a C (some dx))∧H1 dx=some (.xd fs)∧XCls K C∧PySem.W.findIn K (.ref C) f=some none∧fs.lookup f=some v∧Q v H1
end L2
namespace L2
open PySem PySem.Spec PyProof.Rows
section
variable {X:Cx}
def ET:R2:=fun x y H Q=>∃ a b xs ys,x=.ref a∧y=.ref b∧H a=some (.tup xs)∧H b=some (.tup ys)∧xs.length+ys.length≤sizeLine∧∀ p H',Same H H'→H' p=some (.tup (xs++ys))→Q (.ref p) H'
end
end L2
namespace L2
open PySem PySem.Spec PyProof.Rows
section
variable {X:Cx}
def Fd:R2:=fun x y H Q=>∃ (a:Addr) (xs:List V) (k:Nat),x=.ref a∧y=.int k∧H a=some (.tup xs)∧xs≠[]∧2≤k∧xs.length * k≤1000∧∀ p,H p=none→Q (.ref p) (upd H p (.tup (List.replicate k xs).flatten))
end
end L2
namespace L2
open PySem PySem.Spec PyProof.Rows
def zy:V→List V→Hp→VK→Prop:=fun x vs H Q=>∃ (l:Addr) (z:Str) (zs:List Str) (j:Nat),x=.ref l∧vs=[.str z]∧H l=some (.lst (zs.map V.str))∧zs.length≤1000∧zs[j]?=some z∧(∀ i,i<j→zs[i]?≠some z)∧Q (.int j) H
def rW (z:Str):Value→Bool
 | .str x _=>x.cps.toList == z.cps.toList
 | _=>false
theorem BP {x z:Str} (h:(x.cps.toList == z.cps.toList)=true):x=z:=by
 have e:=eq_of_beq h
 cases x
 cases z
 simp only [Str.mk.injEq]
 exact Array.toList_inj.mp e
theorem gw:∀ {zs:List Str} {us:List Value},Vals (zs.map V.str) us→∀ (i:Nat) v,us[i]?=some v→∃ x t,zs[i]?=some x∧v=.str x t
 | [],_,r,i,v,e=>by cases r; simp at e
 | b::bs,_,.cons r t,0,v,e=>by
  simp at e
  subst e
  obtain ⟨t',rfl⟩:=r
  exact ⟨b,t',rfl,rfl⟩
 | b::bs,_,.cons r t,i+1,v,e=>by
  obtain ⟨c,t',h1,h2⟩:=gw t i v (by simpa using e)
  exact ⟨c,t',by simpa using h1,h2⟩
section
variable {X:Cx}
theorem yV:MtM X "list.index" zy:=by
 intro pins s σ H x vs v us Q I rx rv h
 obtain ⟨l,z,zs,j,rfl,rfl,hH,hz,hj,hno,q⟩:=h
 cases rx
 obtain ⟨u,rfl,ru⟩:=rv.one
 obtain ⟨t,rfl⟩:=ru
 obtain ⟨z',its,n,r,hl,e⟩:=I.lstM hH
 have hlen:zs.length=its.length:=by rw [← hl,List.length_map]
 have hjl:j<its.length:=by
  have:=(List.getElem?_eq_some_iff.mp hj).1
  omega
 refine call_meets F.slot_list_index ⟨_,e,rfl⟩ F.entry_list_index (F.args_list_index_2 _ _) (PySem.MeetsSeq.list_index l its.toArray n (.str z t) (rW z) (fun y hy=>?_) j (by rw [List.size_toArray]; exact hjl) (by omega) ?_ ?_) ⟨e,?_⟩
 ·obtain ⟨i,hi⟩:=List.getElem?_of_mem (show y∈its by simpa using hy)
  obtain ⟨x,t',_,rfl⟩:=gw r i y hi
  exact PySem.SeqRoads2.EqGives.str x z t' t
 ·obtain ⟨x,t',hx,ev⟩:=gw r j its[j] (List.getElem?_eq_getElem hjl)
  show rW z its[j]=true
  rw [ev]
  rw [hj] at hx
  cases hx
  exact beq_self_eq_true _
 ·intro m hm hmj
  have hml:m<its.length:=by simpa using hm
  obtain ⟨x,t',hx,ev⟩:=gw r m its[m] (List.getElem?_eq_getElem hml)
  show rW z its[m]=false
  rw [ev,Bool.eq_false_iff]
  intro h
  have ex:=BP h
  subst ex
  exact hno m hmj hx
 exact ⟨.int j,H,I.tok _,⟨_,rfl⟩,q⟩
end
end L2
namespace L2
open PySem PySem.Spec PyProof.Rows
section
variable {X:Cx} {K:PySem.W.Frag} {o e:Expr} {es:List Expr} {to:TE} {t:TA} {name:Str} {apos cpos:Pos} {T id:String} {r:V→List V→Hp→VK→Prop}
theorem Cd (hK:X.K=K) (pa:PlainAttrs T) (slot:Slot T name id) (hty:typeOf (.builtin id)=pure (.type "method_descriptor")) (hm:MtR X id r) (ho:PE X o to) (ha:PA X (e::es) t)
  (hbase:attributeBase o name X.env (eval o X.env)=eval o X.env:=by rfl)
  (hfew:((backTo cpos (starEach (e::es) X.env)).all (fun x=>!x.1) && (backToKw cpos (keywordEach [] X.env)).all (fun x=>x.1.isSome)
   && decide ((e::es).length+([]:List Keyword).length+(if ([]:List Keyword).isEmpty then 0 else 1)<30))=true:=by rfl)
  (hline:(apos.endLine == cpos.line)=true:=by rfl) (hs:starEach (e::es) X.env=(false,eval e X.env)::starEach es X.env:=by rfl) (hplain:(backTo cpos (starEach es X.env)).any (·.1)=false:=by rfl) :
  PE X (.Call (.Attribute o name apos) (e::es) [] cpos) (tBM K T r to t):=hK▸cw pa slot hty hm ho ha hbase hfew hline hs hplain
end
end L2
namespace L2
open PySem PySem.Spec PyProof.Rows
@[reducible] def IsZipG (h:Heap) (z TI TO:Addr) (m:Value) (f:Bool):Prop:=h.get? z=some { cls:=.type "zip",data:=.fields #[m,.bool f,.bool false,.ref TI,.ref TO] }
inductive Mark:Value→Prop where
 | none:Mark .none
 | at (a:Int):Mark (rawInt a)
section
variable {prog:Program} {w:World} {A:Around} {E:Value→Shared→Prop} {s:Shared}
end
end L2
namespace L2
open PySem PySem.Spec PyProof.Rows
section
variable {prog:Program} {w:World} {A:Around} {E:Value→Shared→Prop} {s:Shared}
end
def Dl (K:PySem.W.Frag) (t1 t2:Bool) (a b:Addr):It :=
  ⟨fun i H=>∃ xs ys x y,SqX t1 K H a xs∧SqX t2 K H b ys∧xs[i]?=some x∧ys[i]?=some y,
   fun i H v H'=>∃ T2 T x y,H T2=none∧(upd H T2 (.tup [x,y])) T=none∧H'=upd (upd H T2 (.tup [x,y])) T (.tup [.int (i:Int),.ref T2])∧v=.ref T∧∀ xs ys,SqX t1 K H a xs→SqX t2 K H b ys→xs[i]?=some x∧ys[i]?=some y,
   fun i H=>∃ xs ys,SqX t1 K H a xs∧SqX t2 K H b ys∧(xs[i]?=none∨ys[i]?=none)⟩
section
variable {X:Cx}
def Ep (K:PySem.W.Frag) (t1 t2:Bool) (ta:TA):TI:=fun σ H R=>ta σ H fun vs H1=>∃ a b,vs=[.ref a,.ref b]∧(∃ xs,SqX t1 K H1 a xs)∧(∃ ys,SqX t2 K H1 b ys)∧R (Dl K t1 t2 a b) H1
end
end L2
namespace L2
open PySem PySem.Spec PyProof.Rows
def tK {α:Type} (c:Nat→Nat→Bool):W.KasT α→α
 | .ret a=>a
 | .ask i j k=>tK c (k (c i j))
def CU {α:Type} (n:Nat) (R:α→Prop):W.KasT α→Prop
 | .ret a=>R a
 | .ask i j k=>i<n∧j<n∧∀ b,CU n R (k b)
def Low (n:Nat) (p:Array Nat):Prop:=p.size=n∧∀ i,p.getD i 0<n
section
variable {prog:Program} {w:World} {A:Around} {E:Value→Shared→Prop} {s:Shared}
structure SortTo (prog:Program) (w:World) (A:Around) (a:Addr) (vs out:List Value) (h:Heap):Prop where
 few:vs.length<2→out=vs
 many:2≤vs.length→∀ s1:Shared,(∀ b o,b≠a→h.get? b=some o→s1.heap.get? b=some o)→∃ (κ:SortKind) (c:Nat→Nat→Bool),(∀ (Q:SortKind→Shared→Prop) (E:Value→Shared→Prop),Q κ s1→wpAny (model prog w) A (keyKind' vs.toArray) Q E s1)∧
  (∀ i j (C:Bool→Shared→Prop),i<vs.length→j<vs.length→C (c i j) s1→W.kas_ask prog w A κ vs i j C s1)∧out=(tK c (W.kas_sort vs.length)).toList.map fun i=>vs.getD i .none
end
end L2
namespace L2
open PySem PySem.Spec PyProof.Rows
abbrev D3:=Int×Str×Int
def d3V (d:D3):List V:=[.int d.1,.str d.2.1,.int d.2.2]
def FG (H:Hp) (v:V) (d:D3):Prop:=∃ a,v=.ref a∧H a=some (.tup (d3V d))
def EN (d e:D3):Bool:=if eqV (.int d.1) (.int e.1)=true then (if eqV (.str d.2.1) (.str e.2.1)=true then (if eqV (.int d.2.2) (.int e.2.2)=true then false else decide (d.2.2<e.2.2)) else decide (d.2.1.cps.toList<e.2.1.cps.toList)) else decide (d.1<e.1)
def d0:D3:=(0,Str.empty,0)
def Dc (ds:List D3):List Nat:=(tK (fun i j=>EN (ds.getD i d0) (ds.getD j d0)) (W.kas_sort ds.length)).toList
def Fb (ds:List D3):List D3:=if ds.length<2 then ds else (Dc ds).map fun i=>ds.getD i d0
def Fl (h:Heap) (v:Value) (d:D3):Prop:=∃ a o n i t x u j r,v=.ref a∧h.get? a=some o∧o.cls=.type "tuple"∧o.data=.seq #[.int i t,.str x u,.int j r] n∧d=(i,x,j)
section
variable {prog:Program} {w:World} {A:Around} {s:Shared}
end
section
variable {X:Cx}
theorem xp (hc:X.calm=true):cT X (.builtin "sum") (fun xs H Q=>∃ (p:Addr) (ns:List Int),xs=[.ref p]∧SqL X.K H p (ns.map V.int)∧∀ S:Int,Q (.int S) H):=by
 intro pins s σ H xs us Q I r h
 obtain ⟨p,ns,rfl,hp,q⟩:=h
 obtain ⟨u,rfl,ru⟩:=vals1 r
 cases ru
 obtain ⟨its,rv,pl,hz⟩:=I.list hp
 have hl:=pl.isList
 have hlt:p<s.heap.objs.size:=by obtain ⟨_,e,_⟩:=hl; exact Heap.lt_size e
 have hlen:=rv.length
 rw [List.length_map] at hlen
 refine call_sum_walkG (wpAny_pyIter_list hl ?_)
 refine ⟨s.heap.objs.size,[s.heap.objs.size,p],[s.heap.objs.size],its.toArray.size,_,_,fun i=>(ns[i]?).getD 0,rfl,Walks.list (A:=X.A.in1) (I.ok.hd hc) _ p (Nat.ne_of_lt hlt) its.toArray,
  ⟨⟨_,Heap.get?_push_size _ rfl,rfl,rfl⟩,hl.push _⟩,fun b hb=>?_,fun i v hP=>?_,fun h' tk t' hk=>?_⟩
 ·rw [Heap.size_push]
  rcases List.mem_cons.mp hb with rfl | h
  ·exact Nat.lt_succ_self _
  ·rw [List.mem_singleton.mp h]
   exact Nat.lt_succ_of_lt hlt
 ·have hv:its[i]?=some v:=by simpa using hP
  have hi:i<ns.length:=by rw [hlen]; exact (List.getElem?_eq_some_iff.mp hv).1
  obtain ⟨u,hu,ru⟩:=rv.get (i:=i) (x:=.int ns[i]) (by rw [List.getElem?_map,List.getElem?_eq_getElem hi]; rfl)
  rw [hv] at hu
  cases hu
  obtain ⟨t,rfl⟩:=ru
  exact ⟨t,by show Value.int ns[i] t=Value.int ((ns[i]?).getD 0) t; rw [List.getElem?_eq_getElem hi]; rfl⟩
 ·refine ⟨.int _,H,I.kept (t':=tk) fun b o x=>hk b o (fun hm=>?_) (Heap.get?_push_of_some _ x),⟨t',rfl⟩,q _⟩
  rw [List.mem_singleton.mp hm] at x
  exact Nat.lt_irrefl _ (Heap.lt_size x)
end
end L2
namespace L2
open PySem PySem.Spec PyProof.Rows
def wc (lo c:Int) (n:Nat):It:=⟨fun i _=>i<n,fun i H x H'=>H'=H∧x=.int (lo+i * c),fun i _=>n≤i⟩
theorem qI {P:Program} {w:World} {K:PySem.W.Frag} {tg:Expr} (it:Addr) (lo c:Int) (n:Nat):Turn P w K tg (wc lo c n) [it] it (fun i h=>IsRangeIter h it (lo+(i:Nat) * c) ((n:Int) - (i:Nat)) c) where
 mem:=by simp
 obj:=fun i h st b hb=>by
  have e:b=it:=by simpa using hb
  subst e
  exact ⟨_,st,fun v z=>by
   have z':Data.fields _=Data.cell v:=z
   cases z'⟩
 keep:=fun i h h' st k=>k it (by simp) _ st
 item:=by
  intro X hP hw hK hc i pins s σ H E I hf st hg
  subst hP hw hK
  obtain ⟨f0,f1,f2,f3,f4,f5⟩:=hf it (by simp)
  have W:=Walks.range (prog:=X.prog) (w:=X.w) (I.ok.hd hc) it lo c n
  refine W.item i s _ _ hg st fun v h' tk hv st' kk=>?_
  obtain ⟨t,rfl⟩:=hv
  have I1:Inv X pins σ H { s with heap:=h',toks:=tk }:=I.turned (fun b o hb e=>kk b o (by simpa using hb) e) f0 f1 f3 f4 f5
  exact ⟨_,rfl,p8 (s:={ s with heap:=h',toks:=tk }) (n:="range_iterator") st' rfl rfl (by decide) ⟨.int (lo+i * c),H,I1,⟨t,rfl⟩,⟨rfl,rfl⟩,st',fun b hb=>(hf b hb).1⟩⟩
 done:=by
  intro X hP hw hK hc i pins s σ H E I hf st hg
  subst hP hw hK
  obtain ⟨f0,f1,f2,f3,f4,f5⟩:=hf it (by simp)
  exact wpAny_pyNext_range_end (I.ok.hd hc) st (by have:n≤i:=hg; omega) fun h' eb=>⟨rfl,I.turned (t':=s.toks) (fun b o hb e=>eb b o hb e) f0 f1 f3 f4 f5⟩
 self:=fun _ _ _ _ _ st h=>wpAny_pyIter_rangeiter st h
section
variable {X:Cx} {tg:Expr}
theorem wI {pins:List (Addr×Obj)} {σ:St} {H:Hp} {s:Shared} {R:It→Hp→Prop} {E:Value→Shared→Prop} {lo hi c:Int} {n:Nat} {t u v:Tok} {tk:Nat} (I:Inv X pins σ H s) (hs:Builtin.Range.small lo hi c=true) (hn:Builtin.Range.rangeSize lo hi c=(n:Int))
  (q:R (wc lo c n) H):wpAny (model X.prog X.w) X.A (pyIter (.ref s.heap.objs.size)) (PIE X pins σ tg R) E { s with heap:=s.heap.push { cls:=.type "range",data:=.fields #[.int lo t,.int hi u,.int c v] },toks:=tk }:=by
 refine wpAny_pyIter_range (IsRange.new ..) hs ?_
 have I1:Inv X pins σ H { s with heap:=s.heap.push { cls:=.type "range",data:=.fields #[.int lo t,.int hi u,.int c v] },toks:=tk }:=I.kept fun b o e=>Heap.get?_push_of_some _ e
 refine ⟨(s.heap.push { cls:=.type "range",data:=.fields #[.int lo t,.int hi u,.int c v] }).objs.size,[(s.heap.push { cls:=.type "range",data:=.fields #[.int lo t,.int hi u,.int c v] }).objs.size],_,_,H,rfl,
  I1.kept (t':=tk) fun b o e=>Heap.get?_push_of_some _ e,qI _ lo c n,?_,fun b hb=>?_,q⟩
 ·have e1:lo+((0:Nat):Int) * c=lo:=by simp
  have e2:((n:Nat):Int) - ((0:Nat):Int)=Builtin.Range.rangeSize lo hi c:=by rw [hn]; omega
  show IsRangeIter _ _ (lo+((0:Nat):Int) * c) (((n:Nat):Int) - ((0:Nat):Int)) c
  rw [e1,e2]
  exact Heap.get?_push_size _ rfl
 ·have e:b=(s.heap.push { cls:=.type "range",data:=.fields #[.int lo t,.int hi u,.int c v] }).objs.size:=by simpa using hb
  subst e
  exact I1.fpOk (Nat.le_refl _) (I1.hok.fresh (Nat.le_refl _))
def CO (ta:TA):TI:=fun σ H R=>ta σ H fun vs H1=>∃ (i j c:Int) (n:Nat),vs=[.int i,.int j,.int c]∧c≠0∧c.natAbs<1073741824∧Builtin.Range.small i j c=true∧Builtin.Range.rangeSize i j c=(n:Int)∧R (wc i c n) H1
theorem wD {a b c:Expr} {ta:TA} {p pos:Pos} (hg:Gl X "range") (hm:X.mg "range"=none) (ha:PA X [a,b,c] ta) (hs:starEach [a,b,c] X.env=[(false,eval a X.env),(false,eval b X.env),(false,eval c X.env)]:=by rfl) (hs2:starEach [b,c] X.env=[(false,eval b X.env),(false,eval c X.env)]:=by rfl) :
  PI X tg (.Call (.Name "range" p) [a,b,c] [] pos) (CO ta):=by
 intro pins s σ H R I h
 refine Call_ (fL I hg hm boot_range (PyProof.Rows.callWith_type1 (thn (ha pos pins s σ H _ I h) fun us s1 ⟨vs,H1,I1,r1,q1⟩=>?_) (by rw [hs,hs2]) (by rw [hs2]; rfl)))
 obtain ⟨i,j,c,n,e,h0,hb,q1,q2,q⟩:=q1
 subst e
 cases r1 with
 | cons r rr =>
  cases rr with
  | cons r' rr =>
   cases rr with
   | cons r'' rr =>
    cases rr
    obtain ⟨t,rfl⟩:=r
    obtain ⟨t',rfl⟩:=r'
    obtain ⟨t'',rfl⟩:=r''
    exact call_range_3 h0 (wI I1 q1 q2 q) (Or.inl (PyProof.noPylong_small hb))
end
theorem si {lo c:Int} {n:Nat} {g:TG} {tb:TS} {D:Ends} {σ:St} {H:Hp} (Pv:Nat→St→Hp→Prop) (h0:Pv 0 σ H)
  (hs:∀ i σ H,i<n→Pv i σ H→g (.int (lo+i * c)) σ H fun σ2 H2=>tb { D with nx:=Pv (i+1),ct:=Pv (i+1),bk:=D.nx } σ2 H2) (hd:∀ σ H,Pv n σ H→D.nx σ H) :
  ∃ W:Nat→Nat→St→Hp→Prop,(∃ m,W 0 m σ H)∧∀ i m σ H,W i m σ H→
   ((wc lo c n).stop i H∧D.nx σ H)∨((wc lo c n).go i H∧∃ N:St→Hp→Prop,(∀ σ' H',N σ' H'→∃ m',m'<m∧W (i+1) m' σ' H')∧∀ x H',(wc lo c n).yld i H x H'→g x σ H' fun σ2 H2=>tb { D with nx:=N,ct:=N,bk:=D.nx } σ2 H2):=by
 refine ⟨fun i m σ H=>m=n - i∧i≤n∧Pv i σ H,⟨n,by simp,Nat.zero_le _,h0⟩,?_⟩
 rintro i m σ H ⟨rfl,hi,p⟩
 by_cases hlt:i<n
 ·refine .inr ⟨hlt,Pv (i+1),fun σ' H' p'=>⟨n - (i+1),by omega,rfl,hlt,p'⟩,fun x H' y=>?_⟩
  obtain ⟨e,y⟩:=y
  subst e y
  exact hs i σ _ hlt p
 ·have e:i=n:=by omega
  subst e
  exact .inl ⟨Nat.le_refl _,hd σ H p⟩
theorem qz (xs:Array Nat):∀ (k:Nat) (acc:Array Nat),((List.replicate k xs).foldl (·++·) acc).size=acc.size+k * xs.size
 | 0,acc=>by simp
 | k+1,acc=>by
  rw [List.replicate_succ,List.foldl_cons,qz xs k,Array.size_append,Nat.succ_mul]
  omega
section
variable {X:Cx}
end
end L2
namespace L2
open PySem PySem.Spec PyProof.Rows
structure RoomH (k:Nat) (A:Around):Prop where
 dp:A.depth+3 * k+5<recursionLimit
 un:A.units+16 * k+200<cLine
structure FnOkH (P:Program) (w:World) (K:PySem.W.Frag) (mg:Str→Option Value) (base:Heap) (k:Nat) (f:Addr) (fd:FuncData) (ps:List Str) (sp:Sp):Prop where
 len:∀ vs H Q E,sp vs H Q E→vs.length=ps.length
 run:∀ (A:Around) (outer:List Env) (s:Shared) (H:Hp) (args:Args) (us:List Value) (vs:List V) (Q:VK) (E:XK),RoomH k A→Env0 P w K mg base A outer s H→BindsTo s fd args (ps.zip us)→Vals vs us→sp vs H Q E→
  codeAny (model P w) A (.call (.ref f) args) (CR CX0 outer P w H s Q E) s
abbrev Fh (P:Program) (w:World) (K:PySem.W.Frag) (mg:Str→Option Value) (base:Heap) (N:List Str) (qual:Str) (scope:Scope) (f:Addr) (cd:Value) (A:Around) (outer:List Env) (s:Shared) (H:Hp) (E:XK):Cx :=
 { gL CX0 P w K mg base N qual scope f cd A outer s H E with calm:=false,xe:=fun _ _=>False }
section
variable {P:Program} {w:World} {K:PySem.W.Frag} {mg:Str→Option Value} {base:Heap}
end
structure CalH (P:Program) (w:World) (K:PySem.W.Frag) (mg:Str→Option Value) (base:Heap) (k:Nat) (x:Str) (ps:List Str) (sp:Sp):Prop where
 ex:∃ (f:Addr) (fd:FuncData),FnOkH P w K mg base k f fd ps sp∧Binds K fd ps []∧PySem.W.keepIn K (.ref f)=true∧mg x=some (.ref f)
section
variable {X:Cx} {k:Nat} {ps:List Str} {sp:Sp} {x:Str} {p pos:Pos} {e:Expr} {es:List Expr} {t:TA}
end
end L2
namespace L2
open PySem PySem.Spec PyProof.Rows
theorem gM:∀ (l:List (Str×Tok)),Vals ((l.map (·.1)).map V.str) (strValues l)
 | []=>.nil
 | p::r=>.cons ⟨p.2,rfl⟩ (gM r)
def Cm:V→List V→Hp→VK→Prop:=fun x vs H Q=>∃ z y,x=.str z∧vs=[.str y]∧(y.length == 0)=false∧z.length≤4000∧∀ p,H p=none→Q (.ref p) (upd H p (.lst ((Txt.split z y).map V.str)))
def Dx:V→List V→Hp→VK→Prop:=fun x vs H Q=>∃ z y,x=.str z∧vs=[.str y]∧(y.length == 0)=false∧z.length≤4000∧∀ p,H p=none→Q (.ref p) (upd H p (.tup [.str (Txt.partition z y).1,.str (Txt.partition z y).2.1,.str (Txt.partition z y).2.2]))
def CN:V→List V→Hp→VK→Prop:=fun x vs H Q=>∃ z y,x=.str z∧vs=[.str y]∧Q (.bl (Txt.endswith z y)) H
section
variable {X:Cx}
theorem jc:MtM X "str.split" Cm:=by
 intro pins s σ H x vs v us Q I rx rv h
 obtain ⟨z,y,rfl,rfl,hy,hz,q⟩:=h
 obtain ⟨t,rfl⟩:=rx
 obtain ⟨u',rfl,u,rfl⟩:=rv.one
 have hsz:z.length+2≤sizeLine:=by rw [sizeLine_eq]; omega
 have key:∀ (l:List (Str×Tok)) (k:Nat),l.map (·.1)=Txt.split z y→EP X pins σ Q (.ref s.heap.objs.size) { s with heap:=s.heap.push { cls:=.type "list",data:=.seq (strValues l).toArray },toks:=k }:=fun l k e=>by
  have hv:=gM l
  rw [e] at hv
  have hle:=split_le z y
  exact ⟨.ref _,_,I.lnew (t':=k) hv (by rw [List.length_map]; omega),rfl,q _ I.fresh⟩
 have hn:(Builtin.Str.partsBetween z (Builtin.Str.occurrences z y 0 z.length (z.length+1)) y.length).length≤sizeLine:=by
  have e1:=StrLaws.occ_length_le z y 0 z.length (z.length+1)
  rw [length_partsBetween]; omega
 cases h1:(decide (z.length<y.length) || decide (Builtin.Str.strKind z<Builtin.Str.strKind y))
 ·cases hf:(Builtin.Str.occurrences z y 0 z.length (z.length+1)).isEmpty
  ·refine call_meets F.slot_str_split (typeIs_str _ _ _) F.entry_str_split (F.args_str_split_2 _ _) (meets_str_split_sep z y t u h1 hy hf (by omega) hn) ?_
   rw [strsFrom_eq]
   exact key (numbered s.toks _) _ ((numbered_texts _ _).trans ((if_neg (ne_true_of_eq_false h1)).trans (if_neg (ne_true_of_eq_false hf))).symm)
  ·exact call_meets F.slot_str_split (typeIs_str _ _ _) F.entry_str_split (F.args_str_split_2 _ _) (meets_str_split_not_found z y t u h1 hy hf) (key [(z,t)] s.toks ((if_neg (ne_true_of_eq_false h1)).trans (if_pos hf)).symm)
 ·exact call_meets F.slot_str_split (typeIs_str _ _ _) F.entry_str_split (F.args_str_split_2 _ _) (meets_str_split_cannot_occur z y t u h1) (key [(z,t)] s.toks (if_pos h1).symm)
theorem oG:MtM X "str.partition" Dx:=by
 intro pins s σ H x vs v us Q I rx rv h
 obtain ⟨z,y,rfl,rfl,hy,hz,q⟩:=h
 obtain ⟨t,rfl⟩:=rx
 obtain ⟨u',rfl,u,rfl⟩:=rv.one
 have key:∀ (a b c:Str) (ta tb tc:Tok) (k:Nat),(Txt.partition z y)=(a,b,c)→EP X pins σ Q (.ref s.heap.objs.size) { s with heap:=s.heap.push { cls:=.type "tuple",data:=.seq [Value.str a ta,.str b tb,.str c tc].toArray },toks:=k }:=fun a b c ta tb tc k e=>by
  rw [e] at q
  refine ⟨.ref _,_,I.laid (t':=k) (fun b o e=>Heap.get?_push_of_some _ e) (Nat.le_refl _) (show ObjOk X.prog X.w _ _ _ (.tup [.str a,.str b,.str c]) from ⟨by show 3≤sizeLine; decide,_,.cons ⟨ta,rfl⟩ (.cons ⟨tb,rfl⟩ (.cons ⟨tc,rfl⟩ .nil)),IsTup.new _ _⟩),rfl,q _ I.fresh⟩
 refine call_meets F.slot_str_partition (typeIs_str _ _ _) F.entry_str_partition (F.args_str_partition_2 _ _) (meets_str_partition z y t u hy (by rw [sizeLine_eq]; omega)) ?_
 have e:∀ r,r=Txt.partition z y→Txt.partition z y=r:=fun _ h=>h.symm
 unfold Txt.partition at e
 revert e
 cases eo:Builtin.Str.occurrences z y 0 z.length 1 with
 | nil=>intro e; exact key _ _ _ _ _ _ _ (by unfold Txt.partition; rw [eo])
 | cons i r=>intro e; exact key _ _ _ _ _ _ _ (by unfold Txt.partition; rw [eo])
theorem qZ:MtM X "str.endswith" CN:=by
 intro pins s σ H x vs v us Q I rx rv h
 obtain ⟨z,y,rfl,rfl,q⟩:=h
 obtain ⟨t,rfl⟩:=rx
 obtain ⟨u',rfl,u,rfl⟩:=rv.one
 exact SC.endswith ⟨.bl _,H,I,rfl,q⟩
theorem fP:cT X (.type "int") (fun xs H Q=>∃ z n,xs=[.str z]∧z.length≤640∧PySem.intText? z=some n∧Q (.int n) H):=by
 intro pins s σ H xs us Q I r h
 obtain ⟨z,n,rfl,hl,hn,q⟩:=h
 obtain ⟨u,rfl,t,rfl⟩:=vals1 r
 exact W.KIN.call_text hn hl ⟨.int n,H,I.tok _,⟨_,rfl⟩,q⟩
def D4 (ta:TE):TE:=fun σ H Q=>ta σ H fun x H1=>(∃ y,x=.str y∧y.length≤1000∧Q (.str y) H1)∨∃ i:Int,x=.int i∧i.natAbs.log2<1920∧Q (.str (toString i)) H1
theorem tV {e:Expr} {ta:TE} {pos:Pos} (he:PE X e ta):PE X (.FormattedValue e (-1) none pos) (D4 ta):=by
 intro pins s σ H Q I h
 refine FormattedValue_plain (thn (he pins s σ H _ I h) fun u s1 ⟨x,H1,I1,rx,q⟩=>?_)
 rcases q with ⟨y,rfl,hy,q⟩ | ⟨i,rfl,hi,q⟩
 ·obtain ⟨t,rfl⟩:=rx
  exact formatField_str (fun t' tk=>⟨.str y,H1,I1.tok tk,⟨t',rfl⟩,q⟩) (by rw [sizeLine_eq]; omega)
 ·obtain ⟨t,rfl⟩:=rx
  exact formatField_int_small hi ⟨.str _,H1,I1.tok _,⟨_,rfl⟩,q⟩
def PJ (X:Cx) (es:List Expr) (tj:Str→TE):Prop:=∀ (out:Str) (pins:List (Addr×Obj)) (s:Shared) (σ:St) (H:Hp) (Q:VK),Inv X pins σ H s→tj out σ H Q→wpAny (model X.prog X.w) X.A (joinParts out (evalEach es X.env)) (EP X pins σ Q) X.xe s
def DE:Str→TE:=fun out _ H Q=>out.length≤1000∧Q (.str out) H
def BQ (te:TE) (tj:Str→TE):Str→TE:=fun out σ H Q=>te σ H fun x H1=>∃ y,x=.str y∧(out++y).length≤1000∧tj (out++y) σ H1 Q
theorem BH:PJ X [] DE:=by
 intro out pins s σ H Q I h
 exact joinParts_nilE (joinParts_nil ⟨.str out,H,I.tok _,⟨_,rfl⟩,h.2⟩ (by have:=h.1; rw [sizeLine_eq]; omega))
theorem kX {e:Expr} {es:List Expr} {te:TE} {tj:Str→TE} (he:PE X e te) (hs:PJ X es tj):PJ X (e::es) (BQ te tj):=by
 intro out pins s σ H Q I h
 refine joinParts_consE (joinParts_cons (thn (he pins s σ H _ I h) fun u s1 ⟨x,H1,I1,rx,y,ex,hy,q⟩=>?_))
 subst ex
 obtain ⟨t,rfl⟩:=rx
 exact ⟨by rw [sizeLine_eq]; omega,hs _ pins s1 σ H1 Q I1 q⟩
theorem AH {e1 e2:Expr} {es:List Expr} {pos:Pos} {tj:Str→TE} (h:PJ X (e1::e2::es) tj):PE X (.JoinedStr (e1::e2::es) pos) (tj Str.empty):=by
 intro pins s σ H Q I q
 exact JoinedStr_many (h Str.empty pins s σ H Q I q)
end
end L2
namespace L2
open PySem PySem.Spec PyProof.Rows
section
variable {X:Cx} {CX:CXT} {k:Nat} {f:Addr} {fd:FuncData} {ps:List Str} {sp:Sp} {dvs:List V} {ds:List Value} {E:XK} {m:Str} {pos apos:Pos} {o:Expr} {ta:TE}
theorem vX {pl:Sem Bool} (he:PE X o ta) (F:FnOk X.prog X.w X.K X.mg X.base CX k f fd ps sp) (hr:Room k X.A) (hb:Binds X.K fd ps ds) (hd:Vals dvs ds) (hx:Passes CX X E)
  (ht:eval (.Call (.Attribute o m apos) [] [] pos) X.env=(do let ov ← eval o X.env; standAt apos.atName; let (f,first) ← holding [ov] (getMethod ov m pl); callWith pos f first (backTo pos (starEach [] X.env)) (backToKw pos (keywordEach [] X.env))):=by rfl) :
  PE X (.Call (.Attribute o m apos) [] [] pos) (xQ X.K f m sp dvs E ta CG):=by
 intro pins s σ H Q I h
 refine PySem.W.methodCall_KW (pl:=pl) (thn (he pins s σ H _ I h) fun u s1 ⟨x,H1,I1,rx,C,a,dx,fs,ex,ea,c,hm,l,q⟩=>?_) ht
 subst ex; obtain rfl:u=Value.ref a:=rx
 refine lC I1 ea c hm l ?_
 exact PySem.W.callWith_K0 (first:=[.ref a]) I1.kIn hm.kp (pW (us:=[.ref a]) (vs:=[.ref a]) F hr hb hd hx I1 (.cons rfl .nil) q)
end
end L2
namespace L2
open PySem PySem.Spec PyProof.Rows
def jn (c:Nat):List (List Nat)→List Nat
 | []=>[]
 | [x]=>x
 | x::y::r=>x++c::jn c (y::r)
theorem nJ {c:Nat}:∀ {x y r s:List Nat},c∉x→c∉y→x++c::r=y++c::s→x=y∧r=s
 | [],[],_,_,_,_,h=>⟨rfl,(List.cons.inj h).2⟩
 | [],b::y,_,_,_,hy,h=>absurd ((List.cons.inj h).1▸List.mem_cons_self) hy
 | a::x,[],_,_,hx,_,h=>absurd ((List.cons.inj h).1▸List.mem_cons_self) hx
 | a::x,b::y,r,s,hx,hy,h=>by
  have h':a::(x++c::r)=b::(y++c::s):=h
  obtain ⟨e,h2⟩:=List.cons.inj h'
  obtain ⟨e1,e2⟩:=nJ (fun z=>hx (List.mem_cons_of_mem _ z)) (fun z=>hy (List.mem_cons_of_mem _ z)) h2
  exact ⟨by rw [e,e1],e2⟩
theorem xM {c:Nat}:∀ {xs ys:List (List Nat)},xs≠[]→ys≠[]→(∀ x∈xs,c∉x)→(∀ y∈ys,c∉y)→jn c xs=jn c ys→xs=ys
 | [],_,h,_,_,_,_=>absurd rfl h
 | _,[],_,h,_,_,_=>absurd rfl h
 | [x],[y],_,_,_,_,h=>by
  have h':x=y:=h
  rw [h']
 | [x],y::z::r,_,_,hx,_,h=>by
  have h':x=y++c::jn c (z::r):=h
  exact absurd (by rw [h']; exact List.mem_append_right _ List.mem_cons_self) (hx x List.mem_cons_self)
 | x::z::r,[y],_,_,_,hy,h=>by
  have h':x++c::jn c (z::r)=y:=h
  exact absurd (by rw [← h']; exact List.mem_append_right _ List.mem_cons_self) (hy y List.mem_cons_self)
 | x::z::r,y::w::s,_,_,hx,hy,h=>by
  obtain ⟨e1,e2⟩:=nJ (hx x List.mem_cons_self) (hy y List.mem_cons_self) (show x++c::jn c (z::r)=y++c::jn c (w::s) from h)
  rw [e1,xM (List.cons_ne_nil _ _) (List.cons_ne_nil _ _) (fun a ha=>hx a (List.mem_cons_of_mem _ ha)) (fun a ha=>hy a (List.mem_cons_of_mem _ ha)) e2]
theorem cZ {a b:Str} (h:a.cps.toList=b.cps.toList):a=b:=Str.ext' (Array.toList_inj.mp h)
theorem bB (a b:Str):(a++b).cps.toList=a.cps.toList++b.cps.toList:=by
 show (a.cps++b.cps).toList=_
 rw [Array.toList_append]
theorem iB (c:Nat):∀ xs:List Str,(Str.join ⟨#[c]⟩ xs).cps.toList=jn c (xs.map fun x=>x.cps.toList)
 | []=>rfl
 | [x]=>rfl
 | x::y::r=>by
  have ih:=iB c (y::r)
  show (x++(⟨#[c]⟩:Str)++Str.join ⟨#[c]⟩ (y::r)).cps.toList=_
  rw [bB,bB,ih]
  show x.cps.toList++[c]++_=x.cps.toList++c::_
  rw [List.append_assoc]
  rfl
theorem ot (c:Nat) (xs:List Str):(Txt.join ⟨#[c]⟩ xs).cps.toList=jn c (xs.map fun x=>x.cps.toList):=by
 show (Builtin.Str.glued ⟨#[c]⟩ xs).cps.toList=_
 rw [StrLaws.glued_eq_join,iB]
theorem kH:∀ {xs ys:List Str},(xs.map fun x=>x.cps.toList)=(ys.map fun x=>x.cps.toList)→xs=ys
 | [],[],_=>rfl
 | [],_::_,h=>by cases h
 | _::_,[],h=>by cases h
 | x::xs,y::ys,h=>by
  obtain ⟨e1,e2⟩:=List.cons.inj h
  rw [cZ e1,kH e2]
theorem iN {c:Nat} {parts:List Str} {z:Str} (hz:z.cps.toList=jn c (parts.map fun x=>x.cps.toList)) (hne:parts≠[]) (hf:∀ p∈parts,c∉p.cps.toList):Txt.split z ⟨#[c]⟩=parts:=by
 have h1:=StrLaws.join_split z ⟨#[c]⟩
 have h2:=StrLaws.split_free z c
 have h3:=split_pos z ⟨#[c]⟩
 have e:=congrArg (fun s:Str=>s.cps.toList) h1
 rw [iB,hz] at e
 refine kH (xM (c:=c) (fun q=>?_) (fun q=>hne (List.map_eq_nil_iff.mp q)) ?_ ?_ e)
 ·rw [List.map_eq_nil_iff.mp q] at h3
  exact absurd h3 (by decide)
 ·intro x hx
  obtain ⟨p,hp,rfl⟩:=List.mem_map.mp hx
  exact h2 p hp
 ·intro x hx
  obtain ⟨p,hp,rfl⟩:=List.mem_map.mp hx
  exact hf p hp
theorem nA {c:Nat} {a b z:Str} (hz:z.cps.toList=a.cps.toList++c::b.cps.toList) (ha:c∉a.cps.toList):Txt.partition z ⟨#[c]⟩=(a,⟨#[c]⟩,b):=by
 have la:=bj a
 have lb:=bj b
 have lz:=bj z
 rw [hz,List.length_append,List.length_cons] at lz
 have hat:z.cps.toList[a.length]?=some c:=by
  rw [hz,← la,List.getElem?_append_right (Nat.le_refl _),Nat.sub_self]
  rfl
 unfold Txt.partition
 rcases StrLaws.occ_head z ⟨#[c]⟩ 1 (Nat.le_refl _) with ⟨_,h2⟩ | ⟨i,r,h1,h2,h3⟩
 ·exact absurd ((StrLaws.subAt_one z c a.length).mpr hat) (h2 a.length)
 ·have hi:=(StrLaws.subAt_one z c i).mp h2
  have e:i=a.length:=by
   refine Classical.byContradiction fun ne=>?_
   by_cases hl:i<a.length
   ·rw [hz,List.getElem?_append_left (by omega)] at hi
    exact ha (List.mem_of_getElem? hi)
   ·exact h3 a.length (by omega) ((StrLaws.subAt_one z c a.length).mpr hat)
  subst e
  rw [h1]
  show (Builtin.Str.strSub z 0 a.length,(⟨#[c]⟩:Str),Builtin.Str.strSub z (a.length+1) z.length)=_
  have e1:Builtin.Str.strSub z 0 a.length=a:=cZ (by rw [StrLaws.strSub_toList,hz,List.drop_zero,Nat.sub_zero,← la,List.take_left'] ; rfl)
  have e2:Builtin.Str.strSub z (a.length+1) z.length=b:=cZ (by
   rw [StrLaws.strSub_toList,hz]
   have:List.drop (a.length+1) (a.cps.toList++c::b.cps.toList)=b.cps.toList:=by
    rw [← la,List.drop_append]
    simp
   rw [this]
   exact List.take_of_length_le (by omega))
  rw [e1,e2]
theorem vw {c:Nat} {a z:Str} (hz:z.cps.toList=a.cps.toList++[c]):Txt.endswith z ⟨#[c]⟩=true:=by
 have la:=bj a
 have lz:=bj z
 rw [hz,List.length_append] at lz
 have lz':a.cps.toList.length+1=z.length:=lz
 have h:=(StrLaws.subAt_one z c a.length).mpr (by rw [hz,← la,List.getElem?_append_right (Nat.le_refl _),Nat.sub_self]; rfl)
 unfold Txt.endswith
 rw [Bool.and_eq_true]
 refine ⟨decide_eq_true (by show 0+1≤z.length; omega),?_⟩
 have e:z.length - (⟨#[c]⟩:Str).length=a.length:=by show z.length - 1=_; omega
 rw [e]
 exact h.2
theorem w9 {c:Nat} {z:Str} (h:c∉z.cps.toList):Txt.endswith z ⟨#[c]⟩=false:=by
 rw [Bool.eq_false_iff]
 intro q
 unfold Txt.endswith at q
 rw [Bool.and_eq_true] at q
 have q1:0+1≤z.length:=of_decide_eq_true q.1
 have:=(StrLaws.subAt_one z c (z.length - 1)).mp ⟨by show z.length - 1+1≤z.length; omega,q.2⟩
 exact h (List.mem_of_getElem? this)
theorem sG {c:Nat} {a z:Str} (hz:z.cps.toList=a.cps.toList++[c]):Txt.slice z none (some (-1))=a:=by
 refine cZ ?_
 rw [gm,hz]
 unfold sX
 rw [HT.f9,List.drop_zero]
 have e:HT.sIx (a.cps.toList++[c]).length (a.cps.toList++[c]).length (some (-1))=a.cps.toList.length:=by
  show ((-1:Int)+(((a.cps.toList++[c]).length:Nat):Int)).toNat=_
  rw [List.length_append]
  show ((-1:Int)+((a.cps.toList.length+1:Nat):Int)).toNat=_
  omega
 rw [e,Nat.sub_zero]
 exact List.take_left'  rfl
def aK (n:Int):Str:=toString n
def dg (n:Nat):List Nat:=(Nat.toDigits 10 n).map Char.toNat
theorem uK:∀ n,n<1001→((dg n).all fun c=>decide (48≤c) && decide (c≤57))=true∧1≤(dg n).length∧(dg n).length≤4∧(dg n=[48]∨(dg n)[0]?≠some 48):=by decide +kernel
theorem ib (n:Nat):(aK (n:Int)).cps.toList=dg n:=W.KIN.signs_num n
theorem jh {n:Nat} (h:n<1001):∀ c∈(aK (n:Int)).cps.toList,48≤c∧c≤57:=fun c hc=>by
 rw [ib] at hc
 have:=List.all_eq_true.mp (uK n h).1 c hc
 rw [Bool.and_eq_true] at this
 exact ⟨of_decide_eq_true this.1,of_decide_eq_true this.2⟩
theorem dr {n:Nat} (h:n<1001):1≤(aK (n:Int)).length∧(aK (n:Int)).length≤4:=by
 rw [← bj,ib]
 exact ⟨(uK n h).2.1,(uK n h).2.2.1⟩
theorem eP {n:Nat} (h:n<1001):PySem.intText? (aK (n:Int))=some (n:Int):=W.KIN.num_reads (by omega) (by
 have:(n:Int)<1001:=by omega
 exact Int.lt_of_lt_of_le this (by decide))
end L2
namespace L2
open PySem PySem.Spec PyProof.Rows
def EU (p:Nat→Bool) (i:Nat) (r:Option Nat):Id (ForInStep (Option Nat)):=if p i then pure (ForInStep.yield (some i)) else pure (ForInStep.yield r)
section
variable {X:Cx}
def Ew:V→List V→Hp→VK→Prop:=fun x vs H Q=>∃ z y,x=.str z∧vs=[.str y]∧(y.length == 0)=false∧z.length≤4000∧∀ p,H p=none→Q (.ref p) (upd H p (.tup [.str (Txt.rpartition z y).1,.str (Txt.rpartition z y).2.1,.str (Txt.rpartition z y).2.2]))
end
end L2
namespace L2
open PySem PySem.Spec PyProof.Rows
def Df (K:PySem.W.Frag) (H:Hp) (u:V):Prop:=u=.non∨∃ p ys,u=.ref p∧SqT K H p ys
def isN:V→Bool
 | .non=>true
 | _=>false
def FP (K:PySem.W.Frag):R2:=fun x y H Q=>x=.non∧∃ p xs,y=.ref p∧(SqL K H p xs∨SqT K H p xs)∧(∀ u∈xs,Df K H u)∧Q (.bl (xs.any isN)) H
section
variable {X:Cx}
def DO (K:PySem.W.Frag):V→List V→Hp→VK→Prop:=fun x vs H Q=>∃ (l:Addr) (xs:List V) (j:Nat),x=.ref l∧vs=[.non]∧H l=some (.lst xs)∧xs.length≤1000∧(∀ u∈xs,Df K H u)∧xs[j]?=some .non∧(∀ i,i<j→xs[i]?≠some .non)∧Q (.int j) H
end
end L2
namespace L2
open PySem PySem.Spec PyProof.Rows
section
variable {κ:Type} [DecidableEq κ]
def cm (kvs:List (κ×V)) (k:κ):Option V:=(kvs.find? fun kv=>decide (kv.1=k)).map (·.2)
def putK (kvs:List (κ×V)) (k:κ) (v:V):List (κ×V) :=
 if (kvs.any fun kv=>decide (kv.1=k))=true then kvs.map (fun kv=>if kv.1=k then (kv.1,v) else kv) else kvs++[(k,v)]
def wR (kvs:List (κ×V)) (k:κ):List (κ×V):=kvs.filter fun kv=>decide (kv.1≠k)
theorem cq {p:κ×V} {r:List (κ×V)} {k:κ} (e:p.1=k):cm (p::r) k=some p.2:=by simp [cm,List.find?_cons,e]
theorem cH {p:κ×V} {r:List (κ×V)} {k:κ} (e:¬ p.1=k):cm (p::r) k=cm r k:=by simp [cm,List.find?_cons,e]
theorem jv (k:κ):∀ kvs:List (κ×V),(kvs.any fun kv=>decide (kv.1=k))=(cm kvs k).isSome
 | []=>rfl
 | p::r=>by
  rw [List.any_cons]
  by_cases e:p.1=k
  ·simp only [cq e,decide_eq_true e,Bool.true_or,Option.isSome_some]
  ·rw [cH e,decide_eq_false e,Bool.false_or]; exact jv k r
theorem qt (k j:κ) (y:V):∀ kvs:List (κ×V),cm (kvs.map fun kv=>if kv.1=k then (kv.1,y) else kv) j=(cm kvs j).map fun x=>if j=k then y else x
 | []=>rfl
 | p::r=>by
  have ih:=qt k j y r
  rw [List.map_cons]
  by_cases h:p.1=k
  ·rw [if_pos h]
   by_cases e:p.1=j
   ·rw [cq (p:=(p.1,y)) e,cq e,Option.map_some,if_pos (e.symm.trans h)]
   ·rw [cH (p:=(p.1,y)) e,cH e,ih]
  ·rw [if_neg h]
   by_cases e:p.1=j
   ·rw [cq (p:=p) e,cq e,Option.map_some,if_neg (fun z=>h (e.trans z))]
   ·rw [cH (p:=p) e,cH e,ih]
theorem og (k j:κ) (y:V):∀ kvs:List (κ×V),cm kvs k=none→cm (kvs++[(k,y)]) j=if j=k then some y else cm kvs j
 | [],_=>by
  by_cases e:k=j
  ·rw [if_pos e.symm]; exact cq (p:=(k,y)) e
  ·rw [if_neg (fun z=>e z.symm)]; exact cH (p:=(k,y)) e
 | p::r,hn=>by
  rw [List.cons_append]
  have hk:¬ p.1=k:=fun z=>by rw [cq z] at hn; cases hn
  rw [cH hk] at hn
  have ih:=og k j y r hn
  by_cases e:p.1=j
  ·rw [cq e,cq e,if_neg (fun z=>hk (e.trans z))]
  ·rw [cH e,cH e,ih]
theorem rp (kvs:List (κ×V)) (k j:κ) (y:V):cm (putK kvs k y) j=if j=k then some y else cm kvs j:=by
 unfold putK
 by_cases a:(kvs.any fun kv=>decide (kv.1=k))=true
 ·rw [if_pos a,qt]
  rw [jv] at a
  by_cases e:j=k
  ·obtain ⟨x,hx⟩:=Option.isSome_iff_exists.mp a
   rw [if_pos e,e,hx,Option.map_some,if_pos rfl]
  ·rw [if_neg e]
   cases cm kvs j with
   | none=>rfl
   | some x=>rw [Option.map_some,if_neg e]
 ·rw [if_neg a]
  refine og k j y kvs ?_
  rw [jv] at a
  cases q:cm kvs k with
  | none=>rfl
  | some x=>rw [q] at a; exact (a rfl).elim
theorem fq (kvs:List (κ×V)) (k:κ) (v:V):(putK kvs k v).length≤kvs.length+1:=by
 unfold putK
 split
 ·rw [List.length_map]; omega
 ·rw [List.length_append,List.length_cons,List.length_nil]; omega
theorem RelO.isSome_eq {o:Option V} {u:Option Value} (r:RelO o u):o.isSome=u.isSome:=by
 cases o with
 | none=>cases u with
  | none=>rfl
  | some _=>exact (show False from r).elim
 | some _=>cases u with
  | none=>exact (show False from r).elim
  | some _=>rfl
theorem KV.val {kvs:List (κ×V)} {vs:List (κ×Value)} (r:KV kvs vs) (k:κ):RelO (cm kvs k) (valueAt vs k):=by
 unfold KV at r
 induction r with
 | nil=>exact True.intro
 | @cons p q ps qs h t ih =>
  obtain ⟨h1,h2⟩:=h
  by_cases e:p.1=k
  ·have e':q.1=k:=h1.symm.trans e
   have b:valueAt (q::qs) k=some q.2:=by simp [valueAt,List.find?_cons,e']
   rw [cq e,b]; exact h2
  ·have e':¬ q.1=k:=fun z=>e (h1.trans z)
   have b:valueAt (q::qs) k=valueAt qs k:=by simp [valueAt,List.find?_cons,e']
   rw [cH e,b]; exact ih
theorem KV.any {kvs:List (κ×V)} {vs:List (κ×Value)} (r:KV kvs vs) (k:κ):(kvs.any fun kv=>decide (kv.1=k))=vs.any fun kv=>decide (kv.1=k):=by
 unfold KV at r
 induction r with
 | nil=>rfl
 | cons h t ih=>rw [List.any_cons,List.any_cons,ih,h.1]
theorem KV.repl {kvs:List (κ×V)} {vs:List (κ×Value)} (r:KV kvs vs) (k:κ) {y:V} {u:Value} (ry:RelV y u) :
  KV (kvs.map fun kv=>if kv.1=k then (kv.1,y) else kv) (vs.map fun kv=>if kv.1=k then (kv.1,u) else kv):=by
 unfold KV at r ⊢
 induction r with
 | nil=>exact .nil
 | @cons p q ps qs h t ih =>
  rw [List.map_cons,List.map_cons]
  refine .cons ?_ ih
  obtain ⟨h1,h2⟩:=h
  by_cases e:p.1=k
  ·rw [if_pos e,if_pos (h1.symm.trans e)]; exact ⟨h1,ry⟩
  ·rw [if_neg e,if_neg (fun z=>e (h1.trans z))]; exact ⟨h1,h2⟩
theorem KV.put {kvs:List (κ×V)} {vs:List (κ×Value)} (r:KV kvs vs) (k:κ) {y:V} {u:Value} (ry:RelV y u):KV (putK kvs k y) (stored vs k u):=by
 unfold putK stored
 rw [r.any k]
 by_cases e:(vs.any fun kv=>decide (kv.1=k))=true
 ·rw [if_pos e,if_pos e]; exact r.repl k ry
 ·rw [if_neg e,if_neg e]; exact Paired.snoc r ⟨rfl,ry⟩
theorem KV.length {kvs:List (κ×V)} {vs:List (κ×Value)} (r:KV kvs vs):kvs.length=vs.length:=Paired.length r
end
theorem lX {P:Program} {w:World} {k:Key} {u:Value} (r:RelV (kV k) u):(bH P w).is k u=true:=by
 cases k with
 | inl i=>obtain ⟨t,e⟩:=(show ∃ t,u=Value.int i t from r); subst e; exact qL P w i t
 | inr x=>obtain ⟨t,e⟩:=(show ∃ t,u=Value.str x t from r); subst e; exact kf P w x t
theorem nC {P:Program} {w:World}:∀ {ks:List Key} {us:List Value},Vals (ks.map kV) us→ItemsAre (bH P w) ks us
 | [],_,r=>by rw [List.map_nil] at r; cases r; exact .nil
 | k::ks,_,r=>by
  rw [List.map_cons] at r
  cases r with
  | cons h t=>exact .cons (lX h) (nC t)
abbrev KT (H:Hp):List (List Key×V)→List (List Key×Addr×Value)→Prop:=Paired fun p q=>p.1=q.1∧H q.2.1=some (.tup (p.1.map kV))∧RelV p.2 q.2.2
theorem KT.val {H:Hp} {kvs:List (List Key×V)} {xs:List (List Key×Addr×Value)} (r:KT H kvs xs) (k:List Key):RelO (cm kvs k) ((atKey xs k).map (·.2)):=by
 induction r with
 | nil=>exact True.intro
 | @cons p q ps qs h t ih =>
  obtain ⟨h1,_,h2⟩:=h
  by_cases e:p.1=k
  ·have e':q.1=k:=h1.symm.trans e
   have b:atKey (q::qs) k=some q.2:=by simp [atKey,List.find?_cons,e']
   rw [cq e,b]; exact h2
  ·have e':¬ q.1=k:=fun z=>e (h1.trans z)
   have b:atKey (q::qs) k=atKey qs k:=by simp [atKey,List.find?_cons,e']
   rw [cH e,b]; exact ih
theorem KT.repl {H:Hp} {kvs:List (List Key×V)} {xs:List (List Key×Addr×Value)} (r:KT H kvs xs) (k:List Key) {y:V} {u:Value} (ry:RelV y u) :
  KT H (kvs.map fun kv=>if kv.1=k then (kv.1,y) else kv) (xs.map (putAt k u)):=by
 induction r with
 | nil=>exact .nil
 | @cons p q ps qs h t ih =>
  rw [List.map_cons,List.map_cons]
  refine .cons ?_ ih
  obtain ⟨h1,h2,h3⟩:=h
  unfold putAt
  by_cases e:p.1=k
  ·rw [if_pos e,if_pos (h1.symm.trans e)]; exact ⟨h1,h2,ry⟩
  ·rw [if_neg e,if_neg (fun z=>e (h1.trans z))]; exact ⟨h1,h2,h3⟩
theorem KT.put {H:Hp} {kvs:List (List Key×V)} {xs:List (List Key×Addr×Value)} (r:KT H kvs xs) (k:List Key) {b:Addr} {y:V} {u:Value} (hb:H b=some (.tup (k.map kV))) (ry:RelV y u) :
  KT H (putK kvs k y) (storedH xs k b u):=by
 have e:(kvs.any fun kv=>decide (kv.1=k))=(atKey xs k).isSome:=by
  rw [jv,(r.val k).isSome_eq,Option.isSome_map]
 unfold putK storedH
 rw [e]
 by_cases q:(atKey xs k).isSome=true
 ·rw [if_pos q,if_pos q]; exact r.repl k ry
 ·rw [if_neg q,if_neg q]; exact Paired.snoc r ⟨rfl,hb,ry⟩
theorem KT.keeps {H H':Hp} {kvs:List (List Key×V)} {xs:List (List Key×Addr×Value)} (r:KT H kvs xs) (ht:∀ b ys,H b=some (.tup ys)→H' b=some (.tup ys)):KT H' kvs xs :=
 Paired.mapP r fun _ _ z=>⟨z.1,ht _ _ z.2.1,z.2.2⟩
section
variable {P:Program} {w:World} {H:Hp} {h:Heap} {a:Addr}
theorem Bl {u:HO} (ok:HOk P w H h) (e:Rd H a u):ObjOk P w H h a u:=e.ok ok
theorem qy {kvs:List (Key×V)} (ok:HOk P w H h) (e:Rd H a (.dK kvs)):kvs.length≤sizeLine∧(a == sysModules)=false∧∃ vs,KV kvs vs∧h.DictOf (bH P w) a vs :=
 show ObjOk P w H h a (.dK kvs) from Bl ok e
theorem DG {kvs:List (Key×V)} (ok:HOk P w H h) (e:H a=some (.dK kvs)):kvs.length≤sizeLine∧(a == sysModules)=false∧∃ vs,KV kvs vs∧h.DictOf (bH P w) a vs:=qy ok (.inl e)
theorem ma {ks:List Key} (ok:HOk P w H h) (e:H a=some (.tup (ks.map kV))):(tupleKind (bH P w)).is h ks a:=by
 obtain ⟨_,its,r,o,h1,h2,n,h3⟩:=(show ObjOk P w H h a (.tup (ks.map kV)) from ok a _ e)
 exact ⟨o,its.toArray,n,h1,h2,h3,by simpa using nC r⟩
theorem qu {kvs:List (List Key×V)} (ok:HOk P w H h) (e:Rd H a (.dT kvs)):kvs.length≤sizeLine∧(a == sysModules)=false∧
  ∃ xs,KT H kvs xs∧h.DictOfH (tupleKind (bH P w)) a xs:=by
 obtain ⟨z,y,xs,r,o,es,ep,h1,h2,h3,h4,h5⟩:=(show ObjOk P w H h a (.dT kvs) from Bl ok e)
 refine ⟨z,y,xs,r,o,es,ep,h1,h2,h3,h4,fun x hx=>?_,h5⟩
 have all:∀ {l:List (List Key×V)} {m:List (List Key×Addr×Value)},KT H l m→∀ x∈m,(tupleKind (bH P w)).is h x.1 x.2.1:=by
  intro l m q
  induction q with
  | nil=>intro x hx; exact nomatch hx
  | @cons p q ps qs hq t ih =>
   intro x hx
   rcases List.mem_cons.mp hx with e | hx
   ·subst e
    exact ma ok (by rw [← hq.1]; exact hq.2.1)
   ·exact ih x hx
 exact all r x hx
theorem C9 {kvs:List (List Key×V)} (ok:HOk P w H h) (e:H a=some (.dT kvs)):kvs.length≤sizeLine∧(a == sysModules)=false∧
  ∃ xs,KT H kvs xs∧h.DictOfH (tupleKind (bH P w)) a xs:=qu ok (.inl e)
end
def DGet (H:Hp) (a:Addr) (y:V) (r:Option V):Prop :=
 (∃ kvs k,Rd H a (.dK kvs)∧y=kV k∧r=cm kvs k)∨∃ kvs k b,Rd H a (.dT kvs)∧y=.ref b∧H b=some (.tup (k.map kV))∧r=cm kvs k
def DPut (H:Hp) (a:Addr) (y v:V) (H':Hp):Prop :=
 (∃ kvs k,H a=some (.dK kvs)∧y=kV k∧kvs.length<sizeLine∧H'=upd H a (.dK (putK kvs k v)))∨
 ∃ kvs k b,H a=some (.dT kvs)∧y=.ref b∧H b=some (.tup (k.map kV))∧kvs.length<sizeLine∧H'=upd H a (.dT (putK kvs k v))
theorem DGet.k {H:Hp} {a:Addr} {kvs:List (Key×V)} {k:Key} (e:H a=some (.dK kvs)):DGet H a (kV k) (cm kvs k):=.inl ⟨kvs,k,.inl e,rfl,rfl⟩
theorem DGet.t {H:Hp} {a b:Addr} {kvs:List (List Key×V)} {k:List Key} (e:H a=some (.dT kvs)) (eb:H b=some (.tup (k.map kV))):DGet H a (.ref b) (cm kvs k):=.inr ⟨kvs,k,b,.inl e,rfl,eb,rfl⟩
theorem DPut.k {H:Hp} {a:Addr} {kvs:List (Key×V)} {k:Key} {v:V} (e:H a=some (.dK kvs)) (hl:kvs.length<sizeLine):DPut H a (kV k) v (upd H a (.dK (putK kvs k v))):=.inl ⟨kvs,k,e,rfl,hl,rfl⟩
theorem DPut.t {H:Hp} {a b:Addr} {kvs:List (List Key×V)} {k:List Key} {v:V} (e:H a=some (.dT kvs)) (eb:H b=some (.tup (k.map kV))) (hl:kvs.length<sizeLine) :
  DPut H a (.ref b) v (upd H a (.dT (putK kvs k v))):=.inr ⟨kvs,k,b,e,rfl,eb,hl,rfl⟩
section
variable {X:Cx} {pins:List (Addr×Obj)} {σ:St} {H:Hp} {s:Shared} {a:Addr} {y v:V} {u r:Value} {o:Option V} {A:Around} {E:Value→Shared→Prop}
theorem Inv.big (I:Inv X pins σ H s):sysModules<s.heap.objs.size:=by
 have h:mainGlobals<s.heap.objs.size:=(I.mod.glob.keeps I.bk).lt
 exact Nat.lt_trans (by decide) h
theorem vd {Q:Value→Shared→Prop} (hu:A.units+1<cLine) (I:Inv X pins σ H s) (g:DGet H a y (some v)) (ry:RelV y u) (h:∀ w' s',Inv X pins σ H s'→RelV v w'→Q w' s') :
  wpAny (model X.prog X.w) A (getItem (.ref a) u) Q E s:=by
 rcases g with ⟨kvs,k,e,ey,l⟩ | ⟨kvs,k,b,e,ey,eb,l⟩
 ·subst ey
  obtain ⟨z,hd,vs,rel,dd⟩:=qy I.hok e
  obtain ⟨w',hw,rw'⟩:=RelO.some_of (v:=v) (o:=valueAt vs k) (by rw [l]; exact rel.val k)
  exact wpAny_getItem_of (lX ry) dd.mapOf hw (h w' _ (I.tok _) rw')
 ·subst ey
  cases (show u=Value.ref b from ry)
  obtain ⟨z,hd,xs,rel,dd⟩:=qu I.hok e
  obtain ⟨w',hw,rw'⟩:=RelO.some_of (v:=v) (o:=(atKey xs k).map (·.2)) (by rw [l]; exact rel.val k)
  obtain ⟨p,hp,hp2⟩:=Option.map_eq_some_iff.mp hw
  refine wpAny_getItem_heap (tupleKind_room_in1 hu) (ma I.hok eb) dd hp ?_
  rw [hp2]
  exact h w' _ (I.tok _) rw'
theorem Ec {Q:Value→Shared→Prop} (hu:A.units+1<cLine) (I:Inv X pins σ H s) (g:DGet H a y o) (ry:RelV y u) (h:∀ s',Inv X pins σ H s'→Q (.bool o.isSome) s') :
  wpAny (model X.prog X.w) A (compareOp .In u (.ref a)) Q E s:=by
 rcases g with ⟨kvs,k,e,ey,l⟩ | ⟨kvs,k,b,e,ey,eb,l⟩
 ·subst ey
  obtain ⟨z,hd,vs,rel,dd⟩:=qy I.hok e
  refine wpAny_in_of (lX ry) hd dd.mapOf ?_
  rw [← (rel.val k).isSome_eq,← l]
  exact h _ (I.tok _)
 ·subst ey
  cases (show u=Value.ref b from ry)
  obtain ⟨z,hd,xs,rel,dd⟩:=qu I.hok e
  refine wpAny_in_heap (tupleKind_room_in1 hu) (ma I.hok eb) hd dd ?_
  have q:=(rel.val k).isSome_eq
  rw [Option.isSome_map] at q
  rw [← q,← l]
  exact h _ (I.tok _)
theorem AV {Q:Value→Shared→Prop} (hu:A.units+1<cLine) (I:Inv X pins σ H s) (g:DGet H a y o) (ry:RelV y u) (h:∀ s',Inv X pins σ H s'→Q (.bool (!o.isSome)) s') :
  wpAny (model X.prog X.w) A (compareOp .NotIn u (.ref a)) Q E s:=by
 rcases g with ⟨kvs,k,e,ey,l⟩ | ⟨kvs,k,b,e,ey,eb,l⟩
 ·subst ey
  obtain ⟨z,hd,vs,rel,dd⟩:=qy I.hok e
  refine wpAny_notIn_of (lX ry) hd dd.mapOf ?_
  rw [← (rel.val k).isSome_eq,← l]
  exact h _ (I.tok _)
 ·subst ey
  cases (show u=Value.ref b from ry)
  obtain ⟨z,hd,xs,rel,dd⟩:=qu I.hok e
  refine wpAny_notIn_heap (tupleKind_room_in1 hu) (ma I.hok eb) hd dd ?_
  have q:=(rel.val k).isSome_eq
  rw [Option.isSome_map] at q
  rw [← q,← l]
  exact h _ (I.tok _)
theorem ui {h':Heap} {t':Nat} {ob:HO} (I:Inv X pins σ H s) (mu:Mut (H a)) (hs:Heap.SameBut a s.heap h') (he:∃ q,h'.get? a=some q) (new:ObjOk X.prog X.w (upd H a ob) h' a ob) :
  Inv X pins σ (upd H a ob) { s with heap:=h',toks:=t' } :=
 I.write (x:=a) (e:=a) mu (.inl rfl) (fun b q hb z=>(hs.2 b hb).trans z) he new
theorem Bx {P:Program} {w:World} {H':Hp} {h':Heap} {kvs:List (Key×V)} {vs:List (Key×Value)} (z:kvs.length≤sizeLine) (hd:(a == sysModules)=false) (rel:KV kvs vs) (dd:h'.DictOf (bH P w) a vs) :
  ObjOk P w H' h' a (.dK kvs):=⟨z,hd,vs,rel,dd⟩
theorem vZ {H':Hp} {Q:Unit→Shared→Prop} (hu:A.units+1<cLine) (I:Inv X pins σ H s) (g:DPut H a y v H') (ry:RelV y u) (rv:RelV v r) (h:∀ s',Inv X pins σ H' s'→Q () s') :
  wpAny (model X.prog X.w) A (setItem (.ref a) u r) Q E s:=by
 rcases g with ⟨kvs,k,e,ey,l,eH⟩ | ⟨kvs,k,b,e,ey,eb,l,eH⟩
 ·subst ey eH
  obtain ⟨z,hd,vs,rel,dd⟩:=DG I.hok e
  have hz:vs.length≤sizeLine:=by rw [← rel.length]; exact z
  have hl:(putK kvs k v).length≤sizeLine:=by have:=fq kvs k v; omega
  refine wpAny_setItem_pairs (hsz:=hz) (lX ry) dd fun h' dd' hs=>h _ ?_
  have he:∃ q,h'.get? a=some q:=let ⟨q,_,_,hq,_⟩:=dd'; ⟨q,hq⟩
  exact ui I (by rw [e]; exact True.intro) hs he (Bx hl hd (rel.put k rv) dd')
 ·subst ey eH
  cases (show u=Value.ref b from ry)
  obtain ⟨z,hd,xs,rel,dd⟩:=C9 I.hok e
  have hz:xs.length≤sizeLine:=by rw [← Paired.length rel]; exact z
  have hl:(putK kvs k v).length≤sizeLine:=by have:=fq kvs k v; omega
  refine wpAny_setItem_heap (hsz:=hz) (tupleKind_room_in1 hu) (ma I.hok eb) dd fun h' dd' hs=>h _ ?_
  obtain ⟨q,es,ep,hq,h2,h3,h4,_,h5⟩:=dd'
  refine ui I (by rw [e]; exact True.intro) hs ⟨q,hq⟩ ⟨hl,hd,_,(rel.put k eb rv).keeps fun c ys ec=>?_,q,es,ep,hq,h2,h3,h4,h5⟩
  rw [aC (iH ec e (fun z=>nomatch z))]
  exact ec
end
section
variable {X:Cx} {pins:List (Addr×Obj)} {σ:St} {H:Hp} {s:Shared} {a:Addr} {kvs:List (Key×V)} {k:Key} {u:Value} {A:Around} {E:Value→Shared→Prop}
end
def CC (i:Expr):Prop:=∀ ov iv,subscripted i false ov iv=operate [ov,iv] (getItem ov iv)
theorem t5 {prog:Program} {w:World} {A:Around} {E:Value→Shared→Prop} {s:Shared} {env:Env} {value slice:Expr} {pos:Pos} {T id:String} {Q:Value→Shared→Prop}
  (hl:typeLookup (.type T) "__getitem__"=pure (some (.builtin id))) (hs:CC slice)
  (h:wpAny (model prog w) A (eval value env) (fun o s₁=>wpAny (model prog w) A (eval slice env) (fun i s₂=>s₂.TypeIs o T∧wpAny (model prog w) A (getItem o i) Q E s₂) E s₁) E s) :
  wpAny (model prog w) A (eval (.Subscript value slice pos) env) Q E s:=by
 refine Subscript_ (wpAny_mono h (fun o s₁ h₁=>wpAny_mono h₁ (fun i s₂ h₂=>?_) fun _ _ x=>x) fun _ _ x=>x)
 obtain ⟨hT,h₂⟩:=h₂
 unfold subscriptTail
 refine wpAny_bind ?_
 rw [getitemInPython_of_ne hT.not_modules]
 refine wpAny_bind (wpAny_specialOf hT hl ?_)
 have fin:wpAny (model prog w) A (subscripted slice false o i) (fun r s₃=>wpAny (model prog w) A (letTemporaryGo value o r >>= fun _=>pure r) Q E s₃) E s₂:=by
  rw [hs o i]
  exact wpAny_operating (wpAny_mono h₂ (fun r s₃ h₃=>wpAny_bind (wpAny_letTemporaryGo (wpAny_pure h₃))) fun _ _ x=>x)
 first
  | exact wpAny_pure (wpAny_bind fin)
  | exact wpAny_bind (wpAny_pure (wpAny_bind fin))
  | exact wpAny_bind fin
theorem rq {X:Cx} {pins:List (Addr×Obj)} {σ:St} {H:Hp} {s:Shared} {a:Addr} {y:V} {o:Option V} (I:Inv X pins σ H s) (g:DGet H a y o):s.TypeIs (.ref a) "dict":=by
 rcases g with ⟨kvs,k,e,_,_⟩ | ⟨kvs,k,b,e,_,_,_⟩
 ·obtain ⟨_,_,vs,_,dd⟩:=qy I.hok e
  exact dd.typeIs
 ·obtain ⟨_,_,xs,_,dd⟩:=qu I.hok e
  exact dd.typeIs
def Ds (td ty:TE):TE:=fun σ H Q=>td σ H fun x H1=>ty σ H1 fun y H2=>∃ a v,x=.ref a∧DGet H2 a y (some v)∧Q v H2
def Er (ty td:TE):TE:=fun σ H Q=>ty σ H fun y H1=>td σ H1 fun x H2=>∃ a o,x=.ref a∧DGet H2 a y o∧Q (.bl o.isSome) H2
def Au (ty td:TE):TE:=fun σ H Q=>ty σ H fun y H1=>td σ H1 fun x H2=>∃ a o,x=.ref a∧DGet H2 a y o∧Q (.bl (!o.isSome)) H2
def DD (td ty tv:TE):TS:=fun D σ H=>tv σ H fun v H1=>td σ H1 fun x H2=>ty σ H2 fun y H3=>∃ a H4,x=.ref a∧DPut H3 a y v H4∧D.nx σ H4
def EX (td ty tv:TE) (rd:V→V→Hp→VK→Prop):TS:=fun D σ H=>td σ H fun x H1=>ty σ H1 fun y H2=>∃ a v,x=.ref a∧DGet H2 a y (some v)∧
 tv σ H2 fun y2 H3=>rd v y2 H3 fun z H4=>∃ H5,DPut H4 a y z H5∧D.nx σ H5
def Fg (td ty:TE):TS:=fun D σ H=>td σ H fun x H1=>ty σ H1 fun y H2=>∃ a kvs k,x=.ref a∧H2 a=some (.dK kvs)∧y=kV k∧(cm kvs k).isSome=true∧D.nx σ (upd H2 a (.dK (wR kvs k)))
section
variable {X:Cx} {o i e value:Expr} {pos pos' tpos:Pos} {td ty tv:TE}
theorem uk (hu:X.A.units+1<cLine) (ho:PE X o td) (hi:PE X i ty) (hs:CC i):PE X (.Subscript o i pos) (Ds td ty):=by
 intro pins s σ H Q I h
 refine t5 PySem.F.slot_dict_getitem.lookup hs (thn (ho pins s σ H _ I h) fun u s1 ⟨x,H1,I1,rx,q1⟩=>thn (hi pins s1 σ H1 _ I1 q1) fun iv s2 ⟨y,H2,I2,ry,a,v,ex,g,q2⟩=>?_)
 subst ex
 obtain rfl:u=Value.ref a:=rx
 exact ⟨rq I2 g,vd hu I2 g ry fun w' s3 I3 rw'=>⟨v,H2,I3,rw',q2⟩⟩
theorem Bn (hu:X.A.units+1<cLine) (hi:PE X i ty) (ho:PE X o td):PC X .In i o (Er ty td):=by
 intro pins s σ H Q I h
 refine thn (hi pins s σ H _ I h) fun iv s1 ⟨y,H1,I1,ry,q1⟩=>thn (ho pins s1 σ H1 _ I1 q1) fun u s2 ⟨x,H2,I2,rx,a,ov,ex,g,q2⟩=>?_
 subst ex
 obtain rfl:u=Value.ref a:=rx
 exact Ec hu I2 g ry fun s3 I3=>⟨.bl ov.isSome,H2,I3,rfl,q2⟩
theorem u9 (hu:X.A.units+1<cLine) (hi:PE X i ty) (ho:PE X o td):PC X .NotIn i o (Au ty td):=by
 intro pins s σ H Q I h
 refine thn (hi pins s σ H _ I h) fun iv s1 ⟨y,H1,I1,ry,q1⟩=>thn (ho pins s1 σ H1 _ I1 q1) fun u s2 ⟨x,H2,I2,rx,a,ov,ex,g,q2⟩=>?_
 subst ex
 obtain rfl:u=Value.ref a:=rx
 exact AV hu I2 g ry fun s3 I3=>⟨.bl (!ov.isSome),H2,I3,rfl,q2⟩
theorem ur (hu:X.A.units+1<cLine) (ho:PE X o td) (hi:PE X i ty) (hv:PE X value tv) (hs:swapsWith value (some (.Subscript o i pos')) pos.line X.env=pure false) :
  PS X (.Assign [.Subscript o i pos'] value pos) (DD td ty tv):=by
 intro pins s σ H D I h
 refine wpAny_Assign_Subscript (thn (hv pins s σ H _ I h) fun r s1 ⟨v,H1,I1,rv,q1⟩=>thn (ho pins s1 σ H1 _ I1 q1) fun u s2 ⟨x,H2,I2,rx,q2⟩=>thn (hi pins s2 σ H2 _ I2 q2) fun iv s3 ⟨y,H3,I3,ry,a,H4,ex,g,q3⟩=>?_) hs
 subst ex
 obtain rfl:u=Value.ref a:=rx
 exact vZ hu I3 g ry rv fun s4 I4=>⟨σ,H4,I4,q3⟩
end
theorem yL {P:Program} {w:World} {H:Hp} (h:Heap) (hb:sysModules<h.objs.size):ObjOk P w H (h.push { cls:=.type "dict",data:=.dict #[] }) h.objs.size (.dK []) :=
 ⟨Nat.zero_le _,beq_eq_false_iff_ne.mpr (Ne.symm (Nat.ne_of_lt hb)),[],.nil,Heap.DictOf.new h⟩
theorem xw {P:Program} {w:World} {H:Hp} (h:Heap) (hb:sysModules<h.objs.size):ObjOk P w H (h.push { cls:=.type "dict",data:=.dict #[] }) h.objs.size (.dT []) :=
 ⟨Nat.zero_le _,beq_eq_false_iff_ne.mpr (Ne.symm (Nat.ne_of_lt hb)),[],.nil,_,#[],0,Heap.get?_push_size _ rfl,⟨rfl,rfl,rfl⟩,rfl,rfl,List.nodup_nil⟩
def Cw:TE:=fun _ H Q=>∀ p,H p=none→Q (.ref p) (upd H p (.dK []))
def BV:TE:=fun _ H Q=>∀ p,H p=none→Q (.ref p) (upd H p (.dT []))
section
variable {X:Cx} {pos:Pos}
theorem xk:PE X (.Dict [] [] pos) Cw:=fun pins s σ H Q I h =>
 wpAny_Dict_empty ⟨.ref s.heap.objs.size,_,I.laid (a:=s.heap.objs.size) (o:=.dK []) (t':=s.toks) (fun _ _ q=>Heap.get?_push_of_some _ q) (Nat.le_refl _) (yL s.heap I.big),rfl,h _ (I.hok.fresh (Nat.le_refl _))⟩
theorem wX:PE X (.Dict [] [] pos) BV:=fun pins s σ H Q I h =>
 wpAny_Dict_empty ⟨.ref s.heap.objs.size,_,I.laid (a:=s.heap.objs.size) (o:=.dT []) (t':=s.toks) (fun _ _ q=>Heap.get?_push_of_some _ q) (Nat.le_refl _) (xw s.heap I.big),rfl,h _ (I.hok.fresh (Nat.le_refl _))⟩
end
def sS:List (TE×TE)→St→Hp→(List (V×V)→Hp→Prop)→Prop
 | [],_,H,Q=>Q [] H
 | (tk,tv)::r,σ,H,Q=>tk σ H fun x H1=>tv σ H1 fun y H2=>sS r σ H2 fun ps H3=>Q ((x,y)::ps) H3
abbrev VV:List (V×V)→List (Value×Value)→Prop:=Paired fun p q=>RelV p.1 q.1∧RelV p.2 q.2
def PPs (X:Cx) (pos:Pos) (keys:List (Option Expr)) (values:List Expr) (trs:List (TE×TE)):Prop :=
 ∀ (pins:List (Addr×Obj)) (s:Shared) (σ:St) (H:Hp) (Q:List (V×V)→Hp→Prop),Inv X pins σ H s→sS trs σ H Q→
  wpAny (model X.prog X.w) X.A (evalPairs (pairTrees keys values X.env pos)) (fun vs s'=>∃ ps H',Inv X pins σ H' s'∧VV ps vs∧Q ps H') X.xe s
def Cs (kvs more:List (Key×V)):List (Key×V):=more.foldl (fun acc kv=>putK acc kv.1 kv.2) kvs
def EW (trs:List (TE×TE)):TE:=fun σ H Q=>∀ p,H p=none→sS trs σ (upd H p (.dK [])) fun ps H2=>H2 p=some (.dK [])∧∃ kvs:List (Key×V),ps=kvs.map (fun kv=>(kV kv.1,kv.2))∧kvs.length≤15∧Q (.ref p) (upd H2 p (.dK (Cs [] kvs)))
structure M1 (X:Cx) (o:Expr) (m:Str) (apos:Pos) (e:Expr) (cpos:Pos):Prop where
 base:attributeBase o m X.env (eval o X.env)=eval o X.env
 few:((backTo cpos (starEach [e] X.env)).all (fun x=>!x.1) && (backToKw cpos (keywordEach [] X.env)).all (fun x=>x.1.isSome)
  && decide (([e]:List Expr).length+([]:List Keyword).length+(if ([]:List Keyword).isEmpty then 0 else 1)<30))=true
 line:(apos.endLine == cpos.line)=true
 trees:backTo cpos (starEach [e] X.env)=[(false,eval e X.env)]
structure M2 (X:Cx) (o:Expr) (m:Str) (apos:Pos) (e f:Expr) (cpos:Pos):Prop where
 base:attributeBase o m X.env (eval o X.env)=eval o X.env
 few:((backTo cpos (starEach [e,f] X.env)).all (fun x=>!x.1) && (backToKw cpos (keywordEach [] X.env)).all (fun x=>x.1.isSome)
  && decide (([e,f]:List Expr).length+([]:List Keyword).length+(if ([]:List Keyword).isEmpty then 0 else 1)<30))=true
 line:(apos.endLine == cpos.line)=true
 trees:backTo cpos (starEach [e,f] X.env)=[(false,eval e X.env),(false,eval f X.env)]
def IsD (H:Hp) (a:Addr):Prop:=(∃ kvs,Rd H a (.dK kvs))∨∃ kvs,Rd H a (.dT kvs)
section
variable {X:Cx} {pins:List (Addr×Obj)} {σ:St} {H:Hp} {s:Shared} {a:Addr} {y d:V} {u r:Value} {o:Option V} {A:Around} {E:Value→Shared→Prop}
end
def EO (td ty:TE):TE:=fun σ H Q=>td σ H fun x H1=>∃ a,x=.ref a∧IsD H1 a∧ty σ H1 fun y H2=>∃ o,DGet H2 a y o∧Q (o.getD .non) H2
def Ed (td ty tx:TE):TE:=fun σ H Q=>td σ H fun x H1=>∃ a,x=.ref a∧IsD H1 a∧ty σ H1 fun y H2=>tx σ H2 fun z H3=>∃ o,DGet H3 a y o∧Q (o.getD z) H3
def Em (td ty:TE):TE:=fun σ H Q=>td σ H fun x H1=>∃ a,x=.ref a∧IsD H1 a∧ty σ H1 fun y H2=>∃ kvs k v,H2 a=some (.dK kvs)∧y=kV k∧cm kvs k=some v∧Q v (upd H2 a (.dK (wR kvs k)))
def Eo (td ty tx:TE):TE:=fun σ H Q=>td σ H fun x H1=>∃ a,x=.ref a∧IsD H1 a∧ty σ H1 fun y H2=>tx σ H2 fun z H3=>∃ kvs k,H3 a=some (.dK kvs)∧y=kV k∧
 (∀ v,cm kvs k=some v→Q v (upd H3 a (.dK (wR kvs k))))∧(cm kvs k=none→Q z H3)
section
variable {X:Cx} {o e f:Expr} {apos cpos:Pos} {td ty tx:TE}
end
section
variable {X:Cx} {pins:List (Addr×Obj)} {σ:St} {H:Hp} {s:Shared} {a:Addr} {kvs:List (Key×V)} {A:Around} {E:Value→Shared→Prop}
end
section
variable {X:Cx} {pins:List (Addr×Obj)} {σ:St} {H:Hp} {s:Shared} {a:Addr} {y:V} {u:Value} {A:Around} {E:Value→Shared→Prop}
end
end L2
namespace L2
open PySem PySem.Spec PyProof.Rows
abbrev SI (h:Heap) (i:Addr) (z:Str) (t:Tok) (k:Nat):Prop:=h.IsStrIter i "str_ascii_iterator" z t k
theorem kB {h h':Heap} {i:Addr} {z:Str} {t:Tok} {k:Nat} (a:SI h i z t k) (x:∀ o,h.get? i=some o→h'.get? i=some o):SI h' i z t k:=by
 obtain ⟨o,e,r⟩:=a; exact ⟨o,x o e,r⟩
theorem xJ {h:Heap} {i:Addr} {z:Str} {t:Tok} {k:Nat} (a:SI h i z t k):∃ o,h.get? i=some o∧∀ v,o.data≠.cell v:=by
 obtain ⟨o,e,_,d⟩:=a; exact ⟨o,e,fun v q=>by rw [d] at q; cases q⟩
section
variable {prog:Program} {w:World} {A:Around} {E:Value→Shared→Prop} {s:Shared}
theorem vS {z TI TO i1 i2 l2:Addr} {tx:Str} {t:Tok} {k1 k2 c:Nat} {ys:Array Value} {y a b:Value} {Q:Value→Shared→Prop} (D:ZipApart z TI TO i1 i2 l2 l2) (gz:IsZip s.heap z TI TO .none) (gI:IsPair s.heap TI (.ref i1) (.ref i2)) (gO:IsPair s.heap TO a b)
  (g1:SI s.heap i1 tx t k1) (g2:ItAt false s.heap i2 l2 k2 ys) (hx:tx.cps[k1]?=some c) (hy:ys[k2]?=some y) (d:∀ h' tk u,IsZip h' z TI TO (rawInt s.heap.objs.size)→IsPair h' TO (.str ⟨#[c]⟩ u) y→SI h' i1 tx t (k1+1)→ItAt false h' i2 l2 (k2+1) ys→IsPair h' s.heap.objs.size (.str ⟨#[c]⟩ u) y→h'.objs.size=s.heap.objs.size+1→
   (∀ c o,c≠z→c≠TO→c≠i1→c≠i2→s.heap.get? c=some o→h'.get? c=some o)→Q (.ref s.heap.objs.size) { s with heap:=h',toks:=tk }):wpAny (model prog w) A (Builtin.«zip.__next__» ⟨[.ref z],[]⟩) (fun fin s'=>∃ v,fin=.done (.ret v)∧Q v s') E s:=by
 show wpAny _ _ (field (.ref z) 2 >>= _) _ _ _; refine wpAny_bind (wpAny_field gz rfl (x:=.bool false) rfl ?_)
 show wpAny _ _ (field (.ref z) 3 >>= _) _ _ _; refine wpAny_bind (wpAny_field gz rfl (x:=.ref TI) rfl ?_)
 refine wpAny_bind (wpAny_seqItems gI rfl ?_)
 show wpAny _ _ (Builtin.SmallTypes.ownedTupleIsFree (.ref z) >>= _) _ _ _; refine wpAny_bind ?_; unfold Builtin.SmallTypes.ownedTupleIsFree
 refine wpAny_bind (wpAny_field gz rfl (x:=.none) rfl (wpAny_pure ?_)); simp only [if_true]
 refine wpAny_bind (wpAny_rule ?_); refine wpAny_bind (wpAny_field gz rfl (x:=.ref TO) rfl ?_)
 refine wpAny_bind (wpAny_setField_rec gz (by simp) fun u1 gz1 s1=>?_); replace gz1:IsZip u1 z TI TO .ellipsis:=gz1
 refine wpAny_bind ?_; simp only [List.zipIdx_cons,List.zipIdx_nil,List.forIn_cons,List.forIn_nil]
 refine wpAny_bind (wpAny_bind (wpAny_onRaise ?_)); show wpAny _ _ (Builtin.SmallTypes.nextOf (.ref i1) >>= _) _ _ _
 refine wpAny_bind (wpAny_nextOf_ascii_item (kB g1 fun o e=>s1.extBut _ o D.i1z e) hx fun u2 g12 s2=>wpAny_pure ?_)
 have gO2:IsPair u2 TO a b:=s2.extBut _ _ D.TOi1 (s1.extBut _ _ D.TOz gO)
 refine wpAny_bind (wpAny_seqItems gO2 rfl ?_); refine wpAny_bind (wpAny_updateSeq_pair gO2 fun u3 gO3 s3=>?_); replace gO3:IsPair u3 TO (.str ⟨#[c]⟩ s.toks) b:=gO3
 refine wpAny_bind (wpAny_letGo (wpAny_pure ?_))
 refine wpAny_bind (wpAny_bind (wpAny_onRaise ?_)); show wpAny _ _ (Builtin.SmallTypes.nextOf (.ref i2) >>= _) _ _ _
 refine wpAny_bind ((((g2.ext s1.extBut D.i2z D.l2z).ext s2.extBut D.i12.symm D.l2i1).ext s3.extBut D.TOi2.symm D.l2TO).nx D.l2i2 hy fun u4 g24 s4=>wpAny_pure ?_)
 have gO4:IsPair u4 TO (.str ⟨#[c]⟩ s.toks) b:=s4.extBut _ _ D.TOi2 gO3
 refine wpAny_bind (wpAny_seqItems gO4 rfl ?_); refine wpAny_bind (wpAny_updateSeq_pair gO4 fun u5 gO5 s5=>?_); replace gO5:IsPair u5 TO (.str ⟨#[c]⟩ s.toks) y:=gO5
 refine wpAny_bind (wpAny_letGo (wpAny_pure (wpAny_pure ?_))); refine wpAny_bind (wpAny_seqItems gO5 rfl ?_); refine wpAny_bind (wpAny_newTuple ?_)
 have hsz:u5.objs.size=s.heap.objs.size:=by rw [s5.1,s4.1,s3.1,s2.1,s1.1]
 have gz5:IsZip u5 z TI TO .ellipsis:=s5.extBut _ _ D.TOz.symm (s4.extBut _ _ D.i2z.symm (s3.extBut _ _ D.TOz.symm (s2.extBut _ _ D.i1z.symm gz1)))
 have k5:∀ c o,c≠z→c≠TO→c≠i1→c≠i2→s.heap.get? c=some o→u5.get? c=some o:=fun c o c1 c2 c3 c4 e=>s5.extBut _ _ c2 (s4.extBut _ _ c4 (s3.extBut _ _ c2 (s2.extBut _ _ c3 (s1.extBut _ _ c1 e))))
 have g15:SI u5 i1 tx t (k1+1):=kB (kB (kB g12 fun o e=>s3.extBut _ o D.TOi1.symm e) fun o e=>s4.extBut _ o D.i12 e) fun o e=>s5.extBut _ o D.TOi1.symm e
 have g25:ItAt false u5 i2 l2 (k2+1) ys:=g24.ext s5.extBut D.TOi2.symm D.l2TO
 have zlt:z<u5.objs.size:=Heap.lt_size gz5
 show wpAny _ _ (Builtin.SmallTypes.ownedTupleHandOut (.ref z) (.ref u5.objs.size) >>= _) _ _ _; refine wpAny_bind ?_; unfold Builtin.SmallTypes.ownedTupleHandOut
 have gz6:IsZip (u5.push { cls:=.type "tuple",data:=.seq #[.str ⟨#[c]⟩ s.toks,y] }) z TI TO .ellipsis:=Heap.get?_push_of_some _ gz5
 refine wpAny_bind (wpAny_setField_rec gz6 (by simp) fun u7 gz7 s7=>?_); replace gz7:IsZip u7 z TI TO (rawInt u5.objs.size):=gz7
 refine wpAny_setField_rec gz7 (by simp) fun u8 gz8 s8=>?_; replace gz8:IsZip u8 z TI TO (rawInt u5.objs.size):=gz8
 have up:∀ c o,c≠z→u5.get? c=some o→u8.get? c=some o:=fun c o c1 e=>s8.extBut _ _ c1 (s7.extBut _ _ c1 (Heap.get?_push_of_some _ e))
 have gT:IsPair u8 u5.objs.size (.str ⟨#[c]⟩ s.toks) y:=s8.extBut _ _ (Nat.ne_of_gt zlt) (s7.extBut _ _ (Nat.ne_of_gt zlt) (Heap.get?_push_size _ rfl))
 have z8:u8.objs.size=u5.objs.size+1:=by rw [s8.1,s7.1,Heap.size_push]
 rw [hsz] at gz8 gT z8
 refine wpAny_pure ⟨_,rfl,?_⟩; show Q (.ref u5.objs.size) _; rw [hsz]
 exact d u8 _ _ gz8 (up _ _ D.TOz gO5) (kB g15 fun o e=>up _ o D.i1z e) (g25.at (fun o e=>up _ o D.i2z e) fun o e=>up _ o D.l2z e) gT z8 fun c o c1 c2 c3 c4 e=>up c o c1 (k5 c o c1 c2 c3 c4 e)
theorem yC {z TI TO i1 i2 l2:Addr} {tx:Str} {t:Tok} {k1 k2:Nat} {ys:Array Value} {a b:Value} {Q:Fin→Shared→Prop} (hh:A.handled=none) (D:ZipApart z TI TO i1 i2 l2 l2) (gz:IsZip s.heap z TI TO .none) (gI:IsPair s.heap TI (.ref i1) (.ref i2))
  (g1:SI s.heap i1 tx t k1) (hx:tx.cps[k1]?=none)
  (d:∀ h' e,(∀ c o,c≠z→c≠TO→c≠i1→c≠i2→s.heap.get? c=some o→h'.get? c=some o)→(∃ o,h'.get? e=some o∧o.cls=.type "StopIteration")→E (.ref e) { s with heap:=h' }):wpAny (model prog w) A (Builtin.«zip.__next__» ⟨[.ref z],[]⟩) Q E s:=by
 show wpAny _ _ (field (.ref z) 2 >>= _) _ _ _; refine wpAny_bind (wpAny_field gz rfl (x:=.bool false) rfl ?_)
 show wpAny _ _ (field (.ref z) 3 >>= _) _ _ _; refine wpAny_bind (wpAny_field gz rfl (x:=.ref TI) rfl ?_)
 refine wpAny_bind (wpAny_seqItems gI rfl ?_)
 show wpAny _ _ (Builtin.SmallTypes.ownedTupleIsFree (.ref z) >>= _) _ _ _; refine wpAny_bind ?_; unfold Builtin.SmallTypes.ownedTupleIsFree
 refine wpAny_bind (wpAny_field gz rfl (x:=.none) rfl (wpAny_pure ?_)); simp only [if_true]
 refine wpAny_bind (wpAny_rule ?_); refine wpAny_bind (wpAny_field gz rfl (x:=.ref TO) rfl ?_)
 refine wpAny_bind (wpAny_setField_rec gz (by simp) fun u1 gz1 s1=>?_); replace gz1:IsZip u1 z TI TO .ellipsis:=gz1
 refine wpAny_bind ?_; simp only [List.zipIdx_cons,List.zipIdx_nil,List.forIn_cons,List.forIn_nil]
 refine wpAny_bind (wpAny_bind (wpAny_onRaise ?_)); show wpAny _ _ (Builtin.SmallTypes.nextOf (.ref i1) >>= _) _ _ _
 refine wpAny_bind (wpAny_nextOf_ascii_end hh (kB g1 fun o e=>s1.extBut _ o D.i1z e) hx fun u2 e s2 he=>?_)
 obtain ⟨oe,hoe,hce⟩:=he
 have gz2:IsZip u2 z TI TO .ellipsis:=s2 _ _ D.i1z.symm gz1
 have hez:e≠z:=fun x=>by subst x; rw [gz2] at hoe; cases hoe; simp at hce
 refine wpAny_setField_rec gz2 (by simp) fun u3 _ s3=>d u3 e (fun c o c1 _ c3 _ x=>s3.extBut _ _ c1 (s2 _ _ c3 (s1.extBut _ _ c1 x))) ⟨oe,s3.extBut _ _ hez hoe,hce⟩
theorem r9 {z TI TO i1 i2 l2:Addr} {tx:Str} {t:Tok} {k1 k2 c:Nat} {ys:Array Value} {y a b:Value} {Q:Option Value→Shared→Prop} (D:ZipApart z TI TO i1 i2 l2 l2) (gz:IsZip s.heap z TI TO .none) (gI:IsPair s.heap TI (.ref i1) (.ref i2)) (gO:IsPair s.heap TO a b)
  (g1:SI s.heap i1 tx t k1) (g2:ItAt false s.heap i2 l2 k2 ys) (hx:tx.cps[k1]?=some c) (hy:ys[k2]?=some y) (d:∀ h' tk u,IsZip h' z TI TO (rawInt s.heap.objs.size)→IsPair h' TO (.str ⟨#[c]⟩ u) y→SI h' i1 tx t (k1+1)→ItAt false h' i2 l2 (k2+1) ys→IsPair h' s.heap.objs.size (.str ⟨#[c]⟩ u) y→h'.objs.size=s.heap.objs.size+1→
   (∀ c o,c≠z→c≠TO→c≠i1→c≠i2→s.heap.get? c=some o→h'.get? c=some o)→Q (some (.ref s.heap.objs.size)) { s with heap:=h',toks:=tk }):wpAny (model prog w) A (pyNext (.ref z)) Q E s:=by
 have hT:s.TypeIs (.ref z) "zip":=⟨_,gz,rfl⟩; unfold pyNext
 exact wpAny_bind (wpAny_attempt (wpAny_callSpecial?_slot (name:=Str.ofString "__next__") hT F.slot_zip_next (wpAny_call_entry F.slot_zip_next hT F.entry_zip_next (vS D gz gI gO g1 g2 hx hy fun h' tk u a1 a2 a3 a4 a5 a6 a7=>wpAny_pure (d h' tk u a1 a2 a3 a4 a5 a6 a7)) (F.args_zip_next_1 _))))
theorem vq {z TI TO i1 i2 l2:Addr} {tx:Str} {t:Tok} {k1:Nat} {Q:Option Value→Shared→Prop} (hh:A.handled=none) (D:ZipApart z TI TO i1 i2 l2 l2) (gz:IsZip s.heap z TI TO .none) (gI:IsPair s.heap TI (.ref i1) (.ref i2))
  (g1:SI s.heap i1 tx t k1) (hx:tx.cps[k1]?=none) (d:∀ h',(∀ c o,c≠z→c≠TO→c≠i1→c≠i2→s.heap.get? c=some o→h'.get? c=some o)→Q none { s with heap:=h' }):wpAny (model prog w) A (pyNext (.ref z)) Q E s:=by
 have hT:s.TypeIs (.ref z) "zip":=⟨_,gz,rfl⟩; unfold pyNext
 refine wpAny_bind (wpAny_attempt (wpAny_callSpecial?_slot (name:=Str.ofString "__next__") hT F.slot_zip_next (wpAny_call_entry F.slot_zip_next hT F.entry_zip_next (yC (k2:=0) (ys:=#[]) (a:=.none) (b:=.none) hh D gz gI g1 hx fun h' e hk he=>?_) (F.args_zip_next_1 _))))
 obtain ⟨o,ho,hc⟩:=he; refine wpAny_bind (wpAny_isInstance (T:="StopIteration") (b:=true) ⟨o,ho,hc⟩ isSubtype_stop ?_); exact wpAny_pure (d _ hk)
abbrev yP (h:Heap) (tx:Str) (t:Tok):Heap:=h.push { cls:=.type "str_ascii_iterator",data:=.fields #[.str tx t,.int 0 0] }
abbrev yO (h:Heap) (tx:Str) (t:Tok) (l2:Addr):Heap:=(yP h tx t).push { cls:=.type "list_iterator",data:=.fields #[.ref l2,.int 0 0] }
abbrev yQ (h:Heap) (tx:Str) (t:Tok) (l2:Addr):Heap:=(yO h tx t l2).push { cls:=.type "tuple",data:=.seq #[.ref h.objs.size,.ref (yP h tx t).objs.size] }
abbrev yR (h:Heap) (tx:Str) (t:Tok) (l2:Addr):Heap:=(yQ h tx t l2).push { cls:=.type "tuple",data:=.seq #[.none,.none] }
abbrev yS (h:Heap) (tx:Str) (t:Tok) (l2:Addr):Heap:=(yR h tx t l2).push { cls:=.type "zip",data:=.fields #[.none,.bool false,.bool false,.ref (yO h tx t l2).objs.size,.ref (yQ h tx t l2).objs.size] }
theorem sD (tx:Str) (t:Tok) (ha:tx.cps.all (·<128)=true) (l2:Addr) (ys:Array Value):Meets (Builtin.«zip.__new__» ⟨[.type "zip",.str tx t,.ref l2],[]⟩) (fun _ R s=>s.heap.IsList l2 ys∧R (.ok (.ret (.ref (yR s.heap tx t l2).objs.size))) { s with heap:=yS s.heap tx t l2 }) :=
 .of_wp fun prog w A R s h=>by
  obtain ⟨hp,g,d,tk,os⟩:=s; obtain ⟨g2,h⟩:=h
  have sb:=sub_zip
  have a2:Heap.IsList (Shared.heap ⟨hp.push { cls:=.type "str_ascii_iterator",data:=.fields #[.str tx t,.int 0 0] },g,d,tk,os⟩) l2 ys:=Heap.IsList.push g2 _
  wp_walk using wpAny_pyIter_ascii ha,wpAny_pyIter_list a2; exact ⟨_,rfl,h⟩
theorem vO {tx:Str} {t:Tok} (ha:tx.cps.all (·<128)=true) {l2:Addr} {ys:Array Value} {Q:Value→Shared→Prop} (g2:s.heap.IsList l2 ys)
  (k:∀ h',IsZip h' (s.heap.objs.size+4) (s.heap.objs.size+2) (s.heap.objs.size+3) .none→IsPair h' (s.heap.objs.size+2) (.ref s.heap.objs.size) (.ref (s.heap.objs.size+1))→IsPair h' (s.heap.objs.size+3) .none .none→SI h' s.heap.objs.size tx t 0→ItAt false h' (s.heap.objs.size+1) l2 0 ys→
   (∀ c o,s.heap.get? c=some o→h'.get? c=some o)→Q (.ref (s.heap.objs.size+4)) { s with heap:=h' }):wpAny (model prog w) A (call (.type "zip") [.str tx t,.ref l2]) Q E s:=by
 refine callType_new F.called_zip (by decide) (F.typeCall_zip_2 _ _) (F.newCall_zip_2 _ _) (fun obj=>F.args_object_init_3 obj _ _) F.entry_zip_new (sD tx t ha l2 ys) ⟨g2,?_⟩
 have z1:(yP s.heap tx t).objs.size=s.heap.objs.size+1:=Heap.size_push ..
 have z2:(yO s.heap tx t l2).objs.size=s.heap.objs.size+2:=by rw [Heap.size_push,z1]
 have z3:(yQ s.heap tx t l2).objs.size=s.heap.objs.size+3:=by rw [Heap.size_push,z2]
 have z4:(yR s.heap tx t l2).objs.size=s.heap.objs.size+4:=by rw [Heap.size_push,z3]
 have e5:(yS s.heap tx t l2).get? (yR s.heap tx t l2).objs.size=some _:=Heap.get?_push_size _ rfl
 have e4:(yS s.heap tx t l2).get? (yQ s.heap tx t l2).objs.size=some _:=Heap.get?_push_of_some _ (Heap.get?_push_size _ rfl)
 have e3:(yS s.heap tx t l2).get? (yO s.heap tx t l2).objs.size=some _:=Heap.get?_push_of_some _ (Heap.get?_push_of_some _ (Heap.get?_push_size _ rfl))
 have e2:(yS s.heap tx t l2).get? (yP s.heap tx t).objs.size=some _:=Heap.get?_push_of_some _ (Heap.get?_push_of_some _ (Heap.get?_push_of_some _ (Heap.get?_push_size _ rfl)))
 have e1:(yS s.heap tx t l2).get? s.heap.objs.size=some _:=Heap.get?_push_of_some _ (Heap.get?_push_of_some _ (Heap.get?_push_of_some _ (Heap.get?_push_of_some _ (Heap.get?_push_size _ rfl))))
 show _∧_
 rw [z2,z3,z4] at e5; rw [z1,z2] at e3; rw [z3] at e4; rw [z1] at e2; rw [z4]
 have up:∀ c o,s.heap.get? c=some o→(yS s.heap tx t l2).get? c=some o:=fun c o x=>Heap.get?_push_of_some _ (Heap.get?_push_of_some _ (Heap.get?_push_of_some _ (Heap.get?_push_of_some _ (Heap.get?_push_of_some _ x))))
 exact ⟨⟨_,e5,rfl⟩,k _ e5 e3 e4 ⟨_,e1,rfl,rfl⟩ (m7 (tp:=false) g2 e2 up) up⟩
end
def yr (K:PySem.W.Frag) (z:Str) (b:Addr):It :=
  ⟨fun i H=>∃ ys c y,SqL K H b ys∧z.cps[i]?=some c∧ys[i]?=some y,
   fun i H v H'=>∃ T c y,H T=none∧H'=upd H T (.tup [sgn c,y])∧v=.ref T∧z.cps[i]?=some c∧∀ ys,SqL K H b ys→ys[i]?=some y,
   fun i H=>(∃ ys,SqL K H b ys)∧z.cps[i]?=none⟩
theorem vQ {P:Program} {w:World} {K:PySem.W.Frag} {elts:List Expr} {x1:Nat} {tp:Pos} {tx:Str} {t:Tok} {b z TI TO i1 i2:Addr} (D:ZipApart z TI TO i1 i2 b b) :
  Turn P w K (.Tuple elts x1 tp) (yr K tx b) [z,TI,TO,i1,i2] z (fun i h=>IsZip h z TI TO .none∧IsPair h TI (.ref i1) (.ref i2)∧(∃ u v,IsPair h TO u v)∧SI h i1 tx t i∧IterAt false h i2 b i) where
 mem:=by simp
 obj:=fun i h st c hc=>by
  obtain ⟨h1,h2,⟨u,v,h3⟩,h4,h5⟩:=st
  simp only [List.mem_cons,List.not_mem_nil,or_false] at hc
  rcases hc with rfl | rfl | rfl | rfl | rfl
  ·exact ⟨_,h1,fun v q=>nomatch q⟩
  ·exact ⟨_,h2,fun v q=>nomatch q⟩
  ·exact ⟨_,h3,fun v q=>nomatch q⟩
  ·exact xJ h4
  ·exact h5.obj
 keep:=fun i h h' st k=>by
  obtain ⟨h1,h2,⟨u,v,h3⟩,h4,h5⟩:=st
  exact ⟨k z (by simp) _ h1,k TI (by simp) _ h2,⟨u,v,k TO (by simp) _ h3⟩,kB h4 fun o e=>k i1 (by simp) o e,h5.at fun o e=>k i2 (by simp) o e⟩
 item:=by
  intro X hP hw hK hc i pins s σ H E I hf st hg
  subst hP hw hK
  obtain ⟨ys,c,y,hys,hx,hy⟩:=hg
  obtain ⟨ws,r2,q2⟩:=I.seqX (tp:=false) hys
  obtain ⟨v,hv,rv⟩:=r2.get hy
  obtain ⟨h1,h2,⟨o1,o2,h3⟩,h4,h5⟩:=st
  refine r9 D h1 h2 h3 h4 (h5.it q2) hx (y:=v) (by simpa using hv) fun h' tk u b1 b2 b3 b4 b5 b6 b7=>?_
  refine ⟨_,rfl,?_⟩
  refine wpAny_letOwnedTupleGo_zip b1 fun h6 c1 c2=>?_
  have lt:∀ {c o},s.heap.get? c=some o→c≠s.heap.objs.size:=fun e=>Nat.ne_of_lt (Heap.lt_size e)
  have zlt:s.heap.objs.size≠z:=Ne.symm (lt h1)
  have k2:∀ c o,c∉[z,TI,TO,i1,i2]→s.heap.get? c=some o→h6.get? c=some o:=fun c o hc' q=>by
   have n1:c≠z:=fun e=>hc' (by simp [e])
   exact (c2.2 c n1).trans (b7 c o n1 (fun e=>hc' (by simp [e])) (fun e=>hc' (by simp [e])) (fun e=>hc' (by simp [e])) q)
  have t2:h6.get? s.heap.objs.size=some { cls:=.type "tuple",data:=.seq #[.str ⟨#[c]⟩ u,v] }:=(c2.2 _ zlt).trans b5
  have hn:H s.heap.objs.size=none:=I.hok.fresh (Nat.le_refl _)
  have new:ObjOk X.prog X.w (upd H s.heap.objs.size (.tup [sgn c,y])) h6 s.heap.objs.size (.tup [sgn c,y]):=⟨by simp only [List.length_cons,List.length_nil]; rw [sizeLine_eq]; decide,[.str ⟨#[c]⟩ u,v],.cons ⟨u,rfl⟩ (.cons rv .nil),⟨_,t2,rfl,_,rfl⟩⟩
  have I2:Inv X pins σ (upd H s.heap.objs.size (.tup [sgn c,y])) { s with heap:=h6,toks:=tk }:=I.turnedNew k2 hf (Nat.le_refl _) new
  refine ⟨.ref s.heap.objs.size,_,I2,rfl,⟨s.heap.objs.size,c,y,hn,rfl,rfl,hx,fun ys' hy'=>by rw [pO (tp:=false) I hy' hys]; exact hy⟩,⟨c1,(c2.2 _ D.TIz).trans (b7 _ _ D.TIz D.TITO D.TIi1 D.TIi2 h2),⟨_,_,(c2.2 _ D.TOz).trans b2⟩,kB b3 fun o e=>(c2.2 _ D.i1z).trans e,b4.iter.at fun o e=>(c2.2 _ D.i2z).trans e⟩,fun c hc'=>?_⟩
  have hne:c≠s.heap.objs.size:=by
   simp only [List.mem_cons,List.not_mem_nil,or_false] at hc'
   rcases hc' with rfl | rfl | rfl | rfl | rfl
   ·exact lt h1
   ·exact lt h2
   ·exact lt h3
   ·obtain ⟨o,e,_⟩:=xJ h4; exact lt e
   ·obtain ⟨o,e,_⟩:=h5.obj; exact lt e
  rw [aC hne]
  exact (hf c hc').1
 done:=by
  intro X hP hw hK hc i pins s σ H E I hf st hg
  subst hP hw hK
  obtain ⟨_,hend⟩:=hg
  obtain ⟨h1,h2,⟨o1,o2,h3⟩,h4,h5⟩:=st
  refine vq (show X.A.handled=none from I.ok.hd hc) D h1 h2 h4 hend fun h' k=>⟨rfl,?_⟩
  exact I.turnedL (t':=s.toks) (fun c o hc' q=>k c o (fun e=>hc' (by simp [e])) (fun e=>hc' (by simp [e])) (fun e=>hc' (by simp [e])) (fun e=>hc' (by simp [e])) q) hf
 self:=fun _ _ _ _ _ st h=>wpAny_pyIter_zip st.1 h
section
variable {X:Cx}
def CV (K:PySem.W.Frag) (ta:TA):TI:=fun σ H R=>ta σ H fun vs H1=>∃ z b,vs=[.str z,.ref b]∧z.cps.all (·<128)=true∧(∃ ys,SqL K H1 b ys)∧R (yr K z b) H1
theorem zZ {a b:Expr} {ta:TA} {p pos tp:Pos} {elts:List Expr} {x1:Nat} (hg:Gl X "zip") (hm:X.mg "zip"=none) (ha:PA X [a,b] ta) (hs:starEach [a,b] X.env=(false,eval a X.env)::starEach [b] X.env:=by rfl) (hpl:(backTo pos (starEach [b] X.env)).any (·.1)=false:=by rfl) :
  PI X (.Tuple elts x1 tp) (.Call (.Name "zip" p) [a,b] [] pos) (CV X.K ta):=by
 intro pins s σ H R I h
 refine Call_ (fL I hg hm PyProof.Rows.boot_zip (PyProof.Rows.callWith_type1 (thn (ha pos pins s σ H _ I h) fun us s1 ⟨vs,H1,I1,r1,q1⟩=>?_) hs hpl))
 obtain ⟨z,l2,e,hz,⟨ys,hy⟩,q⟩:=q1
 subst e
 obtain ⟨u,v,rfl,ru,rv⟩:=vals2 r1
 obtain ⟨t,rfl⟩:=ru
 cases rv
 obtain ⟨ws,_,g2⟩:=I1.seqX (tp:=false) hy
 have lt:l2<s1.heap.objs.size:=by
  obtain ⟨o,z,_⟩:=g2
  exact Heap.lt_size z
 refine vO hz g2 fun h' b1 b2 b3 b4 b5 hk=>?_
 refine wpAny_pyIter_zip b1 ?_
 have hfp:∀ c∈[s1.heap.objs.size+4,s1.heap.objs.size+2,s1.heap.objs.size+3,s1.heap.objs.size,s1.heap.objs.size+1],iF X pins H1 c:=fun c hc=>by
  have hge:s1.heap.objs.size≤c:=by
   simp only [List.mem_cons,List.not_mem_nil,or_false] at hc
   omega
  exact I1.fpOk hge (I1.hok.fresh hge)
 exact ⟨s1.heap.objs.size+4,_,_,_,H1,rfl,I1.kept (t':=s1.toks) hk,vQ (zipApart_new lt lt),⟨b1,b2,⟨_,_,b3⟩,b4,b5.iter⟩,hfp,q⟩
end
theorem yK {K:PySem.W.Frag} {z:Str} {b:Addr} {ys:List V} {g:TG} {tb:TS} {D:Ends} {σ:St} {H:Hp} (Pv:Nat→St→Hp→Prop) (h0:Pv 0 σ H) (hle:z.cps.size=ys.length) (hl:∀ i σ H,i≤ys.length→Pv i σ H→SqL K H b ys)
  (hs:∀ i c y σ H T,z.cps[i]?=some c→ys[i]?=some y→Pv i σ H→H T=none→g (.ref T) σ (upd H T (.tup [sgn c,y])) fun σ2 H2=>tb { D with nx:=Pv (i+1),ct:=Pv (i+1),bk:=D.nx } σ2 H2) (hd:∀ σ H,Pv ys.length σ H→D.nx σ H) :
  ∃ W:Nat→Nat→St→Hp→Prop,(∃ m,W 0 m σ H)∧∀ i m σ H,W i m σ H→((yr K z b).stop i H∧D.nx σ H)∨((yr K z b).go i H∧∃ N:St→Hp→Prop,(∀ σ' H',N σ' H'→∃ m',m'<m∧W (i+1) m' σ' H')∧∀ x H',(yr K z b).yld i H x H'→g x σ H' fun σ2 H2=>tb { D with nx:=N,ct:=N,bk:=D.nx } σ2 H2):=by
 refine ⟨fun i m σ H=>m=ys.length - i∧i≤ys.length∧Pv i σ H,⟨ys.length,by simp,Nat.zero_le _,h0⟩,?_⟩
 rintro i m σ H ⟨rfl,hi,p⟩
 have q2:=hl i σ H hi p
 by_cases hlt:i<ys.length
 ·have e1:z.cps[i]?=some _:=Array.getElem?_eq_getElem (show i<z.cps.size by omega)
  have e2:=List.getElem?_eq_getElem hlt
  refine .inr ⟨⟨ys,_,_,q2,e1,e2⟩,Pv (i+1),fun σ' H' p'=>⟨ys.length - (i+1),by omega,rfl,hlt,p'⟩,fun v H' y=>?_⟩
  obtain ⟨T,c,y,hT,z1,z2,z3,z4⟩:=y
  subst z1 z2
  exact hs i c y σ H T z3 (z4 ys q2) p hT
 ·have e:i=ys.length:=by omega
  refine .inl ⟨⟨⟨ys,q2⟩,?_⟩,hd σ H (by rw [← e]; exact p)⟩
  simp
  omega
end L2
namespace L2
open PySem PySem.Spec PyProof.Rows
def jnL (y:List Nat):List (List Nat)→List Nat
 | []=>[]
 | [x]=>x
 | x::z::r=>x++(y++jnL y (z::r))
theorem ow (y:Str):∀ xs:List Str,(Str.join y xs).cps.toList=jnL y.cps.toList (xs.map fun x=>x.cps.toList)
 | []=>rfl
 | [x]=>rfl
 | x::z::r=>by
  have ih:=ow y (z::r)
  show (x++y++Str.join y (z::r)).cps.toList=_
  rw [bB,bB,ih,List.append_assoc]
  rfl
theorem sM (y:Str) (xs:List Str):(Txt.join y xs).cps.toList=jnL y.cps.toList (xs.map fun x=>x.cps.toList):=by
 show (Builtin.Str.glued y xs).cps.toList=_
 rw [StrLaws.glued_eq_join,ow]
theorem tY {x y:Str} {c0 i:Nat} {t0:List Nat} (hy:y.cps.toList=c0::t0) (h:StrLaws.At x y x.length i):x.cps.toList[i]?=some c0:=by
 obtain ⟨h1,h2⟩:=h
 rw [StrLaws.subAt_eq,beq_iff_eq] at h2
 have e:((x.cps.toList.drop i).take y.length)[0]?=some c0:=by rw [h2,hy]; rfl
 have hl:0<y.length:=by
  have:=bj y
  rw [hy,List.length_cons] at this
  omega
 rw [List.getElem?_take_of_lt hl,List.getElem?_drop] at e
 exact e
theorem ij {x y p:Str} {c0 a f:Nat} {t0 rest:List Nat} {cuts:List Nat} (hy:y.cps.toList=c0::t0) (hp:c0∉p.cps.toList) (hd:x.cps.toList.drop a=p.cps.toList++(y.cps.toList++rest)) (g:StrLaws.ChainG x y x.length a cuts f) (hn:∀ k,f≤k→¬ StrLaws.At x y x.length k) :
  ∃ rr,cuts=(a+p.length)::rr∧StrLaws.ChainG x y x.length (a+p.length+y.length) rr f∧Builtin.Str.strSub x a (a+p.length)=p∧x.cps.toList.drop (a+p.length+y.length)=rest:=by
 have lp:=bj p
 have ly:=bj y
 have lx:=bj x
 have hlen:=congrArg List.length hd
 rw [List.length_drop,List.length_append,List.length_append] at hlen
 have ypos:1≤y.length:=by rw [← ly,hy,List.length_cons]; omega
 have d1:x.cps.toList.drop (a+p.length)=y.cps.toList++rest:=by
  rw [← List.drop_drop,hd,← lp,List.drop_left]
 have d2:x.cps.toList.drop (a+p.length+y.length)=rest:=by
  rw [← List.drop_drop,d1,← ly,List.drop_left]
 have hA:StrLaws.At x y x.length (a+p.length):=by
  refine ⟨by omega,?_⟩
  rw [StrLaws.subAt_eq,beq_iff_eq,d1,← ly,List.take_left]
 have low:∀ k,a≤k→k<a+p.length→¬ StrLaws.At x y x.length k:=fun k h1 h2 h3=>by
  have e:=tY hy h3
  have e2:(x.cps.toList.drop a)[k - a]?=some c0:=by
   rw [List.getElem?_drop,show a+(k - a)=k by omega]
   exact e
  rw [hd,List.getElem?_append_left (by omega)] at e2
  exact hp (List.mem_of_getElem? e2)
 have e1:Builtin.Str.strSub x a (a+p.length)=p:=cZ (by
  rw [StrLaws.strSub_toList,hd,show a+p.length - a=p.length by omega,← lp,List.take_left])
 cases cuts with
 | nil =>
  have ef:f=a:=g
  exact absurd hA (hn _ (by omega))
 | cons c rr =>
  obtain ⟨g1,g2,g3,g4⟩:=g
  have ec:c=a+p.length:=by
   rcases Nat.lt_trichotomy c (a+p.length) with h | h | h
   ·exact absurd g2 (low c g1 h)
   ·exact h
   ·exact absurd hA (g3 _ (by omega) h)
  subst ec
  exact ⟨rr,rfl,g4,e1,d2⟩
theorem chain_last {x y p:Str} {c0 a f:Nat} {t0:List Nat} {cuts:List Nat} (hy:y.cps.toList=c0::t0) (hp:c0∉p.cps.toList) (hd:x.cps.toList.drop a=p.cps.toList) (g:StrLaws.ChainG x y x.length a cuts f):cuts=[]∧Builtin.Str.strSub x a x.length=p:=by
 have lp:=bj p
 have lx:=bj x
 have hlen:=congrArg List.length hd
 rw [List.length_drop] at hlen
 refine ⟨?_,cZ (by rw [StrLaws.strSub_toList,hd]; exact List.take_of_length_le (by omega))⟩
 cases cuts with
 | nil=>rfl
 | cons c rr =>
  obtain ⟨g1,g2,_,_⟩:=g
  have e:=tY hy g2
  have e2:(x.cps.toList.drop a)[c - a]?=some c0:=by
   rw [List.getElem?_drop,show a+(c - a)=c by omega]
   exact e
  rw [hd] at e2
  exact absurd (List.mem_of_getElem? e2) hp
theorem ko {x y:Str} {c0:Nat} {t0:List Nat} (hy:y.cps.toList=c0::t0):∀ (parts:List Str) (a:Nat) (cuts:List Nat) (f:Nat),parts≠[]→(∀ p∈parts,c0∉p.cps.toList)→x.cps.toList.drop a=jnL y.cps.toList (parts.map fun p=>p.cps.toList)→StrLaws.ChainG x y x.length a cuts f→(∀ k,f≤k→¬ StrLaws.At x y x.length k)→StrLaws.partsFrom x y.length a cuts=parts
 | [],_,_,_,h,_,_,_,_=>absurd rfl h
 | [p],a,cuts,f,_,hf,hd,g,hn=>by
  obtain ⟨rfl,e⟩:=chain_last hy (hf p List.mem_cons_self) hd g
  show [Builtin.Str.strSub x a x.length]=_
  rw [e]
 | p::q::r,a,cuts,f,_,hf,hd,g,hn=>by
  obtain ⟨rr,rfl,g',e1,e2⟩:=ij hy (hf p List.mem_cons_self) hd g hn
  show Builtin.Str.strSub x a (a+p.length)::StrLaws.partsFrom x y.length (a+p.length+y.length) rr=_
  rw [e1,ko hy (q::r) _ rr f (List.cons_ne_nil _ _) (fun z hz=>hf z (List.mem_cons_of_mem _ hz)) e2 g' hn]
theorem mj (x:Str):Builtin.Str.strSub x 0 x.length=x:=cZ (by
 rw [StrLaws.strSub_toList,List.drop_zero,Nat.sub_zero]
 exact List.take_of_length_le (by rw [bj x]; exact Nat.le_refl _))
theorem uF (x:Str):1≤Builtin.Str.strKind x:=by
 unfold Builtin.Str.strKind
 split
 ·exact Nat.le_refl _
 ·split <;> decide
theorem sW {c0:Nat} {t0:List Nat} {y:Str} (hy:y.cps.toList=c0::t0) (hk:Builtin.Str.strKind y=1) {parts:List Str} {z:Str} (hz:z.cps.toList=jnL y.cps.toList (parts.map fun p=>p.cps.toList)) (hne:parts≠[]) (hf:∀ p∈parts,c0∉p.cps.toList):Txt.split z y=parts:=by
 have hw:1≤y.length:=by rw [← bj y,hy,List.length_cons]; omega
 obtain ⟨f,g,hn⟩:=StrLaws.occ_tight z y hw
 have key:=ko hy parts 0 _ f hne hf (by rw [List.drop_zero]; exact hz) g hn
 unfold Txt.split
 split
 ·rename_i hc
  rw [Bool.or_eq_true,decide_eq_true_eq,decide_eq_true_eq,hk] at hc
  have hlt:z.length<y.length:=hc.resolve_right (by have:=uF z; omega)
  have e0:Builtin.Str.occurrences z y 0 z.length (z.length+1)=[]:=by
   cases e:Builtin.Str.occurrences z y 0 z.length (z.length+1) with
   | nil=>rfl
   | cons c r =>
    rw [e] at g
    have:=g.2.1.1
    omega
  rw [e0] at key
  rw [← key]
  show [z]=[Builtin.Str.strSub z 0 z.length]
  rw [mj]
 ·split
  ·rename_i he
   rw [List.isEmpty_iff.mp he] at key
   rw [← key]
   show [z]=[Builtin.Str.strSub z 0 z.length]
   rw [mj]
  ·rw [StrLaws.partsBetween_eq]
   exact key
theorem oM (s sub:Str) (hi M:Nat):∀ (l:List Nat) (st:Array Nat×Nat),∃ r,(forIn l st (StrLaws.occBody s sub hi M)).run.fst.toList=st.fst.toList++r
 | [],st=>⟨[],by rw [List.append_nil]; rfl⟩
 | i::l,st=>by
  rw [List.forIn_cons]
  unfold StrLaws.occBody
  split
  ·obtain ⟨r,e⟩:=oM s sub hi M l (st.fst.push i,i+sub.length)
   refine ⟨i::r,?_⟩
   have e':(forIn l (st.fst.push i,i+sub.length) (StrLaws.occBody s sub hi M)).run.fst.toList=st.fst.toList++i::r:=by rw [e,Array.toList_push,List.append_assoc]; rfl
   exact e'
  ·obtain ⟨r,e⟩:=oM s sub hi M l st
   exact ⟨r,e⟩
theorem qf (s sub:Str) (hi L:Nat):∀ (l:List Nat) (st:Array Nat×Nat),L≤st.fst.size→(forIn l st (StrLaws.occBody s sub hi L)).run.fst.toList=st.fst.toList
 | [],st,_=>rfl
 | i::l,st,h=>by
  rw [List.forIn_cons]
  unfold StrLaws.occBody
  split
  ·rename_i hc
   have:=hc.1.1.1
   omega
  ·exact qf s sub hi L l st h
theorem pw (s sub:Str) (hi L M:Nat) (hLM:L≤M):∀ (l:List Nat) (st:Array Nat×Nat),st.fst.size≤L→(forIn l st (StrLaws.occBody s sub hi L)).run.fst.toList=(forIn l st (StrLaws.occBody s sub hi M)).run.fst.toList.take L
 | [],st,h=>(List.take_of_length_le (by rw [Array.length_toList]; exact h)).symm
 | i::l,st,h=>by
  rcases Nat.lt_or_ge st.fst.size L with h1 | h1
  ·rw [List.forIn_cons,List.forIn_cons]
   unfold StrLaws.occBody
   by_cases hc:((st.fst.size<L∧st.snd≤i)∧i+sub.length≤hi)∧Builtin.Str.subAt s sub i=true
   ·have hc':((st.fst.size<M∧st.snd≤i)∧i+sub.length≤hi)∧Builtin.Str.subAt s sub i=true:=⟨⟨⟨by omega,hc.1.1.2⟩,hc.1.2⟩,hc.2⟩
    rw [if_pos hc,if_pos hc']
    exact pw s sub hi L M hLM l _ (by rw [Array.size_push]; omega)
   ·have hc':¬ (((st.fst.size<M∧st.snd≤i)∧i+sub.length≤hi)∧Builtin.Str.subAt s sub i=true):=fun q=>hc ⟨⟨⟨h1,q.1.1.2⟩,q.1.2⟩,q.2⟩
    rw [if_neg hc,if_neg hc']
    exact pw s sub hi L M hLM l _ h
  ·rw [qf s sub hi L (i::l) st h1]
   obtain ⟨r,e⟩:=oM s sub hi M (i::l) st
   rw [e,List.take_append_of_le_length (by rw [Array.length_toList]; omega)]
   exact (List.take_of_length_le (by rw [Array.length_toList]; exact h)).symm
theorem zW (x y:Str) (L:Nat) (h:L≤x.length+1):Builtin.Str.occurrences x y 0 x.length L=(Builtin.Str.occurrences x y 0 x.length (x.length+1)).take L:=by
 rw [StrLaws.occ_eq,StrLaws.occ_eq]
 exact pw x y x.length L (x.length+1) h _ _ (Nat.zero_le _)
theorem uM {z a b c:Str} (hz:z.cps.toList=a.cps.toList++32::(b.cps.toList++32::c.cps.toList)) (ha:32∉a.cps.toList) (hb:32∉b.cps.toList) :
  ∃ i j,Builtin.Str.occurrences z ⟨#[32]⟩ 0 z.length 2=[i,j]∧Builtin.Str.partsBetween z [i,j] 1=[a,b,c]:=by
 have lz:=bj z
 have la:=bj a
 have lb:=bj b
 have lc:=bj c
 have hlen:=congrArg List.length hz
 rw [List.length_append,List.length_cons,List.length_append,List.length_cons] at hlen
 have hy:(⟨#[32]⟩:Str).cps.toList=32::[]:=rfl
 obtain ⟨f,g,hn⟩:=StrLaws.occ_tight z ⟨#[32]⟩ (Nat.le_refl 1)
 obtain ⟨r1,e1,g1,s1,d1⟩:=ij (p:=a) (rest:=b.cps.toList++32::c.cps.toList) hy ha (by rw [List.drop_zero]; exact hz) g hn
 obtain ⟨r2,e2,g2,s2,d2⟩:=ij (p:=b) (rest:=c.cps.toList) hy hb d1 g1 hn
 rw [e2] at e1
 refine ⟨0+a.length,0+a.length+1+b.length,?_,?_⟩
 ·rw [zW z ⟨#[32]⟩ 2 (by omega),e1]
  rfl
 ·rw [StrLaws.partsBetween_eq]
  show [Builtin.Str.strSub z 0 (0+a.length),Builtin.Str.strSub z (0+a.length+1) (0+a.length+1+b.length),Builtin.Str.strSub z (0+a.length+1+b.length+1) z.length]=_
  have s2':Builtin.Str.strSub z (0+a.length+1) (0+a.length+1+b.length)=b:=s2
  have s3:Builtin.Str.strSub z (0+a.length+1+b.length+1) z.length=c:=cZ (by
   have d2':z.cps.toList.drop (0+a.length+1+b.length+1)=c.cps.toList:=d2
   rw [StrLaws.strSub_toList,d2']
   exact List.take_of_length_le (by omega))
  rw [s1,s2',s3]
def AG:V→List V→Hp→VK→Prop:=fun x vs H Q=>∃ z a b c:Str,x=.str z∧vs=[.str " ",.int 2]∧z.cps.toList=a.cps.toList++32::(b.cps.toList++32::c.cps.toList)∧32∉a.cps.toList∧32∉b.cps.toList∧z.length≤4000∧∀ p,H p=none→Q (.ref p) (upd H p (.lst [.str a,.str b,.str c]))
theorem pf:(" ":Str)=⟨#[32]⟩:=by decide +kernel
section
variable {X:Cx}
theorem vj:MtM X "str.split" AG:=by
 intro pins s σ H x vs v us Q I rx rv h
 obtain ⟨z,a,b,c,rfl,rfl,hz,ha,hb,hl,q⟩:=h
 obtain ⟨t,rfl⟩:=rx
 obtain ⟨u',w',rfl,⟨u,rfl⟩,⟨k,rfl⟩⟩:=rv.two
 obtain ⟨i,j,e1,e2⟩:=uM hz ha hb
 rw [pf]
 have lim:limitOf z 2=2:=rfl
 have h1:(decide (z.length<(⟨#[32]⟩:Str).length) || decide (Builtin.Str.strKind z<Builtin.Str.strKind ⟨#[32]⟩))=false:=by
  rw [Bool.or_eq_false_iff,decide_eq_false_iff_not,decide_eq_false_iff_not]
  have hlen:=congrArg List.length hz
  rw [List.length_append,List.length_cons,bj z] at hlen
  have e3:Builtin.Str.strKind ⟨#[32]⟩=1:=by decide +kernel
  have:=uF z
  exact ⟨by show ¬ z.length<1; omega,by rw [e3]; omega⟩
 have e1':Builtin.Str.occurrences z ⟨#[32]⟩ 0 z.length (limitOf z 2)=[i,j]:=e1
 have key:=meets_str_split_sep_max z ⟨#[32]⟩ 2 t u k (by decide) h1 rfl (by rw [e1']; rfl) (by rw [sizeLine_eq]; omega) (by
  rw [e1']
  show (Builtin.Str.partsBetween z [i,j] 1).length≤sizeLine
  rw [e2,sizeLine_eq]
  show 3≤_
  decide)
 refine call_meets F.slot_str_split (typeIs_str _ _ _) F.entry_str_split (F.args_str_split_3 _ _ _) key ?_
 have e2':Builtin.Str.partsBetween z (Builtin.Str.occurrences z ⟨#[32]⟩ 0 z.length (limitOf z 2)) (⟨#[32]⟩:Str).length=[a,b,c]:=by rw [e1']; exact e2
 rw [e2',strsFrom_eq]
 have hv:=gM (numbered s.toks [a,b,c])
 rw [numbered_texts] at hv
 exact ⟨.ref _,_,I.lnew hv (by show 3≤sizeLine; decide),rfl,q _ I.fresh⟩
end
def rX (P:Program) (w:World) (K:PySem.W.Frag) (a:Addr) (kvs:List (Key×V)):Prop:=(a == sysModules)=false∧∃ (o:Obj) (vs:List (Key×Value)),K.lookup a=some o∧o.IsDictOf (bH P w) vs∧KV kvs vs
def strOf?:Value→Option Str
 | .str x _=>some x
 | _=>none
theorem p6 {v:Value} {x:Str} (h:strOf? v=some x):∃ t,v=.str x t:=by
 cases v <;> simp [strOf?] at h
 subst h
 exact ⟨_,rfl⟩
theorem qm {P:Program} {w:World}:∀ (es:List DictEntry) (zs:List (Str×Str)),es.map (fun e=>(e.hash,strOf? e.key,strOf? e.val))=zs.map (fun z=>(PyData.keyHash w.params z.1,some z.1,some z.2))→
  ∃ vs:List (Key×Value),Pairs (bH P w) es vs∧KV (zs.map fun z=>((Sum.inr z.1:Key),V.str z.2)) vs∧vs.map (·.1)=zs.map (fun z=>(Sum.inr z.1:Key))∧∀ e∈es,∃ k,(bH P w).is k e.key=true∧e.hash=(bH P w).hash k
 | [],[],_=>⟨[],.nil,.nil,rfl,fun e h=>(nomatch h)⟩
 | [],z::zs,h=>by cases h
 | e::es,[],h=>by cases h
 | e::es,z::zs,h=>by
  obtain ⟨h1,h2⟩:=List.cons.inj h
  obtain ⟨vs,p1,p2,p3,p4⟩:=qm es zs h2
  have h1a:=congrArg (·.1) h1
  have h1b:=congrArg (·.2.1) h1
  have h1c:=congrArg (·.2.2) h1
  obtain ⟨t,ek⟩:=p6 h1b
  obtain ⟨u,ev⟩:=p6 h1c
  have is1:(bH P w).is (Sum.inr z.1) e.key=true:=by rw [ek]; exact kf P w z.1 t
  refine ⟨(Sum.inr z.1,e.val)::vs,.cons is1 rfl p1,.cons ⟨rfl,u,ev⟩ p2,by rw [List.map_cons,List.map_cons,p3],fun e' he=>?_⟩
  rcases List.mem_cons.mp he with rfl | he
  ·exact ⟨_,is1,h1a⟩
  ·exact p4 e' he
theorem AQ {P:Program} {w:World} {K:PySem.W.Frag} {a:Addr} {o:Obj} {es:Array DictEntry} {ep:Nat} (zs:List (Str×Str)) (l:K.lookup a=some o) (c:o=⟨.type "dict",none,.dict es ep,#[]⟩)
  (m:es.toList.map (fun e=>(e.hash,strOf? e.key,strOf? e.val))=zs.map fun z=>(PyData.keyHash w.params z.1,some z.1,some z.2)) (nd:(zs.map (·.1)).Nodup) (hs:(a == sysModules)=false):rX P w K a (zs.map fun z=>((Sum.inr z.1:Key),V.str z.2)):=by
 obtain ⟨vs,p1,p2,p3,p4⟩:=qm (P:=P) (w:=w) es.toList zs m
 subst c
 refine ⟨hs,_,vs,l,⟨es,ep,⟨rfl,rfl,rfl⟩,rfl,fun e he=>p4 e (Array.mem_toList_iff.mpr he),p1,?_⟩,p2⟩
 rw [p3]
 have:zs.map (fun z=>(Sum.inr z.1:Key))=(zs.map (·.1)).map Sum.inr:=by rw [List.map_map]; rfl
 rw [this]
 exact List.Pairwise.map _ (fun x y h e=>h (Sum.inr.inj e)) nd
section
variable {X:Cx} {pins:List (Addr×Obj)} {σ:St} {H:Hp} {s:Shared} {a:Addr} {kvs:List (Key×V)}
theorem uE (I:Inv X pins σ H s) (g:rX X.prog X.w X.K a kvs):∃ vs,KV kvs vs∧s.heap.DictOf (bH X.prog X.w) a vs:=by
 obtain ⟨_,o,vs,hk,hd,r⟩:=g
 exact ⟨vs,r,Heap.dictOf_iff.mpr ⟨o,I.kIn a o hk,hd⟩⟩
def DA (a:Addr) (kvs:List (Key×V)) (td ty:TE):TE:=fun σ H Q=>td σ H fun x H1=>ty σ H1 fun y H2=>∃ k v,x=.ref a∧y=kV k∧cm kvs k=some v∧Q v H2
def AA (a:Addr) (kvs:List (Key×V)) (ty td:TE):TE:=fun σ H Q=>ty σ H fun y H1=>td σ H1 fun x H2=>∃ k,x=.ref a∧y=kV k∧Q (.bl (!(cm kvs k).isSome)) H2
theorem Ai {o i:Expr} {pos:Pos} {td ty:TE} (g:rX X.prog X.w X.K a kvs) (ho:PE X o td) (hi:PE X i ty) (hs:CC i):PE X (.Subscript o i pos) (DA a kvs td ty):=by
 intro pins s σ H Q I h
 refine t5 PySem.F.slot_dict_getitem.lookup hs (thn (ho pins s σ H _ I h) fun u s1 ⟨x,H1,I1,rx,q1⟩=>thn (hi pins s1 σ H1 _ I1 q1) fun iv s2 ⟨y,H2,I2,ry,k,v,ex,ey,e,q2⟩=>?_)
 subst ex ey
 obtain rfl:u=Value.ref a:=rx
 obtain ⟨vs,rel,dd⟩:=uE I2 g
 obtain ⟨w',hw,rw'⟩:=RelO.some_of (v:=v) (o:=valueAt vs k) (by rw [← e]; exact rel.val k)
 exact ⟨dd.typeIs,wpAny_getItem_of (lX ry) dd.mapOf hw ⟨v,H2,I2.tok _,rw',q2⟩⟩
theorem uS {o i:Expr} {td ty:TE} (g:rX X.prog X.w X.K a kvs) (hi:PE X i ty) (ho:PE X o td):PC X .NotIn i o (AA a kvs ty td):=by
 intro pins s σ H Q I h
 refine thn (hi pins s σ H _ I h) fun iv s1 ⟨y,H1,I1,ry,q1⟩=>thn (ho pins s1 σ H1 _ I1 q1) fun u s2 ⟨x,H2,I2,rx,k,ex,ey,q2⟩=>?_
 subst ex ey
 obtain rfl:u=Value.ref a:=rx
 obtain ⟨vs,rel,dd⟩:=uE I2 g
 refine wpAny_notIn_of (lX ry) g.1 dd.mapOf ?_
 rw [← (rel.val k).isSome_eq]
 exact ⟨.bl (!(cm kvs k).isSome),H2,I2.tok _,rfl,q2⟩
end
end L2
namespace L2
open PySem PySem.Spec PyProof.Rows
theorem uB (xs:Array Nat):∀ (k:Nat) (acc:Array Nat),((List.replicate k xs).foldl (·++·) acc).toList=acc.toList++(List.replicate k xs.toList).flatten
 | 0,acc=>by simp
 | k+1,acc=>by
  rw [List.replicate_succ,List.foldl_cons,uB xs k,Array.toList_append,List.replicate_succ,List.flatten_cons,List.append_assoc]
section
variable {X:Cx}
theorem qJ:OpR X (binaryOp .Mult) (fun x y H Q=>∃ (z:Str) (n:Int),x=.str z∧y=.int n∧1≤n∧n≤100∧z.length≤100∧∀ r:Str,r.cps.toList=(List.replicate n.toNat z.cps.toList).flatten→Q (.str r) H):=by
 intro pins s σ H x y v u Q I rx ry h
 obtain ⟨z,n,rfl,rfl,h1,h2,hz,q⟩:=h
 obtain ⟨t,rfl⟩:=rx
 obtain ⟨t',rfl⟩:=ry
 have hn:¬ n<1:=by omega
 refine P.mul_str (by rw [decide_eq_false (by omega),decide_eq_false (by omega)]; rfl) (fun _ _=>?_) (fun _ _=>?_) ?_
 ·have:(100:Int)≤(2 ^ 63 - 1) / n:=by
   rw [Int.le_ediv_iff_mul_le (by omega)]
   omega
  omega
 ·have:z.length * n.toNat≤100 * 100:=Nat.mul_le_mul hz (by omega)
  have:z.length * n.toNat≤sizeLine:=Nat.le_trans this (by decide)
  exact decide_eq_false (by omega)
 ·rw [if_neg hn]
  split
  ·rename_i hc
   refine ⟨.str z,H,I,⟨t,rfl⟩,q z ?_⟩
   rw [Bool.or_eq_true] at hc
   rcases hc with hc | hc
   ·have:n=1:=by simpa using hc
    subst this
    simp
   ·have h0:z.cps.toList=[]:=by
     have:z.length=0:=by simpa using hc
     have l:=bj z
     exact List.length_eq_zero_iff.mp (by omega)
    rw [h0]
    simp
  ·refine ⟨?_,.str _,H,I.tok _,⟨_,rfl⟩,q _ ?_⟩
   ·show ((List.replicate n.toNat z.cps).foldl (·++·) #[]).size≤sizeLine
    rw [qz]
    have:n.toNat * z.cps.size≤100 * 100:=Nat.mul_le_mul (by omega) hz
    show 0+_≤_
    rw [Nat.zero_add]
    exact Nat.le_trans this (by decide)
   ·show ((List.replicate n.toNat z.cps).foldl (·++·) #[]).toList=_
    rw [uB]
    rfl
end
end L2
namespace L2
open PySem PySem.Spec PyProof.Rows
section
variable {X:Cx}
theorem cx:cT X (.type "str") (fun xs H Q=>(xs=[.non]∧Q (.str "None") H)∨(∃ z,xs=[.str z]∧Q (.str z) H)∨∃ i:Int,xs=[.int i]∧i.natAbs.log2<1920∧Q (.str (toString i)) H):=by
 intro pins s σ H xs us Q I r h
 rcases h with ⟨rfl,q⟩ | ⟨z,rfl,q⟩ | ⟨i,rfl,hz,q⟩
 ·obtain ⟨u,rfl,ru⟩:=vals1 r
  cases ru
  exact PySem.P.str_of_none ⟨.str _,H,I.tok _,⟨_,rfl⟩,q⟩
 ·obtain ⟨u,rfl,t,rfl⟩:=vals1 r
  exact PySem.P.str_of_str ⟨.str _,H,I,⟨_,rfl⟩,q⟩
 ·obtain ⟨u,rfl,t,rfl⟩:=vals1 r
  exact PySem.P.str_of_int hz ⟨.str _,H,I.tok _,⟨_,rfl⟩,q⟩
theorem pX {prog:Program} {w:World} {A:Around} {E:Value→Shared→Prop} {s:Shared} {l:Addr} {items:Array Value} {n:Nat} {x:Int} {u:Tok} {Q:Value→Shared→Prop} (gl:s.heap.get? l=some { cls:=.type "list",dict:=none,data:=.seq items n,slots:=#[] }) (x0:0≤x) (x1:x≤1000) (sz:items.size * x.toNat≤1000)
  (q:Q (.ref s.heap.objs.size) { s with heap:=s.heap.push { cls:=.type "list",data:=.seq (List.foldl (fun x1 x2=>x1++x2) #[] (List.replicate (if items.isEmpty=true then 0 else x.toNat) items)) } }):wpAny (model prog w) A (binaryOp .Mult (.ref l) (.int x u)) Q E s:=by
 refine wpAny_binaryOp_repeat_ref (T:="list") (U:="int") (by decide) ⟨_,gl,rfl⟩ (fun s'=>typeIs_int s' x u) noFill_list_mul F.fills_int_mul F.slot_int_rmul repeat_list F.slot_int_index.lookup ?_
 refine call_meets F.slot_int_rmul (typeIs_int s x u) F.entry_int_rmul (F.args_int_rmul_2 _ _) (int___rmul___int_list x u l items n) ⟨gl,rfl,⟨_,gl,rfl⟩,?_⟩
 exact call_meets F.slot_list_mul ⟨_,gl,rfl⟩ F.entry_list_mul (F.args_list_mul_2 _ _) (AutoListH.list___mul___list_int_3 l items n x u (by simp [Builtin.List.listFitsIndex]; omega) (by omega) (by simp [Builtin.List.listTooLong,sizeLine]; omega)) ⟨gl,q⟩
def De:R2:=fun x y H Q=>∃ (a:Addr) (xs:List V) (k:Nat),x=.ref a∧y=.int k∧H a=some (.lst xs)∧k≤1000∧xs.length * k≤1000∧∀ p,H p=none→Q (.ref p) (upd H p (.lst (List.replicate k xs).flatten))
theorem AE:OpR X (binaryOp .Mult) De:=by
 intro pins s σ H x y v u Q I rx ry h
 obtain ⟨a,xs,k,rfl,rfl,ha,hk,hz,q⟩:=h
 cases rx
 obtain ⟨t,rfl⟩:=ry
 obtain ⟨_,its,n,r,hlen,ho⟩:=I.lstM ha
 have hnew:List.foldl (fun x1 x2=>x1++x2) #[] (List.replicate (if its.toArray.isEmpty=true then 0 else (k:Int).toNat) its.toArray)=(List.replicate k its).flatten.toArray:=by
  by_cases he:its=[]
  ·subst he
   have:(List.replicate k ([]:List Value)).flatten=[]:=by simp
   rw [this]
   rfl
  ·have he':its.toArray.isEmpty=false:=by
    rw [List.isEmpty_toArray]
    simpa using he
   rw [he',if_neg (by decide)]
   have:=foldl_rep its k []
   rw [List.nil_append] at this
   exact this
 have hs:its.toArray.size * (k:Int).toNat≤1000:=by
  rw [List.size_toArray,← hlen]
  exact hz
 refine pX ho (by omega) (by omega) hs ?_
 rw [hnew]
 exact ⟨.ref _,_,I.lnew (r.rep k) (by rw [len_rep,Nat.mul_comm,sizeLine_eq]; omega),rfl,q _ I.fresh⟩
end
end L2
namespace K81
open PySem L2
def top (i:Nat):Stmt:=PySem.Challenge.pw_earbells_k81_whole_rung_as_written.main.body.getD i (.Pass ⟨0,0,0,0⟩)
abbrev e9:Stmt:=top 14
abbrev dq:Stmt:=top 15
abbrev c7:Stmt:=top 16
abbrev jb:Stmt:=inClass (top 18) 0
abbrev mC:Stmt:=inClass (top 18) 1
abbrev pj:Stmt:=inClass (top 18) 2
abbrev ja:Stmt:=inClass (top 19) 0
abbrev i8:Stmt:=inClass (top 20) 0
abbrev jw:Stmt:=inClass (top 21) 0
abbrev f6:Stmt:=top 22
abbrev l8:Stmt:=top 23
abbrev jF:Stmt:=top 32
abbrev jL:Stmt:=top 33
abbrev jQ:Stmt:=top 34
abbrev eQ:Stmt:=top 35
abbrev dE:Stmt:=top 36
abbrev j2:Stmt:=top 37
abbrev CK:Stmt:=top 38
abbrev iY:Stmt:=top 39
abbrev iR:Stmt:=top 40
abbrev cE:Stmt:=top 41
abbrev pz:Stmt:=top 43
abbrev oJ:Stmt:=top 44
abbrev lq:Stmt:=top 45
abbrev jz:Stmt:=top 46
abbrev jD:Stmt:=top 48
abbrev dO:Stmt:=top 49
abbrev iO:Stmt:=top 51
abbrev m3:Stmt:=top 53
abbrev wN:Stmt:=top 54
abbrev xc:Stmt:=top 55
abbrev g9:Stmt:=top 58
abbrev dG:Stmt:=top 59
abbrev gX:Stmt:=top 60
abbrev gK:Stmt:=top 61
abbrev fN:Stmt:=top 62
abbrev ia:Stmt:=top 63
abbrev dB:Stmt:=top 64
abbrev gZ:Stmt:=top 65
abbrev iS:Stmt:=top 66
abbrev gB:Stmt:=top 67
abbrev pJ:Stmt:=top 69
abbrev pZ:Stmt:=top 70
abbrev DS:Stmt:=top 71
abbrev EC:Stmt:=top 72
abbrev Dk:Stmt:=top 73
abbrev uJ:Stmt:=top 75
abbrev Cq:Stmt:=top 76
abbrev DR:Stmt:=top 78
abbrev CL:Stmt:=top 80
abbrev rF:Stmt:=top 81
abbrev Eb:Stmt:=top 82
abbrev A5:Stmt:=top 83
abbrev Be:Stmt:=top 84
abbrev CJ:Stmt:=top 85
abbrev CI:Stmt:=top 86
abbrev C1:Stmt:=top 87
abbrev D6:Stmt:=top 88
abbrev AK:Stmt:=top 90
abbrev pD:Stmt:=top 91
abbrev zt:Stmt:=top 93
abbrev jG:Stmt:=top 99
abbrev cC:Stmt:=top 100
abbrev eh:Stmt:=top 101
abbrev fO:Stmt:=top 103
abbrev gN:Stmt:=top 104
abbrev Bg:Stmt:=top 105
abbrev Bb:Stmt:=top 106
abbrev gy:Stmt:=top 107
abbrev AJ:Stmt:=top 108
abbrev j8:Stmt:=top 109
abbrev oU:Stmt:=inClass (top 110) 0
abbrev sd:Stmt:=inClass (top 110) 1
abbrev gW:Stmt:=inClass (top 110) 2
abbrev pP:Stmt:=inClass (top 110) 3
abbrev gD:Stmt:=inClass (top 110) 4
abbrev A9:Stmt:=inClass (top 110) 5
abbrev A1:Stmt:=inClass (top 110) 6
abbrev Bh:Stmt:=inClass (top 110) 7
abbrev rV:Stmt:=top 112
abbrev tu:Stmt:=top 113
abbrev lJ:Stmt:=top 114
abbrev pL:Stmt:=top 115
abbrev tU:Stmt:=top 116
abbrev pq:Stmt:=top 117
abbrev pI:Stmt:=top 118
abbrev rY:Stmt:=top 119
abbrev iZ:Stmt:=top 120
abbrev oK:Stmt:=top 121
abbrev pd:Stmt:=top 122
abbrev pR:Stmt:=top 123
abbrev oN:Stmt:=top 124
abbrev xZ:Stmt:=top 125
inductive InR:List Int→List Int→Prop where
 | nil:InR [] []
 | cons {n m:Int} {ns ms:List Int} (h0:0≤n) (h1:n<m) (t:InR ns ms):InR (n::ns) (m::ms)
theorem take_snoc {α:Type} {l:List α} {i:Nat} {x:α} (h:l[i]?=some x):l.take (i+1)=l.take i++[x]:=by
 rw [List.take_succ,h]
 rfl
theorem tw {ns:List Int} {i:Nat} {z:Int} (h:ns[i]?=some z):atI (ns.map V.int) (i:Int)=some (V.int z):=a9 (by rw [List.getElem?_map,h]; rfl)
structure Blt (mg:Str→Option Value):Prop where
 all_:mg "all"=none
 any_:mg "any"=none
 bool_:mg "bool"=none
 divmod_:mg "divmod"=none
 enumerate_:mg "enumerate"=none
 int_:mg "int"=none
 isinstance_:mg "isinstance"=none
 len_:mg "len"=none
 list_:mg "list"=none
 max_:mg "max"=none
 min_:mg "min"=none
 range_:mg "range"=none
 set_:mg "set"=none
 sorted_:mg "sorted"=none
 str_:mg "str"=none
 sum_:mg "sum"=none
 tuple_:mg "tuple"=none
 zip_:mg "zip"=none
 ValueError_:mg "ValueError"=none
 abs_:mg "abs"=none
theorem BO {K:PySem.W.Frag} {h:Heap} {mg:Str→Option Value} (X:K.In h) (G:h.Ns mainGlobals mg) (z1:PySem.W.nsIn K mainGlobals "all"=some none) (z2:PySem.W.nsIn K mainGlobals "any"=some none) (z3:PySem.W.nsIn K mainGlobals "bool"=some none) (z4:PySem.W.nsIn K mainGlobals "divmod"=some none)
  (z5:PySem.W.nsIn K mainGlobals "enumerate"=some none) (z6:PySem.W.nsIn K mainGlobals "int"=some none) (z7:PySem.W.nsIn K mainGlobals "isinstance"=some none) (z8:PySem.W.nsIn K mainGlobals "len"=some none) (z9:PySem.W.nsIn K mainGlobals "list"=some none) (z10:PySem.W.nsIn K mainGlobals "max"=some none)
  (z11:PySem.W.nsIn K mainGlobals "min"=some none) (z12:PySem.W.nsIn K mainGlobals "range"=some none) (z13:PySem.W.nsIn K mainGlobals "set"=some none) (z14:PySem.W.nsIn K mainGlobals "sorted"=some none) (z15:PySem.W.nsIn K mainGlobals "str"=some none) (z16:PySem.W.nsIn K mainGlobals "sum"=some none)
  (z17:PySem.W.nsIn K mainGlobals "tuple"=some none) (z18:PySem.W.nsIn K mainGlobals "zip"=some none) (z19:PySem.W.nsIn K mainGlobals "ValueError"=some none) (z20:PySem.W.nsIn K mainGlobals "abs"=some none):Blt mg :=
 ⟨PySem.W.mg_none_of X G z1,PySem.W.mg_none_of X G z2,PySem.W.mg_none_of X G z3,PySem.W.mg_none_of X G z4,PySem.W.mg_none_of X G z5,PySem.W.mg_none_of X G z6,PySem.W.mg_none_of X G z7,PySem.W.mg_none_of X G z8,PySem.W.mg_none_of X G z9,PySem.W.mg_none_of X G z10,PySem.W.mg_none_of X G z11,
  PySem.W.mg_none_of X G z12,PySem.W.mg_none_of X G z13,PySem.W.mg_none_of X G z14,PySem.W.mg_none_of X G z15,PySem.W.mg_none_of X G z16,PySem.W.mg_none_of X G z17,PySem.W.mg_none_of X G z18,PySem.W.mg_none_of X G z19,PySem.W.mg_none_of X G z20⟩
theorem x8 (K:PySem.W.Frag):PySem.W.kitOne K (.type "int") (.type "int")=some true:=by kernel_rfl
theorem yJ (K:PySem.W.Frag):PySem.W.kitOne K (.type "int") (.type "bool")=some false:=by kernel_rfl
theorem hZ (K:PySem.W.Frag):PySem.W.kitOne K (.type "str") (.type "str")=some true:=by kernel_rfl
theorem ph (K:PySem.W.Frag):PySem.W.kitOne K (.type "int") (.type "str")=some false:=by kernel_rfl
theorem B9 (K:PySem.W.Frag):PySem.W.kitOne K (.type "bool") (.type "str")=some false:=by kernel_rfl
theorem BS (K:PySem.W.Frag):PySem.W.kitOne K (.type "bool") (.type "int")=some true:=by kernel_rfl
theorem BF (K:PySem.W.Frag):PySem.W.kitOne K (.type "bool") (.type "bool")=some true:=by kernel_rfl
theorem BK (K:PySem.W.Frag):PySem.W.kitOne K (.type "NoneType") (.type "str")=some false:=by kernel_rfl
theorem Cr (K:PySem.W.Frag):PySem.W.kitOne K (.type "NoneType") (.type "int")=some false:=by kernel_rfl
theorem Ca (K:PySem.W.Frag):PySem.W.kitOne K (.type "list") (.type "str")=some false:=by kernel_rfl
theorem Cy (K:PySem.W.Frag):PySem.W.kitOne K (.type "list") (.type "int")=some false:=by kernel_rfl
theorem Co (K:PySem.W.Frag):PySem.W.kitOne K (.type "tuple") (.type "str")=some false:=by kernel_rfl
theorem Cv (K:PySem.W.Frag):PySem.W.kitOne K (.type "tuple") (.type "int")=some false:=by kernel_rfl
theorem Bt (K:PySem.W.Frag):PySem.W.kitOne K (.type "str") (.type "int")=some false:=by kernel_rfl
end K81
namespace K81
open PySem L2
section
variable {P:Program} {w:World} {K:PySem.W.Frag} {mg:Str→Option Value} {base:Heap} {f:Addr} {fd:FuncData}
structure Kind (K:PySem.W.Frag) (H:Hp) (v:V) (isS isW:Bool):Prop where
 ex:∃ (t:Value) (bi bb:Bool),TyOf K H v t∧PySem.W.kitOne K t (.type "str")=some isS∧PySem.W.kitOne K t (.type "int")=some bi∧(bi=true→PySem.W.kitOne K t (.type "bool")=some bb)∧isW=(bi && !bb)
theorem nc (H:Hp) (i:Int):Kind K H (.int i) false true:=⟨_,true,false,.int i,ph K,x8 K,fun _=>yJ K,rfl⟩
theorem AI (H:Hp) (b:Bool):Kind K H (.bl b) false false:=⟨_,true,true,.bl b,B9 K,BS K,fun _=>BF K,rfl⟩
theorem xy (H:Hp):Kind K H .non false false:=⟨_,false,false,.non,BK K,Cr K,(fun z=>nomatch z),rfl⟩
theorem zg {H:Hp} {a:Addr} {xs:List V} (h:H a=some (.lst xs)):Kind K H (.ref a) false false:=⟨_,false,false,.lst h,Ca K,Cy K,(fun z=>nomatch z),rfl⟩
theorem yv {H:Hp} {a:Addr} {xs:List V} (h:H a=some (.tup xs)):Kind K H (.ref a) false false:=⟨_,false,false,.tup h,Co K,Cv K,(fun z=>nomatch z),rfl⟩
theorem wQ (H:Hp) (x:Str):Kind K H (.str x) true false:=⟨_,false,false,.str x,hZ K,Bt K,(fun z=>nomatch z),rfl⟩
def d8 (K:PySem.W.Frag):Sp:=fun vs H Q _=>∃ (v:V) (isS isW:Bool),vs=[v]∧Kind K H v isS isW∧Q (.bl isW) H
theorem ic:FnScope ["thing"] ["thing"] (ar e9):=⟨rfl,rfl,rfl,by decide +kernel,rfl,by decide +kernel,by decide +kernel⟩
theorem g7 (F:Fun K "is_whole" "is_whole" e9 f fd) (B:Blt mg):FnOk P w K mg base CX0 1 f fd ["thing"] (d8 K):=by
 refine F.ok ic (fun vs H Q E h=>?_) (fun cdv A outer s H vs Q E hr h=>?_)
 ·obtain ⟨v,isS,isW,rfl,_⟩:=h
  rfl
 obtain ⟨v,isS,isW,rfl,kd,q⟩:=h
 obtain ⟨t,bi,bb,ty,k1,k2,k3,k4⟩:=kd.ex
 refine ⟨_,(ao (au (ka (ax (ck "int") rfl B.isinstance_ PyProof.Rows.boot_isinstance (aa (pv 0) (aa (cJ (v:=.ty "int") rfl B.int_ PyProof.Rows.boot_int rfl) ae))) (i3 (yz (ax (ck "bool") rfl B.isinstance_ PyProof.Rows.boot_isinstance (aa (pv 0) (aa (cJ (v:=.ty "bool") rfl B.bool_ PyProof.Rows.boot_bool rfl) ae)))))))),?_⟩
 refine ⟨_,rfl,_,_,_,rfl,ty,k2,_,rfl,?_⟩
 subst k4
 cases bi with
 | false=>exact bg q
 | true =>
  refine bc ?_
  refine ⟨_,rfl,_,_,_,rfl,ty,k3 rfl,_,rfl,?_⟩
  exact q
def br (K:PySem.W.Frag):Sp:=fun vs H Q _=>∃ (p C dx:Addr) (v:V),vs=[.ref p,v]∧H p=some (.ins C dx [])∧Cls K C∧NoAttr K C "need"∧Q .non (upd H p (.ins C dx [("need",v)]))
def fj (K:PySem.W.Frag):Sp:=fun vs H Q _=>∃ (p C dx:Addr),vs=[.ref p]∧H p=some (.ins C dx [])∧Cls K C∧NoAttr K C "need"∧Q .non (upd H p (.ins C dx [("need",.int 1)]))
theorem mi:FnScope ["self","need"] ["self","need"] (ar jb):=⟨rfl,rfl,rfl,by decide +kernel,rfl,by decide +kernel,by decide +kernel⟩
theorem m6 (F:Fun K "__init__" "Rule.__init__" jb f fd):FnOk P w K mg base CX0 1 f fd ["self","need"] (br K):=by
 refine F.ok mi (fun vs H Q E h=>?_) (fun cdv A outer s H vs Q E hr h=>?_)
 ·obtain ⟨p,C,dx,v,rfl,_⟩:=h
  rfl
 obtain ⟨p,C,dx,v,rfl,hp,cl,na,q⟩:=h
 refine ⟨_,(ao (rM (pv 0) (pv 1) rfl)),?_⟩
 exact ⟨_,rfl,_,rfl,p,C,dx,[],rfl,hp,cl,na,(by show 0<1000; decide),q⟩
theorem mf:FnScope ["self","many"] ["self","many"] (ar ja):=⟨rfl,rfl,rfl,by decide +kernel,rfl,by decide +kernel,by decide +kernel⟩
theorem lR {R g:Addr} {gd:FuncData} (F:Fun K "__init__" "All.__init__" ja f fd) (mR:mg "Rule"=some (.ref R)) (c:ClsFn K R "__init__" g) (G:FnOk P w K mg base CX0 1 g gd ["self","need"] (br K)) (b:Binds K gd ["self","need"] []) :
  FnOk P w K mg base CX0 2 f fd ["self","many"] (br K):=by
 refine F.ok mf (fun vs H Q E h=>?_) (fun cdv A outer s H vs Q E hr h=>?_)
 ·obtain ⟨p,C,dx,v,rfl,_⟩:=h
  rfl
 obtain ⟨p,C,dx,v,rfl,hp,cl,na,q⟩:=h
 refine ⟨_,(ao (bL (f7 rfl mR c G hr b .nil cj (aa (pv 0) (aa (pv 1) ae))))),?_⟩
 exact ⟨_,rfl,_,rfl,p,C,dx,v,rfl,hp,cl,na,q⟩
theorem lM:FnScope ["self","need"] ["self","need"] (ar jw):=⟨rfl,rfl,rfl,by decide +kernel,rfl,by decide +kernel,by decide +kernel⟩
theorem mH {R g:Addr} {gd:FuncData} (F:Fun K "__init__" "Some.__init__" jw f fd) (mR:mg "Rule"=some (.ref R)) (c:ClsFn K R "__init__" g) (G:FnOk P w K mg base CX0 1 g gd ["self","need"] (br K)) (b:Binds K gd ["self","need"] []) :
  FnOk P w K mg base CX0 2 f fd ["self","need"] (br K):=by
 refine F.ok lM (fun vs H Q E h=>?_) (fun cdv A outer s H vs Q E hr h=>?_)
 ·obtain ⟨p,C,dx,v,rfl,_⟩:=h
  rfl
 obtain ⟨p,C,dx,v,rfl,hp,cl,na,q⟩:=h
 refine ⟨_,(ao (bL (f7 rfl mR c G hr b .nil cj (aa (pv 0) (aa (pv 1) ae))))),?_⟩
 exact ⟨_,rfl,_,rfl,p,C,dx,v,rfl,hp,cl,na,q⟩
theorem lT:FnScope ["self"] ["self"] (ar i8):=⟨rfl,rfl,rfl,by decide +kernel,rfl,by decide +kernel,by decide +kernel⟩
theorem lu {R g:Addr} {gd:FuncData} (F:Fun K "__init__" "Any.__init__" i8 f fd) (mR:mg "Rule"=some (.ref R)) (c:ClsFn K R "__init__" g) (G:FnOk P w K mg base CX0 1 g gd ["self","need"] (br K)) (b:Binds K gd ["self","need"] []) :
  FnOk P w K mg base CX0 2 f fd ["self"] (fj K):=by
 refine F.ok lT (fun vs H Q E h=>?_) (fun cdv A outer s H vs Q E hr h=>?_)
 ·obtain ⟨p,C,dx,rfl,_⟩:=h
  rfl
 obtain ⟨p,C,dx,rfl,hp,cl,na,q⟩:=h
 refine ⟨_,(ao (bL (f7 rfl mR c G hr b .nil cj (aa (pv 0) (aa ak ae))))),?_⟩
 exact ⟨_,rfl,p,C,dx,.int 1,rfl,hp,cl,na,q⟩
structure Own (K:PySem.W.Frag) (C fi:Addr):Prop where
 cl:Cls K C
 nN:NoAttr K C "need"
 mks:Mk K C fi
theorem gq:¬ (V.str ("any":Str)=V.str ("all":Str)):=by
 intro h
 injection h with h
 exact absurd h (by decide +kernel)
theorem dJ {H:Hp} {x dx C:Addr} {l1 l2:List (Str×V)} (nx:H x=none) (ndx:H dx=none):Same H (upd (upd (upd H dx (.own x)) x (.ins C dx l1)) x (.ins C dx l2)):=fun b o e=>by
 rw [aC (aM e nx),aC (aM e nx),aC (aM e ndx)]
 exact e
def Made (C:Addr) (n:Int) (H:Hp) (Q:VK):Prop:=∀ x dx H',Same H H'→H x=none→H' x=some (.ins C dx [("need",.int n)])→Q (.ref x) H'
def En (K:PySem.W.Frag) (H:Hp) (wd:V) (many:Int):Prop:=(∃ t,wd=.str t∧t≠"all"∧t≠"any")∨(∃ n,wd=.int n∧¬ (1≤n∧n≤many))∨Kind K H wd false false
def gv (cA cY cN:Addr):Sp:=fun vs H Q E=>∃ (t:Str) (many:Int),vs=[.str t,.int many]∧(t="all"∧Made cA many H Q∨t="any"∧Made cY 1 H Q∨t≠"all"∧t≠"any"∧E (.ref cN) none H)
theorem pE:FnScope ["text","many"] ["text","many"] (ar l8):=⟨rfl,rfl,rfl,by decide +kernel,rfl,by decide +kernel,by decide +kernel⟩
theorem pF {cA cY cN fA fY:Addr} {dA dY:FuncData} (F:Fun K "rule_of_text" "rule_of_text" l8 f fd) (mA:mg "All"=some (.ref cA)) (mY:mg "Any"=some (.ref cY)) (mN:mg "NoRule"=some (.ref cN)) (xN:sJ K cN) (oA:Own K cA fA) (oY:Own K cY fY)
  (GA:FnOk P w K mg base CX0 2 fA dA ["self","many"] (br K)) (bA:Binds K dA ["self","many"] []) (GY:FnOk P w K mg base CX0 2 fY dY ["self"] (fj K)) (bY:Binds K dY ["self"] []) :
  FnOk P w K mg base (CXE P w) 4 f fd ["text","many"] (gv cA cY cN):=by
 refine F.okX pE (fun vs H Q E h=>?_) (fun cdv A' outer s H vs Q E hr h=>?_)
 ·obtain ⟨t,many,rfl,_⟩:=h
  rfl
 obtain ⟨t,many,rfl,hw⟩:=h
 refine ⟨_,(af (aP (az bN (pv 0) aG (aI _))
  (ao (au (kZ oA.mks GA hr rfl mA bA .nil cj (aa (pv 1) ae))))
  aw)
  (af (aP (az bN (pv 0) aG (aI _))
  (ao (au (m4 oY.mks GY hr rfl mY bY .nil cj)))
  aw)
  (ao (nG oi rfl rfl mN xN)))),?_⟩
 refine ⟨_,rfl,rfl,_,rfl,?_⟩
 rcases hw with ⟨rfl,q⟩ | ⟨rfl,q⟩ | ⟨n1,n2,q⟩
 ·refine cb (fun _=>?_) (fun c=>absurd (decide_eq_true rfl) c)
  refine ⟨_,rfl,fun x dx nx ndx ne=>⟨x,cA,dx,_,rfl,ah,oA.cl,oA.nN,rfl,?_⟩⟩
  exact q x dx _ (dJ nx ndx) nx ah
 ·refine cb (fun c=>absurd (of_decide_eq_true c) gq) (fun _=>?_)
  refine ⟨_,rfl,rfl,_,rfl,?_⟩
  refine cb (fun _=>?_) (fun c=>absurd (decide_eq_true rfl) c)
  refine fun x dx nx ndx ne=>⟨x,cY,dx,rfl,ah,oY.cl,oY.nN,rfl,?_⟩
  exact q x dx _ (dJ nx ndx) nx ah
 ·refine cb (fun c=>absurd (V.str.inj (of_decide_eq_true c)) n1) (fun _=>?_)
  refine ⟨_,rfl,rfl,_,rfl,?_⟩
  refine cb (fun c=>absurd (V.str.inj (of_decide_eq_true c)) n2) (fun _=>?_)
  exact q
def fF (K:PySem.W.Frag) (cA cY cS cN:Addr):Sp:=fun vs H Q E=>∃ (wd:V) (many:Int),vs=[wd,.int many]∧(wd=.str "all"∧Made cA many H Q∨wd=.str "any"∧Made cY 1 H Q∨(∃ n,wd=.int n∧1≤n∧n≤many∧Made cS n H Q)∨En K H wd many∧E (.ref cN) none H)
theorem iP:FnScope ["word","many"] ["word","many"] (ar f6):=⟨rfl,rfl,rfl,by decide +kernel,rfl,by decide +kernel,by decide +kernel⟩
theorem iK {cA cY cS cN fS:Addr} {dS:FuncData} (F:Fun K "rule_of" "rule_of" f6 f fd) (B:Blt mg) (mS:mg "Some"=some (.ref cS)) (mN:mg "NoRule"=some (.ref cN)) (xN:sJ K cN) (oS:Own K cS fS) (GS:FnOk P w K mg base CX0 2 fS dS ["self","need"] (br K)) (bS:Binds K dS ["self","need"] [])
  (C_text:CalX P w K mg base 4 "rule_of_text" ["text","many"] (gv cA cY cN)) (C_whole:Cal P w K mg base 1 "is_whole" ["thing"] (d8 K)):FnOk P w K mg base (CXE P w) 5 f fd ["word","many"] (fF K cA cY cS cN):=by
 refine F.okX iP (fun vs H Q E h=>?_) (fun cdv A' outer s H vs Q E hr h=>?_)
 ·obtain ⟨wd,many,rfl,_⟩:=h
  rfl
 obtain ⟨wd,many,rfl,hw⟩:=h
 have hr3:Room 3 _:=hr.mono (by decide)
 refine ⟨_,(af (aP (bD (ax (ck "str") rfl B.isinstance_ PyProof.Rows.boot_isinstance (aa (pv 0) (aa (cJ (v:=.ty "str") rfl B.str_ PyProof.Rows.boot_str rfl) ae))))
  (ao (au (Cu C_text uP hr (by decide) rfl (aa (pv 0) (aa (pv 1) ae)))))
  aw)
  (af (aP (PW.pt (me (bD (aH C_whole hr (by decide) rfl (aa (pv 0) ae))) (jm (e8 eV eV ak (pv 0) (pv 1)))))
  (ao (au (kZ oS.mks GS hr3 rfl mS bS .nil cj (aa (pv 0) ae))))
  aw)
  (ao (nG oi rfl rfl mN xN)))),?_⟩
 rcases hw with ⟨rfl,q⟩ | ⟨rfl,q⟩ | ⟨n,rfl,h1,h2,q⟩ | ⟨⟨t,rfl,n1,n2⟩ | ⟨n,rfl,hn⟩ | kd,q⟩
 ·refine ⟨_,rfl,_,_,_,rfl,.str _,hZ K,_,rfl,bc ?_⟩
  exact ⟨_,rfl,_,rfl,"all",_,rfl,.inl ⟨rfl,q⟩⟩
 ·refine ⟨_,rfl,_,_,_,rfl,.str _,hZ K,_,rfl,bc ?_⟩
  exact ⟨_,rfl,_,rfl,"any",_,rfl,.inr (.inl ⟨rfl,q⟩)⟩
 ·refine ⟨_,rfl,_,_,_,rfl,.int _,ph K,_,rfl,bg ?_⟩
  refine ⟨_,rfl,_,_,_,rfl,nc H n,_,rfl,bc ?_⟩
  refine ⟨_,rfl,_,_,rfl,rfl,_,rfl,?_⟩
  rw [decide_eq_true h1]
  refine bc ⟨_,rfl,_,_,rfl,rfl,_,rfl,?_⟩
  rw [decide_eq_true h2]
  refine bc ?_
  refine ⟨_,rfl,fun x dx nx ndx ne=>⟨x,cS,dx,_,rfl,ah,oS.cl,oS.nN,rfl,?_⟩⟩
  exact q x dx _ (dJ nx ndx) nx ah
 ·refine ⟨_,rfl,_,_,_,rfl,.str _,hZ K,_,rfl,bc ?_⟩
  exact ⟨_,rfl,_,rfl,t,_,rfl,.inr (.inr ⟨n1,n2,q⟩)⟩
 ·refine ⟨_,rfl,_,_,_,rfl,.int _,ph K,_,rfl,bg ?_⟩
  refine ⟨_,rfl,_,_,_,rfl,nc H n,_,rfl,bc ?_⟩
  refine ⟨_,rfl,_,_,rfl,rfl,_,rfl,?_⟩
  refine cb (fun c1=>?_) (fun _=>⟨_,rfl,bg q⟩)
  refine ⟨_,rfl,_,_,rfl,rfl,_,rfl,?_⟩
  refine cb (fun c2=>absurd ⟨of_decide_eq_true c1,of_decide_eq_true c2⟩ hn) (fun _=>q)
 ·obtain ⟨t,bi,bb,ty,k1,k2,k3,k4⟩:=id kd.ex
  refine ⟨_,rfl,_,_,_,rfl,ty,k1,_,rfl,bg ?_⟩
  refine ⟨_,rfl,_,_,_,rfl,kd,_,rfl,bg ?_⟩
  exact bg q
end
end K81
namespace K81
open PySem L2
structure Lis where
 (whom:Nat) (beats:Int) (back:Bool)
inductive RW where
 | all | any | num (n:Int)
structure Bell where
 (name:Str) (start:Int) (rule:RW) (lis:List Lis)
def DF (l:Lis):List V:=[.int l.whom,.int l.beats,.int (if l.back then 1 else 0)]
def rwV:RW→V
 | .all=>.str "all"
 | .any=>.str "any"
 | .num n=>.int n
def LisAt (H:Hp) (v:V) (l:Lis):Prop:=∃ a,v=.ref a∧H a=some (.tup (DF l))
def BellAt (H:Hp) (v:V) (b:Bell):Prop:=∃ a t ls,v=.ref a∧H a=some (.tup [.str b.name,.int b.start,rwV b.rule,.ref t])∧H t=some (.tup ls)∧Paired (LisAt H) ls b.lis
def ChoirAt (H:Hp) (v:V) (c:List Bell):Prop:=∃ a vs,v=.ref a∧H a=some (.tup vs)∧Paired (BellAt H) vs c
def oX (H H':Hp):Prop:=∀ b xs,H b=some (.tup xs)→H' b=some (.tup xs)
theorem Same.tup {H H':Hp} (s:Same H H'):oX H H':=fun b xs e=>s b _ e
theorem bE {α β:Type} {F G:α→β→Prop} (f:∀ a b,F a b→G a b):∀ {xs:List α} {ys:List β},Paired F xs ys→Paired G xs ys
 | _,_,.nil=>.nil
 | _,_,.cons r t=>.cons (f _ _ r) (bE f t)
theorem aO {α β:Type} {F:α→β→Prop}:∀ {xs:List α} {ys:List β},Paired F xs ys→xs.length=ys.length
 | _,_,.nil=>rfl
 | _,_,.cons _ t=>congrArg (·+1) (aO t)
theorem bh {α β:Type} {F:α→β→Prop}:∀ {xs:List α} {ys:List β} {i:Nat} {x:α},Paired F xs ys→xs[i]?=some x→∃ y,ys[i]?=some y∧F x y
 | _,_,0,_,.cons r _,e=>by simp at e; subst e; exact ⟨_,rfl,r⟩
 | _,_,i+1,_,.cons _ t,e=>by
  obtain ⟨y,h1,h2⟩:=bh (i:=i) t (by simpa using e)
  exact ⟨y,by simpa using h1,h2⟩
theorem cI {α β:Type} {F:α→β→Prop}:∀ {xs:List α} {ys:List β} {i:Nat} {y:β},Paired F xs ys→ys[i]?=some y→∃ x,xs[i]?=some x∧F x y
 | _,_,0,_,.cons r _,e=>by simp at e; subst e; exact ⟨_,rfl,r⟩
 | _,_,i+1,_,.cons _ t,e=>by
  obtain ⟨y,h1,h2⟩:=cI (i:=i) t (by simpa using e)
  exact ⟨y,by simpa using h1,h2⟩
theorem d9 {α β:Type} {F:α→β→Prop} {x:α} {y:β} (h:F x y):∀ {xs:List α} {ys:List β},Paired F xs ys→Paired F (xs++[x]) (ys++[y])
 | _,_,.nil=>.cons h .nil
 | _,_,.cons r t=>.cons r (d9 h t)
theorem LisAt.mono {H H':Hp} (s:oX H H') {v:V} {l:Lis} (h:LisAt H v l):LisAt H' v l:=by
 obtain ⟨a,e,q⟩:=h
 exact ⟨a,e,s _ _ q⟩
theorem BellAt.mono {H H':Hp} (s:oX H H') {v:V} {b:Bell} (h:BellAt H v b):BellAt H' v b:=by
 obtain ⟨a,t,ls,e,q1,q2,q3⟩:=h
 exact ⟨a,t,ls,e,s _ _ q1,s _ _ q2,bE (fun _ _ z=>z.mono s) q3⟩
theorem ChoirAt.mono {H H':Hp} (s:oX H H') {v:V} {c:List Bell} (h:ChoirAt H v c):ChoirAt H' v c:=by
 obtain ⟨a,vs,e,q1,q2⟩:=h
 exact ⟨a,vs,e,s _ _ q1,bE (fun _ _ z=>z.mono s) q2⟩
def GoodR (n:Nat):RW→Prop
 | .num i=>1≤i∧i≤n
 | _=>True
def xq (m k:Nat) (waits:Bool) (l:Lis):Prop:=l.whom<m∧1≤l.beats∧l.beats≤1000∧(waits=false→l.back=false→l.whom<k)
structure GoodB (m k:Nat) (waits:Bool) (b:Bell):Prop where
 n1:1≤b.lis.length
 n6:b.lis.length≤6
 s0:0≤b.start
 s1:b.start≤1000
 r:GoodR b.lis.length b.rule
 l:∀ l∈b.lis,xq m k waits l
end K81
namespace K81
open PySem L2
theorem sI {α:Type} {l:List α} {i:Nat} {x:α} (h:l[i]?=some x):l.take (i+1)=l.take i++[x]:=by
 obtain ⟨hi,e⟩:=List.getElem?_eq_some_iff.mp h
 rw [List.take_succ_eq_append_getElem hi,e]
inductive Th where
 | int (i:Int) | bl (b:Bool) | non | str (z:Str) | tup (ts:List Th) | lst | dic
mutual
def ThAt (H:Hp):Th→V→Prop
 | .int i,v=>v=.int i
 | .bl b,v=>v=.bl b
 | .non,v=>v=.non
 | .str z,v=>v=.str z∧z.length≤1000
 | .tup ts,v=>∃ a vs,v=.ref a∧H a=some (.tup vs)∧ThsAt H ts vs
 | .lst,v=>∃ a xs,v=.ref a∧H a=some (.lst xs)
 | .dic,v=>∃ a kvs,v=.ref a∧H a=some (.dK kvs)
def ThsAt (H:Hp):List Th→List V→Prop
 | [],vs=>vs=[]
 | t::ts,vs=>∃ v r,vs=v::r∧ThAt H t v∧ThsAt H ts r
end
mutual
theorem ThAt.same {H H':Hp} (s:Same H H'):∀ (t:Th) {v:V},ThAt H t v→ThAt H' t v
 | .int _,_,h=>h
 | .bl _,_,h=>h
 | .non,_,h=>h
 | .str _,_,h=>h
 | .tup ts,_,⟨a,vs,e,ha,h⟩=>⟨a,vs,e,s _ _ ha,ThsAt.same s ts h⟩
 | .lst,_,⟨a,xs,e,ha⟩=>⟨a,xs,e,s _ _ ha⟩
 | .dic,_,⟨a,xs,e,ha⟩=>⟨a,xs,e,s _ _ ha⟩
theorem ThsAt.same {H H':Hp} (s:Same H H'):∀ (ts:List Th) {vs:List V},ThsAt H ts vs→ThsAt H' ts vs
 | [],_,h=>h
 | t::ts,_,⟨v,r,e,h1,h2⟩=>⟨v,r,e,ThAt.same s t h1,ThsAt.same s ts h2⟩
end
theorem ThsAt.len {H:Hp}:∀ {ts:List Th} {vs:List V},ThsAt H ts vs→vs.length=ts.length
 | [],_,h=>by cases h; rfl
 | t::ts,_,⟨v,r,e,_,h2⟩=>by subst e; exact congrArg (·+1) (ThsAt.len h2)
theorem ThsAt.at {H:Hp}:∀ {ts:List Th} {vs:List V} {i:Nat} {t:Th},ThsAt H ts vs→ts[i]?=some t→∃ v,vs[i]?=some v∧ThAt H t v
 | _::_,_,0,_,⟨v,r,e,h1,_⟩,h=>by subst e; cases h; exact ⟨v,rfl,h1⟩
 | _::ts,_,i+1,_,⟨v,r,e,_,h2⟩,h=>by
  subst e
  obtain ⟨u,h3,h4⟩:=ThsAt.at (i:=i) h2 (by simpa using h)
  exact ⟨u,by simpa using h3,h4⟩
theorem ThsAt.app {H:Hp}:∀ {ts us:List Th} {vs ws:List V},ThsAt H ts vs→ThsAt H us ws→ThsAt H (ts++us) (vs++ws)
 | [],_,_,_,h,h'=>by cases h; exact h'
 | _::_,_,_,_,⟨v,r,e,h1,h2⟩,h'=>by subst e; exact ⟨v,r++_,rfl,h1,ThsAt.app h2 h'⟩
def isS:Th→Bool | .str _=>true | _=>false
def isI:Th→Bool | .int _=>true | _=>false
def isT:Th→Bool | .tup _=>true | _=>false
def inT:Th→Int→Int→Bool
 | .int i,lo,hi=>decide (lo≤i) && decide (i≤hi)
 | _,_,_=>false
def du:Str:="abcdefghijklmnopqrstuvwxyz"
def gg:List Str:=["all","any","bell","none"]
def fE (c:Nat):Bool:=!(Builtin.Str.occurrences du ⟨#[c]⟩ 0 du.length 1).isEmpty
def bJ (z:Str):Bool:=decide (1≤z.length) && decide (z.length≤8) && z.cps.toList.all fE
def nZ:Th→Bool | .str z=>bJ z | _=>false
def gj:Th→Bool | .str z=>bJ z && !decide (z∈gg) | _=>false
def my:Th→Int→Bool
 | .str z,_=>decide (z="all") || decide (z="any")
 | .int n,m=>decide (1≤n) && decide (n≤m)
 | _,_=>false
def k8:Th→Int→Bool
 | .tup [x,y,z],m=>inT x 0 (m - 1) && (inT y 1 1000 && inT z 0 1)
 | _,_=>false
def js:Th→Int→Bool
 | .tup ts,m=>decide (1≤ts.length) && decide (ts.length≤6) && ts.all (fun t=>k8 t m)
 | _,_=>false
def CY:Th→Nat | .tup ts=>ts.length | _=>0
def inA:Th→List Str→Bool | .str z,ahead=>decide (z∈ahead) | _,_=>false
def nU:Th→List Str→Int→Bool
 | .tup [n,s,r,l],ahead,m=>gj n && !inA n ahead && inT s 0 1000 && (js l m && my r (CY l))
 | _,_,_=>false
def nameOf:Th→Str | .tup (.str z::_)=>z | _=>Str.empty
section
variable {P:Program} {w:World} {K:PySem.W.Frag} {mg:Str→Option Value} {base:Heap} {f:Addr} {fd:FuncData}
theorem Cn (K:PySem.W.Frag):PySem.W.kitOne K (.type "tuple") (.type "tuple")=some true:=by kernel_rfl
theorem Ck (K:PySem.W.Frag):PySem.W.kitOne K (.type "str") (.type "tuple")=some false:=by kernel_rfl
theorem B4 (K:PySem.W.Frag):PySem.W.kitOne K (.type "int") (.type "tuple")=some false:=by kernel_rfl
theorem By (K:PySem.W.Frag):PySem.W.kitOne K (.type "bool") (.type "tuple")=some false:=by kernel_rfl
theorem CH (K:PySem.W.Frag):PySem.W.kitOne K (.type "NoneType") (.type "tuple")=some false:=by kernel_rfl
theorem B8 (K:PySem.W.Frag):PySem.W.kitOne K (.type "list") (.type "tuple")=some false:=by kernel_rfl
theorem B3 (K:PySem.W.Frag):PySem.W.kitOne K (.type "dict") (.type "tuple")=some false:=by kernel_rfl
theorem Cc (K:PySem.W.Frag):PySem.W.kitOne K (.type "dict") (.type "str")=some false:=by kernel_rfl
theorem BI (K:PySem.W.Frag):PySem.W.kitOne K (.type "dict") (.type "int")=some false:=by kernel_rfl
theorem zp {H:Hp} {a:Addr} {kvs:List (Key×V)} (h:H a=some (.dK kvs)):Kind K H (.ref a) false false:=⟨_,false,false,.dK h,Cc K,BI K,(fun z=>nomatch z),rfl⟩
theorem ThAt.kind {H:Hp} {t:Th} {v:V} (h:ThAt H t v):Kind K H v (isS t) (isI t):=by
 cases t with
 | int i=>cases h; exact nc H i
 | bl b=>cases h; exact AI H b
 | non=>cases h; exact xy H
 | str z=>obtain ⟨rfl,_⟩:=h; exact wQ H z
 | tup ts=>obtain ⟨a,vs,rfl,ha,_⟩:=h; exact yv ha
 | lst=>obtain ⟨a,xs,rfl,ha⟩:=h; exact zg ha
 | dic=>obtain ⟨a,xs,rfl,ha⟩:=h; exact zp ha
theorem ThAt.ty {H:Hp} {t:Th} {v:V} (h:ThAt H t v):∃ ty,TyOf K H v ty∧PySem.W.kitOne K ty (.type "tuple")=some (isT t):=by
 cases t with
 | int i=>cases h; exact ⟨_,.int i,B4 K⟩
 | bl b=>cases h; exact ⟨_,.bl b,By K⟩
 | non=>cases h; exact ⟨_,.non,CH K⟩
 | str z=>obtain ⟨rfl,_⟩:=h; exact ⟨_,.str z,Ck K⟩
 | tup ts=>obtain ⟨a,vs,rfl,ha,_⟩:=h; exact ⟨_,.tup ha,Cn K⟩
 | lst=>obtain ⟨a,xs,rfl,ha⟩:=h; exact ⟨_,.lst ha,B8 K⟩
 | dic=>obtain ⟨a,xs,rfl,ha⟩:=h; exact ⟨_,.dK ha,B3 K⟩
def fV:Sp:=fun vs H Q _=>∃ (v:V) (t:Th) (lo hi:Int),vs=[v,.int lo,.int hi]∧ThAt H t v∧Q (.bl (inT t lo hi)) H
theorem vp:FnScope ["thing","least","most"] ["thing","least","most"] (ar dq):=⟨rfl,rfl,rfl,by decide +kernel,rfl,by decide +kernel,by decide +kernel⟩
theorem ve (F:Fun K "is_whole_within" "is_whole_within" dq f fd) (C_whole:Cal P w K mg base 1 "is_whole" ["thing"] (d8 K)):FnOk P w K mg base CX0 2 f fd ["thing","least","most"] fV:=by
 refine F.ok vp (fun vs H Q E h=>?_) (fun cdv A outer s H vs Q E hr h=>?_)
 ·obtain ⟨v,t,lo,hi,rfl,_⟩:=h
  rfl
 obtain ⟨v,t,lo,hi,rfl,ht,q⟩:=h
 refine ⟨_,(ao (au (ka (aH C_whole hr (by decide) rfl (aa (pv 0) ae)) (i3 (xO eV eV (pv 1) (pv 0) (pv 2)))))),?_⟩
 refine ⟨_,rfl,v,isS t,isI t,rfl,ht.kind,_,rfl,?_⟩
 cases t with
 | int i =>
  cases ht
  refine bc ?_
  refine ⟨_,rfl,_,rfl,_,_,rfl,rfl,_,rfl,?_⟩
  refine cb (fun c=>?_) (fun c=>?_)
  ·have e:inT (.int i) lo hi=decide (i≤hi):=by
    show (decide (lo≤i) && decide (i≤hi))=_
    rw [show decide (lo≤i)=true from c]
    rfl
   rw [e] at q
   exact ⟨_,rfl,_,_,rfl,rfl,q⟩
  ·have e:inT (.int i) lo hi=false:=by
    show (decide (lo≤i) && decide (i≤hi))=_
    rw [show decide (lo≤i)=false from Bool.eq_false_iff.mpr c]
    rfl
   rw [e] at q
   exact q
 | _=>exact bg q
end
end K81
namespace K81
open PySem L2
theorem all_map {α:Type} (l:List α) (p:α→Bool):(l.map p).all id=l.all p:=by
 rw [List.all_map]
 rfl
section
variable {P:Program} {w:World} {K:PySem.W.Frag} {mg:Str→Option Value} {base:Heap} {f:Addr} {fd:FuncData}
def i4:Sp:=fun vs H Q _=>∃ (v:V) (t:Th),vs=[v]∧ThAt H t v∧∀ H',Same H H'→Q (.bl (nZ t)) H'
theorem Ak:FnScope ["thing"] ["thing"] (ar jF):=⟨rfl,rfl,rfl,by decide +kernel,rfl,by decide +kernel,by decide +kernel⟩
theorem zJ {tM tL:Tok} (F:Fun K "is_word" "is_word" jF f fd) (B:Blt mg) (mM:mg "MOST_LETTERS"=some (.int 8 tM)) (mL:mg "LETTERS"=some (.str du tL)):FnOk P w K mg base CX0 1 f fd ["thing"] i4:=by
 refine F.ok Ak (fun vs H Q E h=>?_) (fun cdv A outer s H vs Q E hr h=>?_)
 ·obtain ⟨v,t,rfl,_⟩:=h
  rfl
 obtain ⟨v,t,rfl,ht,q⟩:=h
 refine ⟨_,(af (aP (PW.pt (ie (bQ (bD (ax (ck "str") rfl B.isinstance_ PyProof.Rows.boot_isinstance (aa (pv 0) (aa (cJ (v:=.ty "str") rfl B.str_ PyProof.Rows.boot_str rfl) ae))))) (e7 (bQ (e8 eV eV ak (ax eG rfl B.len_ PySem.boot_len (aa (pv 0) ae)) (cB (v:=.int 8) rfl mM ⟨tM,rfl⟩))))))
  (ao (au dj))
  aw)
  (ao (au (ax (i9 rfl) rfl B.all_ PyProof.Rows.boot_all (aa (bz ["sign"] [] [] rfl (yb (pv 0)) (fun _ _ _ _ _=>(ay (i:=0) (show List.Nodup [("sign":Str)] by decide +kernel) rfl (Or.inl rfl))) (fun _ _ _ _ _=>bp) (fun _ _ _ _ _=>(cU oz (pv 0) (cB (v:=.str du) rfl mL ⟨tL,rfl⟩) rfl))) ae))))),?_⟩
 obtain ⟨ty,bi,bb,tyv,ks,_⟩:=(ht.kind (K:=K)).ex
 refine ⟨_,rfl,_,_,_,rfl,tyv,ks,_,rfl,?_⟩
 cases t with
 | str z =>
  obtain ⟨rfl,hz⟩:=ht
  refine bg ?_
  refine ⟨_,rfl,_,rfl,(by rw [sizeLine_eq]; omega),_,_,rfl,rfl,_,rfl,cb (fun g1=>?_) (fun g1=>?_)⟩
  rotate_left
  ·have e:nZ (.str z)=false:=by
    show (decide (1≤z.length) && decide (z.length≤8) && z.cps.toList.all fE)=false
    have:¬ 1≤z.length:=fun h=>g1 (decide_eq_true (by omega))
    rw [decide_eq_false this]
    rfl
   rw [e] at q
   exact ⟨_,rfl,bc (q H (.refl H))⟩
  have h1:(1:Int)≤(z.length:Int):=of_decide_eq_true g1
  refine ⟨_,_,rfl,rfl,_,rfl,?_⟩
  by_cases h2:(z.length:Int)≤8
  rotate_left
  ·have e:nZ (.str z)=false:=by
    show (decide (1≤z.length) && decide (z.length≤8) && z.cps.toList.all fE)=false
    rw [decide_eq_false (show ¬ z.length≤8 by omega),Bool.and_false]
    rfl
   rw [e] at q
   rw [decide_eq_false h2]
   exact bc (q H (.refl H))
  rw [decide_eq_true h2]
  refine bg ?_
  have e:nZ (.str z)=z.cps.toList.all fE:=by
   show (decide (1≤z.length) && decide (z.length≤8) && z.cps.toList.all fE)=_
   rw [decide_eq_true (show 1≤z.length by omega),decide_eq_true (show z.length≤8 by omega)]
   rfl
  rw [e] at q
  refine ⟨_,rfl,z,rfl,fun D hD=>?_⟩
  refine qi (z:=z) (fun i ys H3=>Same H H3∧ys=((z.cps.toList.take i).map fE).map V.bl) ⟨aq hD _,rfl⟩ ?_ ?_
  ·rintro i c ys H3 hc ⟨s3,rfl⟩ hD3
   have hc':z.cps.toList[i]?=some c:=by simpa using hc
   have hi:i<z.length:=by
    have:=(List.getElem?_eq_some_iff.mp hc').1
    rw [bj] at this
    exact this
   refine ⟨rfl,aW ?_⟩
   refine ⟨_,rfl,_,_,rfl,rfl,_,hD3,?_,_,⟨s3.upd hD _,rfl⟩,?_⟩
   ·rw [List.length_map,List.length_map,List.length_take]
    exact aJ (by omega)
   ·rw [take_snoc hc',List.map_append,List.map_append]
    exact ah
  rintro ys H3 ⟨s3,rfl⟩ hD3
  have hT:z.cps.toList.take z.cps.size=z.cps.toList:=List.take_of_length_le (by simp)
  rw [hT] at hD3
  refine ⟨D,_,rfl,SqL.of hD3,?_⟩
  rw [all_map]
  exact q H3 s3
 | _=>exact bc (bc (q H (.refl H)))
def kY:Sp:=fun vs H Q _=>∃ (v:V) (t:Th),vs=[v]∧ThAt H t v∧∀ H',Same H H'→Q (.bl (gj t)) H'
theorem AF:FnScope ["thing"] ["thing"] (ar jL):=⟨rfl,rfl,rfl,by decide +kernel,rfl,by decide +kernel,by decide +kernel⟩
theorem Ac {aN:Addr} (F:Fun K "is_name" "is_name" jL f fd) (mN:mg "NO_NAMES"=some (.ref aN)) (hN:∀ H,SqT K H aN (gg.map V.str)) (C_word:Cal P w K mg base 1 "is_word" ["thing"] i4):FnOk P w K mg base CX0 2 f fd ["thing"] kY:=by
 refine F.ok AF (fun vs H Q E h=>?_) (fun cdv A outer s H vs Q E hr h=>?_)
 ·obtain ⟨v,t,rfl,_⟩:=h
  rfl
 obtain ⟨v,t,rfl,ht,q⟩:=h
 refine ⟨_,(ao (au (ka (aH C_word hr (by decide) rfl (aa (pv 0) ae)) (i3 (cU i7 (pv 0) (cB (v:=.ref aN) rfl mN rfl) rfl))))),?_⟩
 refine ⟨_,rfl,v,t,rfl,ht,fun H1 s1=>⟨_,rfl,?_⟩⟩
 cases t with
 | str z =>
  obtain ⟨rfl,hz⟩:=ht
  show if bJ z=true then _ else _
  by_cases hw:bJ z=true
  ·rw [if_pos hw]
   refine ⟨_,rfl,aN,_,rfl,.inr (hN H1),rfl,iq gg,?_⟩
   have e:gj (.str z)=!decide (z∈gg):=by
    show (bJ z && !decide (z∈gg))=_
    rw [hw]
    rfl
   rw [e,← jg] at q
   exact q H1 s1
  ·rw [if_neg hw]
   have e:gj (.str z)=false:=by
    show (bJ z && !decide (z∈gg))=_
    rw [Bool.eq_false_iff.mpr hw]
    rfl
   rw [e] at q
   exact q H1 s1
 | _=>exact bg (q H1 s1)
def jK:Sp:=fun vs H Q _=>∃ (v:V) (t:Th) (m:Int),vs=[v,.int m]∧ThAt H t v∧∀ H',Same H H'→Q (.bl (my t m)) H'
theorem wo:FnScope ["thing","many"] ["thing","many"] (ar jQ):=⟨rfl,rfl,rfl,by decide +kernel,rfl,by decide +kernel,by decide +kernel⟩
theorem vK {cA cY cS cN:Addr} (F:Fun K "is_rule" "is_rule" jQ f fd) (mN:mg "NoRule"=some (.ref cN)) (xm:PySem.W.exmOne K (.ref cN) (.ref cN)=some true) (C_rule:CalX P w K mg base 5 "rule_of" ["word","many"] (fF K cA cY cS cN)):FnOk P w K mg base CX0 6 f fd ["thing","many"] jK:=by
 refine F.ok wo (fun vs H Q E h=>?_) (fun cdv A outer s H vs Q E hr h=>?_)
 ·obtain ⟨v,t,m,rfl,_⟩:=h
  rfl
 obtain ⟨v,t,m,rfl,ht,q⟩:=h
 refine ⟨_,(af (Bp rfl rfl rfl mN (xt (DC C_rule hr (by decide) rfl (aa (pv 0) (aa (pv 1) ae)))) (fun _=>(ao (au dj))))
  (ao (au dj))),?_⟩
 refine ⟨_,rfl,_,rfl,v,m,rfl,?_⟩
 have good:my t m=true→∀ {x:Addr} {dx:Addr} {C:Addr} {n:Int} (H':Hp),Same H H'→H x=none→H' x=some (.ins C dx [("need",.int n)])→Q (.bl true) H':=fun e _ _ _ _ H' s' _ _=>by rw [e] at q; exact q H' s'
 have bad:my t m=false→PySem.W.exmOne K (.ref cN) (.ref cN)=some true∧∀ a C,Value.ref cN=.ref C→H a=none→Q (.bl false) (upd H a (ExO a C none)):=fun e=>⟨xm,fun a C _ na=>by rw [e] at q; exact q _ (aq na _)⟩
 have kd:=ht.kind (K:=K)
 cases t with
 | str z =>
  obtain ⟨rfl,_⟩:=ht
  by_cases h1:z="all"
  ·refine .inl ⟨congrArg V.str h1,fun x dx H' s' nx hx=>good ?_ H' s' nx hx⟩
   show (decide (z="all") || _)=true
   rw [decide_eq_true h1]
   rfl
  by_cases h2:z="any"
  ·refine .inr (.inl ⟨congrArg V.str h2,fun x dx H' s' nx hx=>good ?_ H' s' nx hx⟩)
   show (decide (z="all") || decide (z="any"))=true
   rw [decide_eq_true h2,Bool.or_true]
  ·refine .inr (.inr (.inr ⟨.inl ⟨z,rfl,h1,h2⟩,bad ?_⟩))
   show (decide (z="all") || decide (z="any"))=false
   rw [decide_eq_false h1,decide_eq_false h2]
   rfl
 | int n =>
  cases ht
  by_cases h:1≤n∧n≤m
  ·refine .inr (.inr (.inl ⟨n,rfl,h.1,h.2,fun x dx H' s' nx hx=>good ?_ H' s' nx hx⟩))
   show (decide (1≤n) && decide (n≤m))=true
   rw [decide_eq_true h.1,decide_eq_true h.2]
   rfl
  ·refine .inr (.inr (.inr ⟨.inr (.inl ⟨n,rfl,h⟩),bad ?_⟩))
   show (decide (1≤n) && decide (n≤m))=false
   rw [← Bool.decide_and]
   exact decide_eq_false h
 | _=>exact .inr (.inr (.inr ⟨.inr (.inr kd),bad rfl⟩))
def lj:Sp:=fun vs H Q _=>∃ (v:V) (t:Th) (m:Int),vs=[v,.int m]∧ThAt H t v∧Q (.bl (k8 t m)) H
theorem zq:FnScope ["thing","bells"] ["thing","bells"] (ar eQ):=⟨rfl,rfl,rfl,by decide +kernel,rfl,by decide +kernel,by decide +kernel⟩
theorem xA {tM:Tok} (F:Fun K "is_listening" "is_listening" eQ f fd) (B:Blt mg) (mM:mg "MOST_BEATS"=some (.int 1000 tM)) (C_within:Cal P w K mg base 2 "is_whole_within" ["thing","least","most"] fV):FnOk P w K mg base CX0 3 f fd ["thing","bells"] lj:=by
 refine F.ok zq (fun vs H Q E h=>?_) (fun cdv A outer s H vs Q E hr h=>?_)
 ·obtain ⟨v,t,m,rfl,_⟩:=h
  rfl
 obtain ⟨v,t,m,rfl,ht,q⟩:=h
 refine ⟨_,(af (aP (PW.pt (ie (bQ (bD (ax (ck "tuple") rfl B.isinstance_ PyProof.Rows.boot_isinstance (aa (pv 0) (aa (cJ (v:=.ty "tuple") rfl B.tuple_ PyProof.Rows.boot_tuple rfl) ae))))) (e7 (az iI (ax aL rfl B.len_ PySem.boot_len (aa (pv 0) ae)) ak (aI _)))))
  (ao (au dj))
  aw)
  (af (aP (bQ (bD (aH C_within hr (by decide) rfl (aa (av aT (pv 0) ak (fun _ _=>rfl)) (aa ak (aa (aV eW (pv 1) ak) ae))))))
  (ao (au dj))
  aw)
  (ao (au (ka (aH C_within hr (by decide) rfl (aa (av aT (pv 0) ak (fun _ _=>rfl)) (aa ak (aa (cB (v:=.int 1000) rfl mM ⟨tM,rfl⟩) ae)))) (i3 (aH C_within hr (by decide) rfl (aa (av aT (pv 0) ak (fun _ _=>rfl)) (aa ak (aa ak ae)))))))))),?_⟩
 obtain ⟨ty,tyv,kt⟩:=ht.ty (K:=K)
 refine ⟨_,rfl,_,_,_,rfl,tyv,kt,_,rfl,?_⟩
 cases t with
 | tup ts =>
  obtain ⟨a,vs,rfl,ha,hts⟩:=ht
  have hlen:=hts.len
  refine bg ?_
  refine ⟨_,rfl,a,_,rfl,.inr (SqT.of ha),rfl,_,rfl,?_⟩
  match ts,hts,q,hlen with
  | [x,y,z],hts,q,hlen =>
   obtain ⟨vx,r1,rfl,hx,vy,r2,rfl,hy,vz,r3,rfl,hz,rfl⟩:=hts
   refine bg ?_
   refine ⟨_,rfl,a,_,_,_,rfl,rfl,SqT.of ha,rfl,_,rfl,_,_,rfl,rfl,vx,x,0,m - 1,rfl,hx,_,rfl,?_⟩
   have e:k8 (.tup [x,y,z]) m=(inT x 0 (m - 1) && (inT y 1 1000 && inT z 0 1)):=rfl
   rw [e] at q
   cases e1:inT x 0 (m - 1) with
   | false=>rw [e1] at q; exact bc q
   | true =>
    rw [e1] at q
    refine bg ?_
    refine ⟨_,rfl,a,_,_,_,rfl,rfl,SqT.of ha,rfl,vy,y,1,1000,rfl,hy,_,rfl,?_⟩
    cases e2:inT y 1 1000 with
    | false=>rw [e2] at q; exact bg q
    | true =>
     rw [e2] at q
     refine bc ?_
     exact ⟨_,rfl,a,_,_,_,rfl,rfl,SqT.of ha,rfl,vz,z,0,1,rfl,hz,q⟩
  | [],hts,q,hlen=>rw [hlen]; exact bc q
  | [_],hts,q,hlen=>rw [hlen]; exact bc q
  | [_,_],hts,q,hlen=>rw [hlen]; exact bc q
  | _::_::_::_::r,hts,q,hlen =>
   refine cb (fun _=>q) (fun c=>absurd ?_ c)
   rw [hlen]
   simp only [List.length_cons]
   simp
   omega
 | _=>exact bc (bc q)
def jW:Sp:=fun vs H Q _=>∃ (v:V) (t:Th) (m:Int),vs=[v,.int m]∧ThAt H t v∧∀ H',Same H H'→Q (.bl (js t m)) H'
theorem wL:FnScope ["thing","bells"] ["thing","bells"] (ar dE):=⟨rfl,rfl,rfl,by decide +kernel,rfl,by decide +kernel,by decide +kernel⟩
theorem uV {tM:Tok} (F:Fun K "are_listenings" "are_listenings" dE f fd) (B:Blt mg) (mM:mg "MOST_LISTENINGS"=some (.int 6 tM)) (C_islis:Cal P w K mg base 3 "is_listening" ["thing","bells"] lj):FnOk P w K mg base CX0 4 f fd ["thing","bells"] jW:=by
 refine F.ok wL (fun vs H Q E h=>?_) (fun cdv A outer s H vs Q E hr h=>?_)
 ·obtain ⟨v,t,m,rfl,_⟩:=h
  rfl
 obtain ⟨v,t,m,rfl,ht,q⟩:=h
 refine ⟨_,(af (aP (PW.pt (ie (bQ (bD (ax (ck "tuple") rfl B.isinstance_ PyProof.Rows.boot_isinstance (aa (pv 0) (aa (cJ (v:=.ty "tuple") rfl B.tuple_ PyProof.Rows.boot_tuple rfl) ae))))) (e7 (bQ (e8 eV eV ak (ax aL rfl B.len_ PySem.boot_len (aa (pv 0) ae)) (cB (v:=.int 6) rfl mM ⟨tM,rfl⟩))))))
  (ao (au dj))
  aw)
  (ao (au (ax (i9 rfl) rfl B.all_ PyProof.Rows.boot_all (aa (bz ["listening"] ["bells"] [1] rfl (cD (pv 0)) (fun _ _ _ _ _=>(ay (i:=0) (show List.Nodup [("listening":Str),("bells":Str)] by decide +kernel) rfl (Or.inl rfl))) (fun _ _ _ _ _=>bp) (fun _ _ _ _ _=>(aH C_islis hr (by decide) rfl (aa (pv 0) (aa (pv 1) ae))))) ae))))),?_⟩
 obtain ⟨ty,tyv,kt⟩:=ht.ty (K:=K)
 refine ⟨_,rfl,_,_,_,rfl,tyv,kt,_,rfl,?_⟩
 cases t with
 | tup ts =>
  obtain ⟨a,vs,rfl,ha,hts⟩:=ht
  have hlen:=hts.len
  refine bg ?_
  refine ⟨_,rfl,a,_,rfl,.inr (SqT.of ha),_,_,rfl,rfl,_,rfl,cb (fun g1=>?_) (fun g1=>?_)⟩
  rotate_left
  ·have e:js (.tup ts) m=false:=by
    show (decide (1≤ts.length) && decide (ts.length≤6) && ts.all (fun t=>k8 t m))=false
    have:¬ 1≤ts.length:=fun h=>g1 (decide_eq_true (by omega))
    rw [decide_eq_false this]
    rfl
   rw [e] at q
   exact ⟨_,rfl,bc (q H (.refl H))⟩
  have h1:(1:Int)≤((vs.length:Nat):Int):=of_decide_eq_true g1
  refine ⟨_,_,rfl,rfl,_,rfl,?_⟩
  by_cases h2:((vs.length:Nat):Int)≤6
  rotate_left
  ·have e:js (.tup ts) m=false:=by
    show (decide (1≤ts.length) && decide (ts.length≤6) && ts.all (fun t=>k8 t m))=false
    rw [decide_eq_false (show ¬ ts.length≤6 by omega),Bool.and_false]
    rfl
   rw [e] at q
   rw [decide_eq_false h2]
   exact bc (q H (.refl H))
  rw [decide_eq_true h2]
  refine bg ?_
  have e:js (.tup ts) m=ts.all (fun t=>k8 t m):=by
   show (decide (1≤ts.length) && decide (ts.length≤6) && ts.all (fun t=>k8 t m))=_
   rw [decide_eq_true (show 1≤ts.length by omega),decide_eq_true (show ts.length≤6 by omega)]
   rfl
  rw [e] at q
  refine ⟨_,rfl,a,rfl,⟨_,SqT.of ha⟩,fun D hD=>?_⟩
  refine bV (K:=K) (a:=a) (xs:=vs) (fun i ys H3=>Same H H3∧ys=((ts.take i).map (fun t=>k8 t m)).map V.bl) ⟨aq hD _,rfl⟩ (fun i ys H3 _ ⟨z,_⟩=>SqT.of (z _ _ ha)) ?_ ?_
  ·rintro i x ys H3 hx ⟨s3,rfl⟩ hD3
   have hi:i<ts.length:=by
    have:=(List.getElem?_eq_some_iff.mp hx).1
    omega
   have ht:=List.getElem?_eq_getElem hi
   obtain ⟨x',hx',htx⟩:=hts.at ht
   obtain rfl:x'=x:=Option.some.inj (hx'.symm.trans hx)
   refine ⟨rfl,aW ?_⟩
   refine ⟨_,rfl,_,rfl,x',ts[i],m,rfl,ThAt.same s3 _ htx,_,hD3,?_,_,⟨s3.upd hD _,rfl⟩,?_⟩
   ·rw [List.length_map,List.length_map,List.length_take]
    exact aJ (by omega)
   ·rw [take_snoc ht,List.map_append,List.map_append]
    exact ah
  rintro ys H3 ⟨s3,rfl⟩ hD3
  rw [hlen,List.take_length] at hD3
  refine ⟨D,_,rfl,SqL.of hD3,?_⟩
  rw [all_map]
  exact q H3 s3
 | _=>exact bc (bc (q H (.refl H)))
def j4:Sp:=fun vs H Q _=>∃ (v:V) (t:Th) (al:Addr) (ahead:List Str) (m:Int),vs=[v,.ref al,.int m]∧ThAt H t v∧H al=some (.lst (ahead.map V.str))∧∀ H',Same H H'→Q (.bl (nU t ahead m)) H'
theorem vN:FnScope ["thing","ahead","bells"] ["thing","ahead","bells"] (ar j2):=⟨rfl,rfl,rfl,by decide +kernel,rfl,by decide +kernel,by decide +kernel⟩
theorem u6 {tM:Tok} (F:Fun K "is_bell" "is_bell" j2 f fd) (B:Blt mg) (mM:mg "MOST_START"=some (.int 1000 tM)) (C_within:Cal P w K mg base 2 "is_whole_within" ["thing","least","most"] fV) (C_name:Cal P w K mg base 2 "is_name" ["thing"] kY) (C_arelis:Cal P w K mg base 4 "are_listenings" ["thing","bells"] jW)
  (C_isrule:Cal P w K mg base 6 "is_rule" ["thing","many"] jK):FnOk P w K mg base CX0 7 f fd ["thing","ahead","bells"] j4:=by
 refine F.ok vN (fun vs H Q E h=>?_) (fun cdv A outer s H vs Q E hr h=>?_)
 ·obtain ⟨v,t,al,ahead,m,rfl,_⟩:=h
  rfl
 obtain ⟨v,t,al,ahead,m,rfl,ht,hal,q⟩:=h
 refine ⟨_,(af (aP (PW.pt (ie (bQ (bD (ax (ck "tuple") rfl B.isinstance_ PyProof.Rows.boot_isinstance (aa (pv 0) (aa (cJ (v:=.ty "tuple") rfl B.tuple_ PyProof.Rows.boot_tuple rfl) ae))))) (e7 (az iI (ax aL rfl B.len_ PySem.boot_len (aa (pv 0) ae)) ak (aI _)))))
  (ao (au dj))
  aw)
  (af (aP (PW.pt (ie (bQ (bD (aH C_name hr (by decide) rfl (aa (av aT (pv 0) ak (fun _ _=>rfl)) ae)))) (e7 (az jC (av aT (pv 0) ak (fun _ _=>rfl)) (pv 1) rfl))))
  (ao (au dj))
  aw)
  (af (aP (bQ (bD (aH C_within hr (by decide) rfl (aa (av aT (pv 0) ak (fun _ _=>rfl)) (aa ak (aa (cB (v:=.int 1000) rfl mM ⟨tM,rfl⟩) ae))))))
  (ao (au dj))
  aw)
  (ao (au (ka (aH C_arelis hr (by decide) rfl (aa (av aT (pv 0) ak (fun _ _=>rfl)) (aa (pv 2) ae))) (i3 (aH C_isrule hr (by decide) rfl (aa (av aT (pv 0) ak (fun _ _=>rfl)) (aa (ax aL rfl B.len_ PySem.boot_len (aa (av aT (pv 0) ak (fun _ _=>rfl)) ae)) ae)))))))))),?_⟩
 obtain ⟨ty,tyv,kt⟩:=ht.ty (K:=K)
 refine ⟨_,rfl,_,_,_,rfl,tyv,kt,_,rfl,?_⟩
 cases t with
 | tup ts =>
  obtain ⟨a,vs,rfl,ha,hts⟩:=ht
  have hlen:=hts.len
  refine bg ?_
  refine ⟨_,rfl,a,_,rfl,.inr (SqT.of ha),rfl,_,rfl,?_⟩
  match ts,hts,q,hlen with
  | [n,st,r,l],hts,q,hlen =>
   obtain ⟨vn,r1,rfl,hn,vs',r2,rfl,hs,vr,r3,rfl,hr',vl,r4,rfl,hl,rfl⟩:=hts
   refine bg ?_
   have e:nU (.tup [n,st,r,l]) ahead m=(gj n && !inA n ahead && inT st 0 1000 && (js l m && my r (CY l))):=rfl
   rw [e] at q
   refine ⟨_,rfl,a,_,_,_,rfl,rfl,SqT.of ha,rfl,vn,n,rfl,hn,fun H1 s1=>⟨_,rfl,?_⟩⟩
   have ha1:=s1 _ _ ha
   cases e1:gj n with
   | false=>rw [e1] at q; exact bc (bc (q H1 s1))
   | true =>
    rw [e1] at q
    refine bg ?_
    cases n with
    | str z =>
     obtain ⟨rfl,_⟩:=hn
     refine ⟨_,rfl,a,_,_,_,rfl,rfl,SqT.of ha1,rfl,_,rfl,al,_,rfl,.inl (SqL.of (s1 _ _ hal)),rfl,iq ahead,_,rfl,?_⟩
     show if inV (.str z) (ahead.map V.str)=true then _ else _
     rw [jg]
     have e2:inA (.str z) ahead=decide (z∈ahead):=rfl
     rw [e2] at q
     cases e3:decide (z∈ahead) with
     | true=>rw [e3] at q; exact bc (q H1 s1)
     | false =>
      rw [e3] at q
      refine bg ?_
      refine ⟨_,rfl,a,_,_,_,rfl,rfl,SqT.of ha1,rfl,vs',st,0,1000,rfl,ThAt.same s1 _ hs,_,rfl,?_⟩
      cases e4:inT st 0 1000 with
      | false=>rw [e4] at q; exact bc (q H1 s1)
      | true =>
       rw [e4] at q
       refine bg ?_
       refine ⟨_,rfl,a,_,_,_,rfl,rfl,SqT.of ha1,rfl,_,rfl,vl,l,m,rfl,ThAt.same s1 _ hl,fun H2 s2=>⟨_,rfl,?_⟩⟩
       cases e5:js l m with
       | false=>rw [e5] at q; exact bg (q H2 (s1.trans s2))
       | true =>
        rw [e5] at q
        refine bc ?_
        have s02:=s1.trans s2
        cases l with
        | tup ls =>
         obtain ⟨la,lv,rfl,hla,hls⟩:=hl
         refine ⟨_,rfl,a,_,_,_,rfl,rfl,SqT.of (s02 _ _ ha),rfl,_,rfl,a,_,_,_,rfl,rfl,SqT.of (s02 _ _ ha),rfl,la,_,rfl,.inr (SqT.of (s02 _ _ hla)),vr,r,_,rfl,ThAt.same s02 _ hr',fun H3 s3=>?_⟩
         rw [hls.len]
         exact q H3 (s02.trans s3)
        | _=>cases e5
    | _=>cases e1
  | [],hts,q,hlen=>rw [hlen]; exact bc (q H (.refl H))
  | [_],hts,q,hlen=>rw [hlen]; exact bc (q H (.refl H))
  | [_,_],hts,q,hlen=>rw [hlen]; exact bc (q H (.refl H))
  | [_,_,_],hts,q,hlen=>rw [hlen]; exact bc (q H (.refl H))
  | _::_::_::_::_::r,hts,q,hlen =>
   refine cb (fun _=>q H (.refl H)) (fun c=>absurd ?_ c)
   rw [hlen]
   simp only [List.length_cons]
   simp
   omega
 | _=>exact bc (bc (q H (.refl H)))
end
end K81
namespace K81
open PySem L2
def bu:Str:="abcdefghijklmnopqrstuvwxyz"
theorem dQ:bu.cps.toList.length=26:=by decide +kernel
theorem gJ:bu.length=26:=by decide +kernel
theorem ny:bu.cps.toList.Nodup:=by decide +kernel
def four:List Str:=["all","any","bell","none"]
def Ff (pre:Str) (c:Nat):Str:=pre++(⟨#[c]⟩:Str)
theorem cF (a b:Str):(a++b).cps.toList=a.cps.toList++b.cps.toList:=by
 show (a.cps++b.cps).toList=_
 rw [Array.toList_append]
def iJ (z:Str):Prop:=∀ c∈z.cps.toList,c∈bu.cps.toList
theorem k7 {a b:Str} (ha:iJ a) (hb:iJ b):iJ (a++b):=fun c hc=>by
 rw [cF] at hc
 rcases List.mem_append.mp hc with h | h
 ·exact ha c h
 ·exact hb c h
theorem xx {c:Nat} (h:c∈bu.cps.toList):iJ ⟨#[c]⟩:=fun d hd=>by
 have e:d=c:=List.mem_singleton.mp hd
 rw [e]
 exact h
theorem mU {x:Str} (h:iJ x) (lo hi:Option Int):iJ (Txt.slice x lo hi):=fun c hc=>by
 rw [gm] at hc
 unfold sX at hc
 exact h c (List.mem_of_mem_drop (List.mem_of_mem_take hc))
theorem join_ones (l:List Nat):(Txt.join Str.empty (l.map fun c=>(⟨#[c]⟩:Str))).length=l.length:=by
 have e:=size_glued Str.empty (l.map fun c=>(⟨#[c]⟩:Str))
 have e0:Str.empty.length=0:=rfl
 rw [e0,Nat.mul_zero,Nat.add_zero,List.map_map] at e
 refine (show _=_ from e).trans ?_
 induction l with
 | nil=>rfl
 | cons c l ih=>rw [List.map_cons,List.sum_cons,List.length_cons,ih (size_glued Str.empty _ |>.trans (by rw [e0,Nat.mul_zero,Nat.add_zero,List.map_map]))]; show 1+l.length=l.length+1; omega
theorem zC {α:Type} (x:α) (r:List α):atI (x::r) 0=some x:=a9 (j:=0) rfl
def Low (cs:List Int):Prop:=∀ n∈cs,0≤n∧n<26
def sg (n:Int):Nat:=bu.cps.toList.getD n.toNat 0
theorem A8 {n:Int} (h0:0≤n) (h1:n<26):atI bu.cps.toList n=some (sg n):=by
 have hd:n.toNat<bu.cps.toList.length:=by rw [dQ]; omega
 have e:n=((n.toNat:Nat):Int):=by omega
 have:=a9 (List.getElem?_eq_getElem hd)
 rw [← e] at this
 rw [this]
 unfold sg
 rw [List.getD_eq_getElem?_getD,List.getElem?_eq_getElem hd]
 rfl
def ones (cs:List Int):List Str:=cs.map fun n=>(⟨#[sg n]⟩:Str)
theorem rj (cs:List Int):(Txt.join Str.empty (ones cs)).length=cs.length:=by
 have e:=join_ones (cs.map sg)
 rw [List.map_map,List.length_map] at e
 exact e
theorem zH {cs:List Int} (h:cs.length≤9):JoinOk Str.empty (ones cs)=true:=by
 have e0:Str.empty.length=0:=rfl
 have e:(Txt.join Str.empty (ones cs)).length=((ones cs).map (·.length)).sum+((ones cs).length - 1) * Str.empty.length:=size_glued Str.empty (ones cs)
 rw [rj,e0,Nat.mul_zero,Nat.add_zero] at e
 refine PyProof.Rows.joinOk_of ?_
 rw [e0,Nat.mul_zero,Nat.add_zero,← e]
 omega
theorem nq:∀ (l:List Nat) (a:Array Nat),((l.map fun c=>(⟨#[c]⟩:Str)).foldl (fun acc q=>acc++Str.empty.cps++q.cps) a).toList=a.toList++l
 | [],a=>(List.append_nil _).symm
 | c::l,a=>by
  rw [List.map_cons,List.foldl_cons,nq l,Array.toList_append,Array.toList_append]
  show (a.toList++[])++[c]++l=a.toList++(c::l)
  rw [List.append_nil,List.append_assoc]
  rfl
theorem yq:∀ l:List Nat,(Txt.join Str.empty (l.map fun c=>(⟨#[c]⟩:Str))).cps.toList=l
 | []=>rfl
 | c::l=>by
  show ((l.map fun c=>(⟨#[c]⟩:Str)).foldl (fun acc q=>acc++Str.empty.cps++q.cps) #[c]).toList=_
  rw [nq]
  rfl
theorem yZ {n:Int} (h0:0≤n) (h1:n<26):sg n∈bu.cps.toList:=by
 have hd:n.toNat<bu.cps.toList.length:=by rw [dQ]; omega
 unfold sg
 rw [List.getD_eq_getElem?_getD,List.getElem?_eq_getElem hd]
 exact List.getElem_mem hd
theorem uQ {cs:List Int} (h:Low cs):iJ (Txt.join Str.empty (ones cs)):=fun c hc=>by
 have e:=yq (cs.map sg)
 rw [List.map_map] at e
 have e':(Txt.join Str.empty (ones cs)).cps.toList=cs.map sg:=e
 rw [e'] at hc
 obtain ⟨n,hn,rfl⟩:=List.mem_map.mp hc
 exact yZ (h n hn).1 (h n hn).2
theorem qj (x:Str) (k:Nat):(Txt.slice x none (some (k:Int))).length=min k x.length:=by
 have hx:=bj x
 rw [← bj (Txt.slice x none (some (k:Int))),gm]
 unfold sX
 rw [HT.jy]
 simp only [HT.f9,List.drop_zero,List.length_take]
 omega
theorem lN (x:Str) (k:Nat):(Txt.slice x (some (k:Int)) none).length=x.length - k:=by
 have hx:=bj x
 rw [← bj (Txt.slice x (some (k:Int)) none),gm]
 unfold sX
 rw [HT.jy]
 simp only [HT.f9,List.length_take,List.length_drop]
 omega
end K81
namespace K81
open PySem L2
def But (t:Addr) (H H':Hp):Prop:=∀ a o,a≠t→H a=some o→H' a=some o
theorem But.refl (t:Addr) (H:Hp):But t H H:=fun _ _ _ h=>h
theorem But.trans {t:Addr} {H H1 H2:Hp} (a:But t H H1) (b:But t H1 H2):But t H H2:=fun c o n h=>b c o n (a c o n h)
theorem Same.but {t:Addr} {H H':Hp} (s:Same H H'):But t H H':=fun a o _ h=>s a o h
theorem But.upd {t:Addr} {H H':Hp} (s:But t H H') (o:HO):But t H (upd H' t o):=fun a u n h=>by rw [aC n]; exact s a u n h
theorem But.tup {t:Addr} {H H':Hp} {ws:List V} (s:But t H H') (ht:H t=some (.lst ws)):oX H H':=fun b xs e=>s b _ (iH e ht (by intro z; cases z)) e
theorem But.same {t:Addr} {H0 H H':Hp} (s:But t H H') (s0:Same H0 H) (n:H0 t=none):Same H0 H':=fun a o e=>s a o (aM e n) (s0 a o e)
theorem But.free {t a:Addr} {H H':Hp} {o:HO} (s:But t H H') (ht:H' t=some o) (h:H' a=none):H a=none:=by
 cases e:H a with
 | none=>rfl
 | some u =>
  have n:a≠t:=fun z=>by rw [z,ht] at h; cases h
  rw [s a u n e] at h
  cases h
def PkAt (H:Hp) (p:Addr) (k:Nat):Prop:=∃ x:Int,H p=some (.lst [.int x,.int (k:Int)])
section
variable {P:Program} {w:World} {K:PySem.W.Frag} {mg:Str→Option Value} {base:Heap} {f:Addr} {fd:FuncData}
def kP (K:PySem.W.Frag):Sp:=fun vs H Q _=>∃ (a:Addr) (ns:List Int) (k:Nat),vs=[.ref a,.int (k:Int)]∧SqL K H a (ns.map V.int)∧k≤1000∧∀ (H':Hp) (p:Addr),Same H H'→H p=none→PkAt H' p k→Q (.ref p) H'
theorem AW:FnScope ["_law_script","_law_k"] ["_law_script","_law_k"] (ar rV):=⟨rfl,rfl,rfl,by decide +kernel,rfl,by decide +kernel,by decide +kernel⟩
theorem zE (F:Fun K "_law_pack" "_law_pack" rV f fd) (B:Blt mg):FnOk P w K mg base CX0 1 f fd ["_law_script","_law_k"] (kP K):=by
 refine F.ok AW (fun vs H Q E h=>?_) (fun cdv A outer s H vs Q E hr h=>?_)
 ·obtain ⟨a,ns,k,rfl,_⟩:=h
  rfl
 obtain ⟨a,ns,k,rfl,hS,hk,q⟩:=h
 refine ⟨_,(af (aP (az lI (pv 1) (ax aL rfl B.len_ PySem.boot_len (aa (pv 0) ae)) (aI _))
  (ao (au (bZ (aa (av aE (pv 0) (pv 1) (fun _ _=>rfl)) (aa (pv 1) ae)))))
  aw)
  (ao (au (bZ (aa (aV l7 (aV bP (aV nk ak (pv 1)) (ax (xp rfl) rfl B.sum_ PyProof.Rows.boot_sum (aa (d7 kR (pv 0) fz (fD ak)) ae))) ak) (aa (pv 1) ae)))))),?_⟩
 refine ⟨_,rfl,_,rfl,a,_,rfl,.inl hS,_,_,rfl,rfl,_,rfl,?_⟩
 refine cb (fun c=>?_) (fun c=>?_)
 ·have c':(k:Int)<(((ns.map V.int).length:Nat):Int):=of_decide_eq_true c
  rw [List.length_map] at c'
  have e:=List.getElem?_eq_getElem (show k<ns.length by omega)
  refine ⟨_,rfl,_,rfl,a,_,_,_,rfl,rfl,hS,tw e,_,rfl,(by show 2≤sizeLine; decide),fun p hp=>?_⟩
  exact q _ p (aq hp _) hp ⟨_,ah⟩
 ·refine ⟨_,rfl,_,_,rfl,rfl,.inl ⟨by decide,by decide⟩,_,rfl,_,rfl,a,_,rfl,hS,fun l hl=>?_⟩
  have s1:=aq hl (.lst (gS (ns.map V.int) none (some 9)))
  have ec:∃ ms:List Int,gS (ns.map V.int) none (some 9)=ms.map V.int:=by
   unfold gS
   exact ⟨_,by rw [← List.map_drop,← List.map_take]⟩
  obtain ⟨ms,ec⟩:=ec
  rw [ec] at s1
  rw [ec]
  refine ⟨l,ms,rfl,SqL.of ah,fun S=>?_⟩
  refine ⟨_,_,rfl,rfl,_,_,rfl,rfl,(show (0:Int)<16777213 by decide),_,rfl,(by show 2≤sizeLine; decide),fun p hp=>?_⟩
  exact q _ p (s1.trans (aq hp _)) (s1.free hp) ⟨_,ah⟩
def gH:Sp:=fun vs H Q _=>∃ (p:Addr) (k:Nat) (m:Int),vs=[.ref p,.int m]∧PkAt H p k∧k≤1000∧1≤m∧m≤5000∧∀ (d:Nat) (H':Hp),(d:Int)<m→But p H H'→PkAt H' p k→Q (.int (d:Int)) H'
theorem ue:FnScope ["_law_pack_here","_law_many","_law_digit"] ["_law_pack_here","_law_many"] (ar tu):=⟨rfl,rfl,rfl,by decide +kernel,rfl,by decide +kernel,by decide +kernel⟩
theorem zB (F:Fun K "_law_take" "_law_take" tu f fd) (B:Blt mg):FnOk P w K mg base CX0 1 f fd ["_law_pack_here","_law_many"] gH:=by
 refine F.ok ue (fun vs H Q E h=>?_) (fun cdv A outer s H vs Q E hr h=>?_)
 ·obtain ⟨p,k,m,rfl,_⟩:=h
  rfl
 obtain ⟨p,k,m,rfl,⟨x,hp⟩,hk,m1,m2,q⟩:=h
 have fin:∀ (d:Int) (H':Hp),0≤d→d<m→But p H H'→PkAt H' p k→Q (.int d) H':=fun d H' h0 h1 b pk=>by
  have:=q d.toNat H' (by omega) b pk
  rw [show ((d.toNat:Nat):Int)=d by omega] at this
  exact this
 refine ⟨_,(af (aP (bQ (e8 eV lI ak (av aE (pv 0) ak (fun _ _=>rfl)) (aV BC ak ak)))
  (af (j3 (ax qR rfl B.divmod_ PyProof.Rows.boot_divmod (aa (av aE (pv 0) ak (fun _ _=>rfl)) (aa (pv 1) ae))) (eR rfl (aZ (oI (pv 0) ak set_list) (aZ (ay (i:=2) ue.nd rfl (Or.inl rfl)) dy))))
  (ao (au (pv 2))))
  aw)
  (af (j3 (aV l7 (aV bP (aV bP (aV nk (av aE (pv 0) ak (fun _ _=>rfl)) ak) (aV nk (av aE (pv 0) ak (fun _ _=>rfl)) ak)) ak) ak) (oI (pv 0) ak set_list))
  (ao (au (aV l7 (aV AO (aV nk (av aE (pv 0) ak (fun _ _=>rfl)) (aV bP (aV l7 (av aE (pv 0) ak (fun _ _=>rfl)) ak) ak)) ak) (pv 1)))))),?_⟩
 have yes:∀ T,H T=none→Q (.int (x % m)) (upd (upd H T (.tup [.int (x / m),.int (x % m)])) p (.lst [.int (x / m),.int (k:Int)])):=fun T hT =>
  fin _ _ (Int.emod_nonneg _ (by omega)) (Int.emod_lt_of_pos _ (by omega)) ((Same.but (aq hT _)).upd _) ⟨_,ah⟩
 have digits:∀ T,H T=none→(upd H T (.tup [.int (x / m),.int (x % m)])) p=some (.lst [.int x,.int (k:Int)]):=fun T hT=>aq hT _ _ _ hp
 refine ⟨_,rfl,p,_,_,_,rfl,rfl,SqL.of hp,rfl,_,_,rfl,rfl,_,rfl,?_⟩
 refine cb (fun c0=>?_) (fun c0=>?_)
 ·have x0:0≤x:=of_decide_eq_true c0
  refine ⟨_,_,rfl,rfl,⟨by decide,by decide,by decide⟩,_,_,rfl,rfl,_,rfl,?_⟩
  by_cases hx:x<(10:Int) ^ (Int.toNat 18)
  ·rw [decide_eq_true hx]
   refine bg ?_
   have hx':x<1000000000000000000:=hx
   refine ⟨_,rfl,p,_,_,_,rfl,rfl,SqL.of hp,rfl,_,_,rfl,rfl,.inl ⟨by omega,by omega⟩,_,rfl,p,_,_,_,rfl,rfl,SqL.of hp,rfl,_,_,rfl,rfl,.inr ⟨by decide,by decide⟩,_,_,rfl,rfl,_,_,rfl,rfl,_,_,rfl,rfl,(show (0:Int)<16777213 by decide),_,rfl,p,_,_,_,rfl,rfl,hp,rfl,?_⟩
   have y0:=Int.emod_nonneg (x * 742939+(k:Int) * 65063+40503) (show (16777213:Int)≠0 by decide)
   have y1:=Int.emod_lt_of_pos (x * 742939+(k:Int) * 65063+40503) (show (0:Int)<16777213 by decide)
   dsimp only
   generalize (x * 742939+(k:Int) * 65063+40503) % 16777213=y at y0 y1 ⊢
   have hp2:(upd H p (.lst [.int y,.int (k:Int)])) p=some (.lst [.int y,.int (k:Int)]):=ah
   refine ⟨_,rfl,p,_,_,_,rfl,rfl,SqL.of hp2,rfl,_,rfl,p,_,_,_,rfl,rfl,SqL.of hp2,rfl,_,_,rfl,rfl,(show (0:Int)<4093 by decide),_,_,rfl,rfl,_,_,rfl,rfl,.inl ⟨by omega,by omega⟩,_,_,rfl,rfl,⟨by decide,by decide⟩,_,rfl,_,_,rfl,rfl,(show (0:Int)<m by omega),?_⟩
   exact fin _ _ (Int.emod_nonneg _ (by omega)) (Int.emod_lt_of_pos _ (by omega)) ((But.refl p H).upd _) ⟨_,hp2⟩
  ·rw [decide_eq_false hx]
   refine bc ?_
   refine ⟨_,rfl,p,_,_,_,rfl,rfl,SqL.of hp,rfl,_,rfl,_,_,rfl,⟨by omega,by omega⟩,fun T hT=>?_⟩
   refine ⟨T,_,rfl,SqT.of ah,rfl,_,_,rfl,_,rfl,p,_,_,_,rfl,rfl,digits T hT,rfl,_,_,rfl,rfl,?_⟩
   exact ⟨_,rfl,yes T hT⟩
 ·refine ⟨_,rfl,bc ?_⟩
  refine ⟨_,rfl,p,_,_,_,rfl,rfl,SqL.of hp,rfl,_,rfl,_,_,rfl,⟨by omega,by omega⟩,fun T hT=>?_⟩
  refine ⟨T,_,rfl,SqT.of ah,rfl,_,_,rfl,_,rfl,p,_,_,_,rfl,rfl,digits T hT,rfl,_,_,rfl,rfl,?_⟩
  exact ⟨_,rfl,yes T hT⟩
end
end K81
namespace K81
open PySem L2
structure GoodNm (ahead names:List Str):Prop where
 nd:names.Nodup
 fr:∀ x∈names,x∉ahead∧x∉four
 ln:∀ x∈names,1≤x.length∧x.length≤8
 lw:∀ x∈names,iJ x
theorem wa (n:Nat) (h:n<26):∃ c,atI bu.cps.toList (n:Int)=some c∧c∈bu.cps.toList:=⟨_,a9 (List.getElem?_eq_getElem (by rw [dQ]; exact h)),List.getElem_mem _⟩
theorem zu (n:Nat) (c:Nat):(List.replicate n (⟨#[c]⟩:Str).cps.toList).flatten=List.replicate n c:=by
 induction n with
 | zero=>rfl
 | succ n ih=>rw [List.replicate_succ,List.flatten_cons,ih]; rfl
theorem sF:∀ x∈four,3≤x.length∧¬ (x.cps.toList[0]?=x.cps.toList[1]?∧x.cps.toList[1]?=x.cps.toList[2]?):=by decide +kernel
theorem gp:∀ {names:List Str},(∀ (i j:Nat) z,names[i]?=some z→names[j]?=some z→i=j)→names.Nodup
 | [],_=>.nil
 | x::r,h=>List.nodup_cons.mpr ⟨fun hm=>by
   obtain ⟨j,hj⟩:=List.getElem?_of_mem hm
   have:=h 0 (j+1) x rfl (by rw [List.getElem?_cons_succ]; exact hj)
   omega,gp fun i j z h1 h2=>by
   have:=h (i+1) (j+1) z (by rw [List.getElem?_cons_succ]; exact h1) (by rw [List.getElem?_cons_succ]; exact h2)
   omega⟩
theorem xT {names:List Str} {c:Nat} (hm:names.length≤6) (hc:c∈bu.cps.toList) (h:∀ (i:Nat) z,names[i]?=some z→z.cps.toList=List.replicate (i+1) c):GoodNm [] names:=by
 have hlen:∀ (i:Nat) z,names[i]?=some z→z.length=i+1:=fun i z hz=>by
  rw [← bj z,h i z hz,List.length_replicate]
 refine ⟨gp fun i j z h1 h2=>by have a:=hlen i z h1; have b:=hlen j z h2; omega,fun x hx=>⟨fun q=>(nomatch q),fun q=>?_⟩,fun x hx=>?_,fun x hx=>?_⟩
 ·obtain ⟨i,hi⟩:=List.getElem?_of_mem hx
  obtain ⟨q1,q2⟩:=sF x q
  have hl:=hlen i x hi
  refine q2 ?_
  rw [h i x hi,List.getElem?_replicate,List.getElem?_replicate,List.getElem?_replicate,if_pos (by omega),if_pos (by omega),if_pos (by omega)]
  exact ⟨rfl,rfl⟩
 ·obtain ⟨i,hi⟩:=List.getElem?_of_mem hx
  have hl:=hlen i x hi
  have:=(List.getElem?_eq_some_iff.mp hi).1
  omega
 ·obtain ⟨i,hi⟩:=List.getElem?_of_mem hx
  intro d hd
  rw [h i x hi] at hd
  rw [(List.mem_replicate.mp hd).2]
  exact hc
def cM (stem:Str) (at_:Nat) (c:Nat):Str:=(Txt.slice stem none (some (at_:Int))++(⟨#[c]⟩:Str))++Txt.slice stem (some (at_:Int)) none
def l6 (stem:Str) (at_:Nat) (c:Nat):Str:=if cM stem at_ c∈four then cM stem at_ c++"q" else cM stem at_ c
theorem iC {stem:Str} {at_ c:Nat} (h:at_≤stem.length):(cM stem at_ c).length=stem.length+1:=by
 unfold cM
 rw [aQ,aQ,qj,lN,jO]
 omega
theorem oF {stem:Str} {at_ c d:Nat} (h:cM stem at_ c=cM stem at_ d):c=d:=by
 have e:=congrArg (fun x:Str=>x.cps.toList) h
 dsimp only [cM] at e
 rw [cF,cF,cF,cF,List.append_assoc,List.append_assoc] at e
 exact List.head_eq_of_cons_eq (List.append_cancel_left e)
theorem nM {stem:Str} {at_ c:Nat} (h:iJ stem) (hc:c∈bu.cps.toList):iJ (cM stem at_ c):=k7 (k7 (mU h _ _) (xx hc)) (mU h _ _)
theorem C5:iJ ("q":Str):=by
 unfold iJ
 decide +kernel
theorem BN:∀ x∈four,(x++("q":Str))∉four:=by decide +kernel
theorem fe (stem:Str) (at_ c:Nat):cM stem at_ c∈four∧l6 stem at_ c=cM stem at_ c++"q"∨cM stem at_ c∉four∧l6 stem at_ c=cM stem at_ c:=by
 unfold l6
 by_cases h:cM stem at_ c∈four
 ·exact .inl ⟨h,if_pos h⟩
 ·exact .inr ⟨h,if_neg h⟩
theorem jX (z:Str):(z++("q":Str)).length=z.length+1:=aQ z "q"
theorem wW {stem:Str} {at_ c d:Nat} (ha:at_≤stem.length) (h:l6 stem at_ c=l6 stem at_ d):c=d:=by
 have l1:=iC (c:=c) ha
 have l2:=iC (c:=d) ha
 rcases fe stem at_ c with ⟨_,e1⟩ | ⟨_,e1⟩ <;> rcases fe stem at_ d with ⟨_,e2⟩ | ⟨_,e2⟩
 ·rw [e1,e2] at h
  have e:(cM stem at_ c++("q":Str)).cps.toList=(cM stem at_ d++("q":Str)).cps.toList:=congrArg (fun x:Str=>x.cps.toList) h
  rw [cF,cF] at e
  exact oF (cZ (List.append_cancel_right e))
 ·rw [e1,e2] at h
  have:=congrArg Str.length h
  rw [jX] at this
  omega
 ·rw [e1,e2] at h
  have:=congrArg Str.length h
  rw [jX] at this
  omega
 ·rw [e1,e2] at h
  exact oF h
theorem BU {n m:Int} (h0:0≤n) (h1:n<26) (h2:0≤m) (h3:m<26) (h:sg n=sg m):n=m:=by
 have a1:n.toNat<bu.cps.toList.length:=by rw [dQ]; omega
 have a2:m.toNat<bu.cps.toList.length:=by rw [dQ]; omega
 unfold sg at h
 rw [List.getD_eq_getElem?_getD,List.getD_eq_getElem?_getD,List.getElem?_eq_getElem a1,List.getElem?_eq_getElem a2] at h
 have:=(List.getElem?_inj a1 ny).mp ((List.getElem?_eq_getElem a1).trans ((congrArg some h).trans (List.getElem?_eq_getElem a2).symm))
 omega
theorem wu {names:List Str} {stem:Str} {at_ d1:Nat} (hm:names.length≤6) (ha:at_≤stem.length) (hs:stem.length≤5) (hl:iJ stem) (h:∀ (i:Nat) z,names[i]?=some z→z=l6 stem at_ (sg (((d1:Int)+5 * (i:Int)) % 26))):GoodNm [] names:=by
 have rg:∀ i:Nat,0≤((d1:Int)+5 * (i:Int)) % 26∧((d1:Int)+5 * (i:Int)) % 26<26:=fun i=>⟨Int.emod_nonneg _ (by decide),Int.emod_lt_of_pos _ (by decide)⟩
 have sgm:∀ i:Nat,sg (((d1:Int)+5 * (i:Int)) % 26)∈bu.cps.toList:=fun i=>yZ (rg i).1 (rg i).2
 have lr:∀ c,(cM stem at_ c).length=stem.length+1:=fun c=>iC ha
 refine ⟨gp fun i j z h1 h2=>?_,fun x hx=>⟨fun q=>(nomatch q),fun q=>?_⟩,fun x hx=>?_,fun x hx=>?_⟩
 ·have i6:=(List.getElem?_eq_some_iff.mp h1).1
  have j6:=(List.getElem?_eq_some_iff.mp h2).1
  have e:=wW ha ((h i z h1).symm.trans (h j z h2))
  have e2:=BU (rg i).1 (rg i).2 (rg j).1 (rg j).2 e
  omega
 ·obtain ⟨i,hi⟩:=List.getElem?_of_mem hx
  rw [h i x hi] at q
  rcases fe stem at_ (sg (((d1:Int)+5 * (i:Int)) % 26)) with ⟨e0,e1⟩ | ⟨e0,e1⟩
  ·rw [e1] at q
   exact BN _ e0 q
  ·rw [e1] at q
   exact e0 q
 ·obtain ⟨i,hi⟩:=List.getElem?_of_mem hx
  rw [h i x hi]
  rcases fe stem at_ (sg (((d1:Int)+5 * (i:Int)) % 26)) with ⟨e0,e1⟩ | ⟨e0,e1⟩
  ·rw [e1,jX,lr]
   omega
  ·rw [e1,lr]
   omega
 ·obtain ⟨i,hi⟩:=List.getElem?_of_mem hx
  rw [h i x hi]
  rcases fe stem at_ (sg (((d1:Int)+5 * (i:Int)) % 26)) with ⟨e0,e1⟩ | ⟨e0,e1⟩
  ·rw [e1]
   exact k7 (nM hl (sgm i)) C5
  ·rw [e1]
   exact nM hl (sgm i)
section
variable {P:Program} {w:World} {K:PySem.W.Frag} {mg:Str→Option Value} {base:Heap} {f:Addr} {fd:FuncData}
def jA:Sp:=fun vs H Q _=>∃ (p:Addr) (k m:Nat),vs=[.ref p,.int (m:Int)]∧PkAt H p k∧k≤1000∧m≤6∧∀ (H':Hp) (l:Addr) (names:List Str),But p H H'→PkAt H' p k→H l=none→H' l=some (.lst (names.map V.str))→names.length=m→GoodNm [] names→Q (.ref l) H'
theorem cL:FnScope ["_law_pack_here","_law_many","_law_letters","_law_first","_law_stem","_law_at","_law_names_here","_law_k","_law_name"] ["_law_pack_here","_law_many"] (ar lJ):=⟨rfl,rfl,rfl,by decide +kernel,rfl,by decide +kernel,by decide +kernel⟩
theorem vE (F:Fun K "_law_names" "_law_names" lJ f fd) (B:Blt mg) (C_take:Cal P w K mg base 1 "_law_take" ["_law_pack_here","_law_many"] gH):FnOk P w K mg base CX0 2 f fd ["_law_pack_here","_law_many"] jA:=by
 refine F.ok cL (fun vs H Q E h=>?_) (fun cdv A outer s H vs Q E hr h=>?_)
 ·obtain ⟨p,k,m,rfl,_⟩:=h
  rfl
 obtain ⟨p,k,m,rfl,pk,hk,hm,q⟩:=h
 refine ⟨_,(af (aB (i:=2) cL.nd rfl (Or.inr rfl) aG)
  (af (aB (i:=3) cL.nd rfl (Or.inr rfl) (aH C_take hr (by decide) rfl (aa (pv 0) (aa ak ae))))
  (af (aP (az bN (aH C_take hr (by decide) rfl (aa (pv 0) (aa ak ae))) ak (aI _))
  (ao (au (bz ["_law_k"] ["_law_letters","_law_first"] [2,3] rfl (bU rfl B.range_ (aa (pv 1) ae)) (fun _ _ _ _ _=>(ay (i:=0) (show List.Nodup [("_law_k":Str),("_law_letters":Str),("_law_first":Str)] by decide +kernel) rfl (Or.inl rfl))) (fun _ _ _ _ _=>bp) (fun _ _ _ _ _=>(aV qJ (av oP (pv 1) (pv 2) (fun _ _=>rfl)) (aV bP (pv 0) ak))))))
  aw)
  (af (aB (i:=4) cL.nd rfl (Or.inl rfl) (cw PySem.F.plainAttrs_str PySem.F.slot_str_join PySem.F.type_str_join eI aG (aa (bz ["_law_k"] ["_law_letters","_law_pack_here"] [2,0] rfl (bU rfl B.range_ (aa (aH C_take hr (by decide) rfl (aa (pv 0) (aa ak ae))) ae)) (fun _ _ _ _ _=>(ay (i:=0) (show List.Nodup [("_law_k":Str),("_law_letters":Str),("_law_pack_here":Str)] by decide +kernel) rfl (Or.inl rfl))) (fun _ _ _ _ _=>bp) (fun _ _ _ _ _=>(av oP (pv 1) (aH C_take hr (by decide) rfl (aa (pv 2) (aa ak ae))) (fun _ _=>rfl)))) ae)))
  (af (aB (i:=5) cL.nd rfl (Or.inl rfl) (aH C_take hr (by decide) rfl (aa (pv 0) (aa (aV bP (ax eG rfl B.len_ PySem.boot_len (aa (pv 4) ae)) ak) ae))))
  (af (aB (i:=6) cL.nd rfl (Or.inl rfl) (bZ ae))
  (af (cO PassesOwn.never rfl (bU rfl B.range_ (aa (pv 1) ae)) (ay (i:=7) cL.nd rfl (Or.inl rfl))
  (af (aB (i:=8) cL.nd rfl (Or.inl rfl) (aV bq (aV bq (d7 tP (pv 4) fz (fD (pv 5))) (av oP (pv 2) (aV l7 (aV bP (pv 3) (aV nk ak (pv 7))) ak) (fun _ _=>rfl))) (d7 tP (pv 4) (fD (pv 5)) fz)))
  (fT (aP (az jC (pv 8) (bZ (aa aG (aa aG (aa aG (aa aG ae))))) rfl)
  (ao (aB (i:=8) cL.nd rfl (Or.inl rfl) (aV bq (pv 8) aG)))
  aw)
  (ao (bL (cw PySem.F.plainAttrs_list PySem.F.slot_list_append PySem.F.type_list_append cK (pv 6) (aa (pv 8) ae)))))))
  (ao (au (pv 6)))))))))),?_⟩
 refine ⟨_,rfl,p,k,_,rfl,pk,hk,by decide,by decide,fun d1 H1 hd1 b1 pk1=>?_⟩
 refine ⟨_,rfl,p,k,_,rfl,pk1,hk,by decide,by decide,fun d2 H2 hd2 b2 pk2=>?_⟩
 have b02:=b1.trans b2
 obtain ⟨c1,hc1,lc1⟩:=wa d1 (by omega)
 refine ⟨rfl,_,rfl,cb (fun _=>?_) (fun _=>?_)⟩
 ·refine ⟨_,rfl,_,rfl,by omega,by omega,fun D hD=>?_⟩
  refine fh (lo:=0) (n:=((m:Nat):Int).toNat) (fun j ys H3=>∃ zs:List Str,Same H2 H3∧ys=zs.map V.str∧zs.length=j∧∀ (i:Nat) z,zs[i]?=some z→z.cps.toList=List.replicate (i+1) c1) ⟨[],aq hD _,rfl,rfl,fun i z h=>by cases h⟩ ?_ ?_
  ·rintro j ys H3 hj ⟨zs,s3,rfl,hz,hzl⟩ hD3
   rw [Int.zero_add]
   refine ⟨rfl,aW ?_⟩
   refine ⟨_,rfl,_,rfl,bu,_,_,rfl,rfl,(by rw [gJ]; decide),hc1,_,rfl,_,_,rfl,rfl,_,_,rfl,rfl,by omega,by omega,(by show 1≤100; decide),fun r hr'=>?_⟩
   refine ⟨_,hD3,?_,_,⟨zs++[r],s3.upd hD _,?_,?_,fun i z hz'=>?_⟩,ah⟩
   ·rw [List.length_map]
    exact aJ (by omega)
   ·rw [List.map_append]
    rfl
   ·rw [List.length_append,hz]
    rfl
   ·rcases Nat.lt_or_ge i zs.length with h | h
    ·rw [List.getElem?_append_left h] at hz'
     exact hzl i z hz'
    ·rw [List.getElem?_append_right h] at hz'
     have h0:i - zs.length=0:=by
      have:=(List.getElem?_eq_some_iff.mp hz').1
      simp at this
      omega
     rw [h0] at hz'
     have e:z=r:=(Option.some.inj hz').symm
     rw [e,hr',zu,show ((j:Int)+1).toNat=i+1 by omega]
  ·rintro ys H3 ⟨zs,s3,rfl,hz,hzl⟩ hD3
   obtain ⟨x2,hx2⟩:=pk2
   obtain ⟨x0,hx0⟩:=pk
   refine q H3 D zs (b02.trans (Same.but s3)) ⟨x2,s3 _ _ hx2⟩ (b02.free hx2 hD) hD3 (by omega) (xT (by omega) lc1 hzl)
 ·refine ⟨rfl,_,rfl,p,k,_,rfl,pk2,hk,by decide,by decide,fun d3 H3 hd3 b3 pk3=>?_⟩
  refine ⟨_,rfl,by omega,by omega,fun D hD=>?_⟩
  have Dp:D≠p:=fun e=>by
   obtain ⟨x,hx⟩:=pk3
   rw [e,hx] at hD
   cases hD
  refine fh (lo:=0) (n:=((d3:Nat):Int).toNat) (fun j ys H4=>∃ cs:List Int,But p H3 H4∧PkAt H4 p k∧ys=(ones cs).map V.str∧cs.length=j∧Low cs) ⟨[],Same.but (aq hD _),?_,rfl,rfl,fun _ h=>(nomatch h)⟩ ?_ ?_
  ·obtain ⟨x,hx⟩:=pk3
   exact ⟨x,aq hD _ _ _ hx⟩
  ·rintro j ys H4 hj ⟨cs,b4,pk4,rfl,hcs,low⟩ hD4
   refine ⟨rfl,aW ?_⟩
   refine ⟨_,rfl,_,rfl,p,k,_,rfl,pk4,hk,by decide,by decide,fun d4 H5 hd4 b5 pk5=>?_⟩
   have hD5:=b5 _ _ Dp hD4
   refine ⟨bu,_,_,rfl,rfl,(by rw [gJ]; decide),A8 (n:=(d4:Int)) (by omega) (by omega),_,hD5,?_,_,⟨cs++[(d4:Int)],?_,?_,?_,?_,?_⟩,ah⟩
   ·rw [List.length_map]
    unfold ones
    rw [List.length_map]
    exact aJ (by omega)
   ·exact fun a o n e=>by
     have n':a≠D:=fun z=>by rw [z] at e; rw [e] at hD; cases hD
     rw [aC n']
     exact (b4.trans b5) a o n e
   ·obtain ⟨x,hx⟩:=pk5
    exact ⟨x,by rw [aC (Ne.symm Dp)]; exact hx⟩
   ·unfold ones
    rw [List.map_append,List.map_append]
    rfl
   ·rw [List.length_append,hcs]
    rfl
   ·intro n hn
    rcases List.mem_append.mp hn with h | h
    ·exact low n h
    ·rw [List.mem_singleton.mp h]
     omega
  rintro ys H4 ⟨cs,b4,pk4,rfl,hcs,low⟩ hD4
  refine ⟨_,D,ones cs,rfl,rfl,hD4,zH (by omega),?_⟩
  have hsl:(Txt.join (Str.ofString "") (ones cs)).length≤5:=by
   show (Txt.join Str.empty (ones cs)).length≤5
   rw [rj]
   omega
  have hlw:iJ (Txt.join (Str.ofString "") (ones cs)):=uQ low
  generalize Txt.join (Str.ofString "") (ones cs)=stem at hsl hlw ⊢
  have b04:=b02.trans (b3.trans b4)
  refine ⟨_,rfl,_,rfl,stem,rfl,(by rw [sizeLine_eq]; omega),_,_,rfl,rfl,p,k,_,rfl,pk4,hk,by omega,by omega,fun at_ H5 hat b5 pk5=>?_⟩
  refine ⟨(by show 0≤sizeLine; decide),fun l hl=>?_⟩
  have b05:=b04.trans b5
  have l0:H l=none:=by
   obtain ⟨x,hx⟩:=pk5
   exact b05.free hx hl
  have lp:l≠p:=fun e=>by
   obtain ⟨x,hx⟩:=pk5
   rw [e,hx] at hl
   cases hl
  have s6:=aq hl (.lst [])
  refine ⟨_,rfl,_,rfl,by omega,by omega,?_⟩
  refine dh (lo:=0) (n:=((m:Nat):Int).toNat) (fun j σ H6=>∃ (o7 o8:Option V) (zs:List Str),σ=[some (.ref p),some (.int (m:Int)),some (.str bu),some (.int (d1:Int)),some (.str stem),some (.int (at_:Int)),some (.ref l),o7,o8]∧Same H5 H6∧H6 l=some (.lst (zs.map V.str))∧zs.length=j∧∀ (i:Nat) z,zs[i]?=some z→z=l6 stem at_ (sg (((d1:Int)+5 * (i:Int)) % 26)))
   ⟨none,none,[],rfl,s6,ah,rfl,fun i z h=>by cases h⟩ ?_ ?_
  ·rintro j σ H6 hj ⟨o7,o8,zs,rfl,s56,hl6,hzs,hzl⟩
   rw [Int.zero_add]
   have g1:=Int.emod_nonneg ((d1:Int)+5 * (j:Int)) (show (26:Int)≠0 by decide)
   have g2:=Int.emod_lt_of_pos ((d1:Int)+5 * (j:Int)) (show (0:Int)<26 by decide)
   have n1:=qj stem at_
   have n2:=lN stem at_
   refine ⟨_,rfl,_,rfl,_,rfl,stem,rfl,(by rw [sizeLine_eq]; omega),_,rfl,_,rfl,_,rfl,_,_,rfl,rfl,.inl ⟨by decide,by decide⟩,_,_,rfl,rfl,_,_,rfl,rfl,(show (0:Int)<26 by decide),bu,_,_,rfl,rfl,(by rw [gJ]; decide),A8 g1 g2,_,_,rfl,rfl,(by rw [n1,jO,sizeLine_eq]; omega),_,rfl,_,rfl,_,rfl,stem,rfl,(by rw [sizeLine_eq]; omega),_,_,rfl,rfl,(by rw [aQ,n1,n2,jO,sizeLine_eq]; omega),?_⟩
   refine ⟨fun σ H7=>σ=[some (.ref p),some (.int (m:Int)),some (.str bu),some (.int (d1:Int)),some (.str stem),some (.int (at_:Int)),some (.ref l),some (.int (j:Int)),some (.str (l6 stem at_ (sg (((d1:Int)+5 * (j:Int)) % 26))))]∧Same H6 H7,?_,?_⟩
   ·refine ⟨_,rfl,(by show 4≤sizeLine; decide),fun t ht=>?_⟩
    have s7:=aq ht (.lst [.str "all",.str "any",.str "bell",.str "none"])
    refine ⟨t,_,rfl,.inl (SqL.of ah),rfl,rfl,_,rfl,?_⟩
    have ein:inV (V.str (cM stem at_ (sg (((d1:Int)+5 * (j:Int)) % 26)))) [V.str "all",V.str "any",V.str "bell",V.str "none"]=decide (cM stem at_ (sg (((d1:Int)+5 * (j:Int)) % 26))∈four):=jg _ four
    refine cb (fun c=>?_) (fun c=>?_)
    ·have c':cM stem at_ (sg (((d1:Int)+5 * (j:Int)) % 26))∈four:=of_decide_eq_true (ein.symm.trans c)
     refine ⟨_,rfl,_,_,rfl,rfl,(by rw [sizeLine_eq]; show (cM stem at_ _).length+1≤_; rw [iC (by omega)]; omega),?_,s7⟩
     unfold l6
     rw [if_pos c']
     rfl
    ·have c':cM stem at_ (sg (((d1:Int)+5 * (j:Int)) % 26))∉four:=fun q=>c (ein.trans (decide_eq_true q))
     refine ⟨?_,s7⟩
     unfold l6
     rw [if_neg c']
     rfl
   rintro σ H7 ⟨rfl,s7⟩
   have hl7:=s7 _ _ hl6
   refine ⟨_,rfl,.inl ⟨rfl,_,SqL.of hl7⟩,_,rfl,l,_,_,rfl,rfl,hl7,?_,?_⟩
   ·rw [List.length_map]
    exact aJ (by omega)
   ·refine ⟨_,_,zs++[l6 stem at_ (sg (((d1:Int)+5 * (j:Int)) % 26))],rfl,(s56.trans s7).upd hl _,?_,?_,fun i z hy=>?_⟩
    ·rw [List.map_append]
     exact ah
    ·rw [List.length_append,hzs]
     rfl
    ·rcases Nat.lt_or_ge i zs.length with h | h
     ·rw [List.getElem?_append_left h] at hy
      exact hzl i z hy
     ·rw [List.getElem?_append_right h] at hy
      have h0:i - zs.length=0:=by
       have:=(List.getElem?_eq_some_iff.mp hy).1
       simp at this
       omega
      rw [h0] at hy
      have ei:i=j:=by omega
      rw [ei]
      exact (Option.some.inj hy).symm
  ·rintro σ H6 ⟨o7,o8,zs,rfl,s56,hl6,hzs,hzl⟩
   obtain ⟨x,hx⟩:=pk5
   exact ⟨_,rfl,q H6 l zs (b05.trans (Same.but s56)) ⟨x,s56 _ _ hx⟩ l0 hl6 (by omega) (wu (by omega) (by omega) hsl hlw hzl)⟩
def mW:Sp:=fun vs H Q _=>∃ (p:Addr) (k m:Nat),vs=[.ref p,.int 2,.int (m:Int)]∧PkAt H p k∧k≤1000∧m≤8∧∀ (H':Hp) (r:RW),But p H H'→PkAt H' p k→GoodR m r→Q (rwV r) H'
theorem qQ:FnScope ["_law_pack_here","_law_sort","_law_many","_law_pick"] ["_law_pack_here","_law_sort","_law_many"] (ar pL):=⟨rfl,rfl,rfl,by decide +kernel,rfl,by decide +kernel,by decide +kernel⟩
theorem zf (F:Fun K "_law_rule" "_law_rule" pL f fd) (B:Blt mg) (C_take:Cal P w K mg base 1 "_law_take" ["_law_pack_here","_law_many"] gH):FnOk P w K mg base CX0 2 f fd ["_law_pack_here","_law_sort","_law_many"] mW:=by
 refine F.ok qQ (fun vs H Q E h=>?_) (fun cdv A outer s H vs Q E hr h=>?_)
 ·obtain ⟨p,k,m,rfl,_⟩:=h
  rfl
 obtain ⟨p,k,m,rfl,pk,hk,hm,q⟩:=h
 refine ⟨_,(af (aP (az bN (pv 1) ak (aI _))
  bf
  aw)
  (af (aP (az bN (pv 1) ak (aI _))
  bf
  aw)
  (af (aB (i:=3) qQ.nd rfl (Or.inl rfl) (aH C_take hr (by decide) rfl (aa (pv 0) (aa (aV bP (pv 2) ak) ae))))
  (ao (au (av aE (aV sv (bZ (aa aG (aa aG ae))) (bz ["_law_k"] [] [] rfl (bU rfl B.range_ (aa (pv 2) ae)) (fun _ _ _ _ _=>(ay (i:=0) (show List.Nodup [("_law_k":Str)] by decide +kernel) rfl (Or.inl rfl))) (fun _ _ _ _ _=>bp) (fun _ _ _ _ _=>(aV bP (pv 0) ak)))) (pv 3) (fun _ _=>rfl))))))),?_⟩
 refine ⟨_,rfl,rfl,_,rfl,bg ?_⟩
 refine ⟨_,rfl,rfl,_,rfl,bg ?_⟩
 refine ⟨_,rfl,_,rfl,_,_,rfl,rfl,p,k,_,rfl,pk,hk,by omega,by omega,fun d H1 hd b1 pk1=>?_⟩
 refine ⟨(by show 2≤sizeLine; decide),fun l hl=>?_⟩
 have s2:=aq hl (.lst [.str "all",.str "any"])
 have hl2:(upd H1 l (.lst [.str "all",.str "any"])) l=some (.lst [.str "all",.str "any"]):=ah
 generalize upd H1 l (.lst [.str "all",.str "any"])=H2 at s2 hl2 ⊢
 refine ⟨_,rfl,_,rfl,by omega,by omega,fun D hD=>?_⟩
 refine fh (lo:=0) (n:=((m:Nat):Int).toNat) (fun j ys H3=>Same H2 H3∧ys=(List.range j).map fun i:Nat=>V.int ((i:Int)+1)) ⟨aq hD _,rfl⟩ ?_ ?_
 ·rintro j ys H3 hj ⟨s3,rfl⟩ hD3
  rw [Int.zero_add]
  refine ⟨rfl,aW ?_⟩
  refine ⟨_,rfl,_,_,rfl,rfl,_,hD3,?_,_,⟨s3.upd hD _,?_⟩,ah⟩
  ·rw [List.length_map,List.length_range]
   exact aJ (by omega)
  ·rw [List.range_succ,List.map_append]
   rfl
 rintro ys H3 ⟨s3,rfl⟩ hD3
 rw [Int.toNat_natCast] at hD3
 refine ⟨l,D,_,_,rfl,rfl,s3 _ _ hl2,hD3,?_,fun L hL=>?_⟩
 ·rw [List.length_map,List.length_range,sizeLine_eq]
  show 2+m≤_
  omega
 have s4:=(s2.trans s3).trans (aq hL (.lst ([.str "all",.str "any"]++(List.range m).map fun i:Nat=>V.int ((i:Int)+1))))
 obtain ⟨r,gr,hr'⟩:∃ r:RW,GoodR m r∧([V.str "all",V.str "any"]++(List.range m).map fun i:Nat=>V.int ((i:Int)+1))[d]?=some (rwV r):=by
  match d,hd with
  | 0,_=>exact ⟨.all,trivial,rfl⟩
  | 1,_=>exact ⟨.any,trivial,rfl⟩
  | e+2,h =>
   refine ⟨.num ((e:Int)+1),⟨by omega,by omega⟩,?_⟩
   show ((List.range m).map fun i:Nat=>V.int ((i:Int)+1))[e]?=_
   rw [List.getElem?_map,List.getElem?_range (by omega)]
   rfl
 refine ⟨_,rfl,L,_,_,_,rfl,rfl,SqL.of ah,a9 hr',?_⟩
 obtain ⟨x,hx⟩:=pk1
 exact q _ r (b1.trans (Same.but s4)) ⟨x,s4 _ _ hx⟩ gr
end
end K81
namespace K81
open PySem L2
theorem PkAt.same {H H':Hp} {p:Addr} {k:Nat} (s:Same H H') (h:PkAt H p k):PkAt H' p k:=by
 obtain ⟨x,hx⟩:=h
 exact ⟨x,s _ _ hx⟩
theorem PkAt.ne {H:Hp} {p l:Addr} {k:Nat} (h:PkAt H p k) (hl:H l=none):l≠p:=fun e=>by
 obtain ⟨x,hx⟩:=h
 rw [e,hx] at hl
 cases hl
theorem PkAt.tup {H H':Hp} {p:Addr} {k:Nat} (h:PkAt H p k) (b:But p H H'):oX H H':=by
 obtain ⟨x,hx⟩:=h
 exact b.tup hx
section
variable {P:Program} {w:World} {K:PySem.W.Frag} {mg:Str→Option Value} {base:Heap} {f:Addr} {fd:FuncData}
def mT:Sp:=fun vs H Q _=>∃ (p sh nl:Addr) (k m pl:Nat) (safe great:Bool) (names:List Str),vs=[.ref p,.int 2,.int (pl:Int),.ref sh]∧PkAt H p k∧k≤1000∧H sh=some (.tup [.int (m:Int),.bl safe,.bl great,.ref nl])∧H nl=some (.lst (names.map V.str))∧nl≠p∧names.length=m∧pl<m∧m≤6∧
 ∀ (H':Hp) (v:V) (b:Bell),But p H H'→PkAt H' p k→BellAt H' v b→names[pl]?=some b.name→GoodB m 0 true b→Q v H'
theorem cv:FnScope ["_law_pack_here","_law_sort","_law_place","_law_shape","_law_start","_law_listenings","_law_j","_law_many","_law_safe","_law_great","_law_names_here","_law_whom","_law_beats","_law_back"] ["_law_pack_here","_law_sort","_law_place","_law_shape"] (ar tU):=⟨rfl,rfl,rfl,by decide +kernel,rfl,by decide +kernel,by decide +kernel⟩
theorem xX (F:Fun K "_law_bell" "_law_bell" tU f fd) (B:Blt mg) (C_take:Cal P w K mg base 1 "_law_take" ["_law_pack_here","_law_many"] gH) (C_rule:Cal P w K mg base 2 "_law_rule" ["_law_pack_here","_law_sort","_law_many"] mW):FnOk P w K mg base CX0 3 f fd ["_law_pack_here","_law_sort","_law_place","_law_shape"] mT:=by
 refine F.ok cv (fun vs H Q E h=>?_) (fun cdv A outer s H vs Q E hr h=>?_)
 ·obtain ⟨p,sh,nl,k,m,pl,safe,great,names,rfl,_⟩:=h
  rfl
 obtain ⟨p,sh,nl,k,m,pl,safe,great,names,rfl,pk,hk,hsh,hnl,nlp,hnm,hpl,hm,q⟩:=h
 refine ⟨_,(af (j3 (pv 3) (eR rfl (aZ (ay (i:=7) cv.nd rfl (Or.inl rfl)) (aZ (ay (i:=8) cv.nd rfl (Or.inl rfl)) (aZ (ay (i:=9) cv.nd rfl (Or.inl rfl)) (aZ (ay (i:=10) cv.nd rfl (Or.inl rfl)) dy))))))
  (af (aB (i:=4) cv.nd rfl (Or.inl rfl) (aH C_take hr (by decide) rfl (aa (pv 0) (aa (av aE (bZ (aa ak (aa ak ae))) (aX gi rfl B.int_ PyProof.Rows.boot_int (aa (pv 9) ae)) (fun _ _=>rfl)) ae))))
  (af (aB (i:=5) cv.nd rfl (Or.inl rfl) (bZ ae))
  (af (cO PassesOwn.never rfl (bU rfl B.range_ (aa (aV bP ak (aH C_take hr (by decide) rfl (aa (pv 0) (aa (av aE (bZ (aa ak (aa ak (aa ak ae)))) (aH C_take hr (by decide) rfl (aa (pv 0) (aa ak ae))) (fun _ _=>rfl)) ae)))) ae)) (ay (i:=6) cv.nd rfl (Or.inl rfl))
  (af (aB (i:=11) cv.nd rfl (Or.inl rfl) (aH C_take hr (by decide) rfl (aa (pv 0) (aa (pv 7) ae))))
  (af (aB (i:=12) cv.nd rfl (Or.inl rfl) (aV bP ak (aH C_take hr (by decide) rfl (aa (pv 0) (aa (av aE (bZ (aa ak (aa ak ae))) (aX gi rfl B.int_ PyProof.Rows.boot_int (aa (pv 9) ae)) (fun _ _=>rfl)) ae)))))
  (af (aB (i:=13) cv.nd rfl (Or.inl rfl) (aX gi rfl B.int_ PyProof.Rows.boot_int (aa (cU y7 (aH C_take hr (by decide) rfl (aa (pv 0) (aa ak ae))) ak (aI _)) ae)))
  (fT (aP (PW.pt (me (bD (pv 8)) (jm (az Bd (pv 11) (pv 2) (aI _)))))
  (ao (aB (i:=13) cv.nd rfl (Or.inl rfl) ak))
  aw)
  (ao (bL (cw PySem.F.plainAttrs_list PySem.F.slot_list_append PySem.F.type_list_append cK (pv 5) (aa (dF (aa (pv 11) (aa (pv 12) (aa (pv 13) ae)))) ae)))))))))
  (ao (au (dF (aa (av aE (pv 10) (pv 2) (fun _ _=>rfl)) (aa (pv 4) (aa (aH C_rule hr (by decide) rfl (aa (pv 0) (aa (pv 1) (aa (ax aL rfl B.len_ PySem.boot_len (aa (pv 5) ae)) ae)))) (aa (aX cP rfl B.tuple_ PyProof.Rows.boot_tuple (aa (pv 5) ae)) ae))))))))))),?_⟩
 have pick:∀ x y:Int,1≤x→x≤2000→1≤y→y≤2000→∃ M:Int,atI [V.int x,V.int y] (if great then 1 else 0)=some (.int M)∧1≤M∧M≤2000∧(M=x∨M=y):=fun x y a b c d=>by
  cases great with
  | true=>exact ⟨y,rfl,c,d,.inr rfl⟩
  | false=>exact ⟨x,rfl,a,b,.inl rfl⟩
 refine ⟨_,rfl,sh,_,rfl,SqT.of hsh,rfl,_,_,rfl,_,_,rfl,_,_,rfl,_,_,rfl,rfl,?_⟩
 refine ⟨_,rfl,(by show 2≤sizeLine; decide),fun l1 hl1=>?_⟩
 have s1:=aq hl1 (.lst [.int 10,.int 1001])
 obtain ⟨M1,hM1,M11,M12,M13⟩:=pick 10 1001 (by decide) (by decide) (by decide) (by decide)
 refine ⟨_,rfl,.inr ⟨great,rfl,l1,_,_,_,rfl,rfl,SqL.of ah,hM1,p,k,M1,rfl,pk.same s1,hk,M11,by omega,fun st H2 hst b2 pk2=>?_⟩⟩
 have b02:But p H H2:=(Same.but s1).trans b2
 refine ⟨(by show 0≤sizeLine; decide),fun l hl=>?_⟩
 have lp:=pk2.ne hl
 have l0:H l=none:=by
  obtain ⟨x,hx⟩:=pk2
  exact b02.free hx hl
 have s3:=aq hl (.lst [])
 have hl3:(upd H2 l (.lst [])) l=some (.lst []):=ah
 have pk3:=pk2.same s3
 have b03:But p H (upd H2 l (.lst [])):=b02.trans (Same.but s3)
 generalize upd H2 l (.lst [])=H3 at s3 hl3 pk3 b03 ⊢
 refine ⟨_,rfl,(by show 3≤sizeLine; decide),fun l4 hl4=>?_⟩
 have s4:=aq hl4 (.lst [.int 3,.int 3,.int 6])
 have l4p:=pk3.ne hl4
 refine ⟨_,rfl,p,k,_,rfl,pk3.same s4,hk,by decide,by decide,fun d5 H5 hd5 b5 pk5=>?_⟩
 obtain ⟨N,hN,N1,N6⟩:∃ N:Int,atI [V.int 3,V.int 3,V.int 6] (d5:Int)=some (.int N)∧1≤N∧N≤6:=by
  match d5,hd5 with
  | 0,_=>exact ⟨3,rfl,by decide,by decide⟩
  | 1,_=>exact ⟨3,rfl,by decide,by decide⟩
  | 2,_=>exact ⟨6,rfl,by decide,by decide⟩
  | e+3,h=>omega
 refine ⟨l4,_,_,_,rfl,rfl,SqL.of (b5 _ _ l4p ah),hN,p,k,N,rfl,pk5,hk,N1,by omega,fun d6 H6 hd6 b6 pk6=>?_⟩
 refine ⟨_,_,rfl,rfl,_,rfl,by omega,by omega,?_⟩
 have b36:=(Same.but s4).trans (b5.trans b6)
 have b06:=b03.trans b36
 have hl6:=b36 _ _ lp hl3
 clear b2 s1 hl1 pk2 b02 s3 s4 b5 b6 pk3 pk5 b36 b03 hl3
 refine dh (lo:=0) (n:=((1:Int)+(d6:Int)).toNat) (fun j σ H7=>∃ (o6 o11 o12 o13:Option V) (vs:List V) (ls:List Lis),σ=[some (.ref p),some (.int 2),some (.int (pl:Int)),some (.ref sh),some (.int (st:Int)),some (.ref l),o6,some (.int (m:Int)),some (.bl safe),some (.bl great),some (.ref nl),o11,o12,o13]∧
   But p H H7∧PkAt H7 p k∧H7 l=some (.lst vs)∧Paired (LisAt H7) vs ls∧ls.length=j∧∀ x∈ls,xq m 0 true x)
  ⟨none,none,none,none,[],[],rfl,b06,pk6,hl6,.nil,rfl,fun _ h=>(nomatch h)⟩ ?_ ?_
 ·rintro j σ H7 hj ⟨o6,o11,o12,o13,vs,ls,rfl,b07,pk7,hl7,pr,hls,gl⟩
  refine ⟨_,rfl,_,rfl,p,k,_,rfl,pk7,hk,by omega,by omega,fun wh H8 hwh b8 pk8=>?_⟩
  refine ⟨_,rfl,(by show 2≤sizeLine; decide),fun l9 hl9=>?_⟩
  have s9:=aq hl9 (.lst [.int 9,.int 1000])
  obtain ⟨M2,hM2,M21,M22,M23⟩:=pick 9 1000 (by decide) (by decide) (by decide) (by decide)
  refine ⟨_,rfl,.inr ⟨great,rfl,l9,_,_,_,rfl,rfl,SqL.of ah,hM2,p,k,M2,rfl,pk8.same s9,hk,M21,by omega,fun bt H10 hbt b10 pk10=>?_⟩⟩
  refine ⟨_,_,rfl,rfl,?_⟩
  refine ⟨_,rfl,p,k,_,rfl,pk10,hk,by decide,by decide,fun bk H11 hbk b11 pk11=>?_⟩
  refine ⟨_,_,rfl,rfl,.inr ⟨_,rfl,?_⟩⟩
  have b7:But p H7 H11:=b8.trans ((Same.but s9).trans (b10.trans b11))
  have hl11:=b7 _ _ lp hl7
  have pr11:Paired (LisAt H11) vs ls:=bE (fun _ _ x=>x.mono (pk7.tup b7)) pr
  have vl:=aO pr
  refine ⟨fun σ H12=>∃ bb:Bool,σ=[some (.ref p),some (.int 2),some (.int (pl:Int)),some (.ref sh),some (.int (st:Int)),some (.ref l),some (.int (0+(j:Int))),some (.int (m:Int)),some (.bl safe),some (.bl great),some (.ref nl),some (.int (wh:Int)),some (.int (1+(bt:Int))),some (.int (if bb then 1 else 0))]∧H12=H11,?_,?_⟩
  ·refine ⟨_,rfl,_,rfl,cb (fun _=>?_) (fun _=>bg ⟨_,rfl,rfl⟩)⟩
   refine ⟨_,rfl,_,rfl,_,_,rfl,rfl,_,rfl,cb (fun _=>⟨true,rfl,rfl⟩) (fun _=>⟨_,rfl,rfl⟩)⟩
  rintro σ H12 ⟨bb,rfl,rfl⟩
  refine ⟨_,rfl,.inl ⟨rfl,_,SqL.of hl11⟩,_,rfl,_,rfl,_,rfl,(by show 3≤sizeLine; decide),fun t ht=>?_⟩
  have s12:=aq ht (.tup [.int (wh:Int),.int (1+(bt:Int)),.int (if bb then 1 else 0)])
  have ht12:(upd H12 t (.tup [.int (wh:Int),.int (1+(bt:Int)),.int (if bb then 1 else 0)])) t=some (.tup (DF ⟨wh,1+(bt:Int),bb⟩)):=ah
  have hl12:=s12 _ _ hl11
  have tl:t≠l:=iH ht12 hl12 (by intro z; cases z)
  refine ⟨l,vs,_,rfl,rfl,hl12,aJ (by omega),?_⟩
  have tS:oX H12 (upd (upd H12 t (.tup [.int (wh:Int),.int (1+(bt:Int)),.int (if bb then 1 else 0)])) l (.lst (vs++[.ref t]))):=fun b xs e=>by
   rw [aC (iH e hl11 (by intro z; cases z))]
   exact s12 _ _ e
  refine ⟨_,_,_,_,vs++[.ref t],ls++[⟨wh,1+(bt:Int),bb⟩],rfl,?_,?_,ah,?_,?_,fun x hx=>?_⟩
  ·exact fun a o n e=>by
    rw [aC (aM e l0)]
    exact s12 _ _ (b7 a o n (b07 a o n e))
  ·obtain ⟨x,hx⟩:=pk11
   exact ⟨x,by rw [aC (Ne.symm lp)]; exact s12 _ _ hx⟩
  ·exact d9 ⟨t,rfl,by rw [aC tl]; exact ht12⟩ (bE (fun _ _ x=>x.mono tS) pr11)
  ·rw [List.length_append,hls]
   rfl
  ·rcases List.mem_append.mp hx with h | h
   ·exact gl x h
   ·rw [List.mem_singleton.mp h]
    exact ⟨by show wh<m; omega,by show (1:Int)≤1+(bt:Int); omega,by show 1+(bt:Int)≤1000; omega,fun h=>(nomatch h)⟩
 ·rintro σ H7 ⟨o6,o11,o12,o13,vs,ls,rfl,b07,pk7,hl7,pr,hls,gl⟩
  have vl:=aO pr
  have en:=List.getElem?_eq_getElem (show pl<names.length by omega)
  have hnl7:=b07 _ _ nlp hnl
  refine ⟨_,rfl,_,rfl,nl,_,_,_,rfl,rfl,SqL.of hnl7,a9 (show (names.map V.str)[pl]?=some (.str names[pl]) by rw [List.getElem?_map,en]; rfl),_,rfl,_,rfl,_,rfl,_,rfl,l,_,rfl,.inl (SqL.of hl7),p,k,vs.length,rfl,pk7,hk,by omega,fun H8 r b8 pk8 gr=>?_⟩
  have hl8:=b8 _ _ lp hl7
  refine ⟨_,rfl,l,_,rfl,.inl ⟨SqL.of hl8,fun t ht=>?_⟩⟩
  refine ⟨(by show 4≤sizeLine; decide),fun x hx=>?_⟩
  have s9:=aq ht (.tup vs)
  have s10:=aq hx (.tup [.str names[pl],.int (st:Int),rwV r,.ref t])
  have s910:=s9.trans s10
  refine q _ _ ⟨names[pl],(st:Int),r,ls⟩ (b07.trans (b8.trans (Same.but s910))) (pk8.same s910) ⟨x,t,vs,rfl,ah,s10 _ _ ah,bE (fun _ _ y=>(y.mono (pk7.tup b8)).mono (Same.tup s910)) pr⟩ en ⟨by show 1≤ls.length; omega,by show ls.length≤6; omega,by show (0:Int)≤(st:Int); omega,by show (st:Int)≤1000; omega,?_,gl⟩
  rw [← vl]
  exact gr
def jE (K:PySem.W.Frag):Sp:=fun vs H Q _=>∃ (a:Addr) (ns:List Int) (k mo:Nat),vs=[.ref a,.int (k:Int),.int 2,.int (mo:Int)]∧SqL K H a (ns.map V.int)∧k≤900∧1≤mo∧mo≤6∧
 ∀ (H':Hp) (v:V) (c:List Bell),Same H H'→ChoirAt H' v c→1≤c.length→c.length≤mo→(∀ b∈c,GoodB c.length 0 true b)→(∃ names,GoodNm [] names∧c.map (·.name)=names.take c.length)→Q v H'
theorem eL:FnScope ["_law_script","_law_k","_law_sort","_law_most","_law_pack_here","_law_many","_law_safe","_law_great","_law_shape"] ["_law_script","_law_k","_law_sort","_law_most"] (ar pq):=⟨rfl,rfl,rfl,by decide +kernel,rfl,by decide +kernel,by decide +kernel⟩
theorem vc (F:Fun K "_law_choir" "_law_choir" pq f fd) (B:Blt mg) (C_pack:Cal P w K mg base 1 "_law_pack" ["_law_script","_law_k"] (kP K)) (C_take:Cal P w K mg base 1 "_law_take" ["_law_pack_here","_law_many"] gH) (C_names:Cal P w K mg base 2 "_law_names" ["_law_pack_here","_law_many"] jA)
  (C_bell:Cal P w K mg base 3 "_law_bell" ["_law_pack_here","_law_sort","_law_place","_law_shape"] mT):FnOk P w K mg base CX0 4 f fd ["_law_script","_law_k","_law_sort","_law_most"] (jE K):=by
 refine F.ok eL (fun vs H Q E h=>?_) (fun cdv A outer s H vs Q E hr h=>?_)
 ·obtain ⟨a,ns,k,mo,rfl,_⟩:=h
  rfl
 obtain ⟨a,ns,k,mo,rfl,hS,hk,mo1,mo6,q⟩:=h
 refine ⟨_,(af (aB (i:=4) eL.nd rfl (Or.inl rfl) (aH C_pack hr (by decide) rfl (aa (pv 0) (aa (pv 1) ae))))
  (af (aB (i:=5) eL.nd rfl (Or.inl rfl) (aV bP ak (aH C_take hr (by decide) rfl (aa (pv 4) (aa (pv 3) ae)))))
  (af (aB (i:=6) eL.nd rfl (Or.inl rfl) (cU y7 (aH C_take hr (by decide) rfl (aa (pv 4) (aa ak ae))) ak (aI _)))
  (af (aB (i:=7) eL.nd rfl (Or.inl rfl) (cU bN (aH C_take hr (by decide) rfl (aa (pv 4) (aa ak ae))) ak (aI _)))
  (af (aB (i:=8) eL.nd rfl (Or.inr rfl) (dF (aa (pv 5) (aa (pv 6) (aa (pv 7) (aa (aH C_names hr (by decide) rfl (aa (pv 4) (aa (pv 5) ae))) ae))))))
  (ao (au (aX cP rfl B.tuple_ PyProof.Rows.boot_tuple (aa (bz ["_law_place"] ["_law_sort","_law_shape","_law_script","_law_k"] [2,8,0,1] rfl (bU rfl B.range_ (aa (pv 5) ae)) (fun _ _ _ _ _=>(ay (i:=0) (show List.Nodup [("_law_place":Str),("_law_sort":Str),("_law_shape":Str),("_law_script":Str),("_law_k":Str)] by decide +kernel) rfl (Or.inl rfl))) (fun _ _ _ _ _=>bp) (fun _ _ _ _ _=>(aH C_bell hr (by decide) rfl (aa (aH C_pack hr (by decide) rfl (aa (pv 3) (aa (aV bP (aV bP (pv 4) ak) (pv 0)) ae))) (aa (pv 1) (aa (pv 0) (aa (pv 2) ae))))))) ae))))))))),?_⟩
 refine ⟨_,rfl,_,rfl,a,ns,k,rfl,hS,by omega,fun H1 p s1 p0 pk1=>?_⟩
 refine ⟨_,rfl,_,rfl,p,k,_,rfl,pk1,by omega,by omega,by omega,fun d H2 hd b2 pk2=>?_⟩
 refine ⟨_,_,rfl,rfl,?_⟩
 refine ⟨_,rfl,p,k,_,rfl,pk2,by omega,by decide,by decide,fun d3 H3 hd3 b3 pk3=>?_⟩
 refine ⟨_,_,rfl,rfl,?_⟩
 refine ⟨_,rfl,p,k,_,rfl,pk3,by omega,by decide,by decide,fun d4 H4 hd4 b4 pk4=>?_⟩
 refine ⟨rfl,?_⟩
 have em:(1:Int)+(d:Int)=((d+1:Nat):Int):=by omega
 dsimp only
 rw [em]
 refine ⟨_,rfl,_,rfl,_,rfl,_,rfl,_,rfl,p,k,d+1,rfl,pk4,by omega,by omega,fun H5 nl names b5 pk5 nl0 hnl hnm hnz=>?_⟩
 refine ⟨(by show 4≤sizeLine; decide),fun sh hsh=>?_⟩
 have s05:Same H H5:=(b2.trans (b3.trans (b4.trans b5))).same s1 p0
 have s6:=aq hsh (.tup [.int ((d+1:Nat):Int),.bl (decide (0<(d3:Int))),.bl (decide (V.int (d4:Int)=V.int 0)),.ref nl])
 have hsh6:(upd H5 sh (.tup [.int ((d+1:Nat):Int),.bl (decide (0<(d3:Int))),.bl (decide (V.int (d4:Int)=V.int 0)),.ref nl])) sh=some (.tup [.int ((d+1:Nat):Int),.bl (decide (0<(d3:Int))),.bl (decide (V.int (d4:Int)=V.int 0)),.ref nl]):=ah
 have hnl6:=s6 _ _ hnl
 have s06:=s05.trans s6
 generalize (upd H5 sh (.tup [.int ((d+1:Nat):Int),.bl (decide (0<(d3:Int))),.bl (decide (V.int (d4:Int)=V.int 0)),.ref nl]))=H6 at s6 hsh6 hnl6 s06 ⊢
 refine ⟨_,rfl,_,rfl,by omega,by omega,fun D hD=>?_⟩
 refine fh (lo:=0) (n:=(((d+1:Nat):Int)).toNat) (fun j ys H7=>∃ bs:List Bell,Same H6 H7∧Paired (BellAt H7) ys bs∧bs.length=j∧(∀ b∈bs,GoodB (d+1) 0 true b)∧bs.map (·.name)=names.take j) ⟨[],aq hD _,.nil,rfl,fun _ h=>(nomatch h),rfl⟩ ?_ ?_
 ·rintro j ys H7 hj ⟨bs,s7,pr,hbs,gb,gn⟩ hD7
  rw [Int.zero_add]
  refine ⟨rfl,aW ?_⟩
  have ek:(k:Int)+1+(j:Int)=((k+1+j:Nat):Int):=by omega
  refine ⟨_,rfl,_,rfl,_,_,rfl,rfl,_,rfl,_,_,rfl,rfl,a,ns,k+1+j,(by show [V.ref a,V.int ((k:Int)+1+(j:Int))]=[V.ref a,V.int ((k+1+j:Nat):Int)]; rw [ek]),(s06.trans s7).seq hS,by omega,fun H8 p' s8 p'0 pk8=>?_⟩
  have nlp:nl≠p':=fun e=>by
   have:=s7 _ _ hnl6
   rw [e,p'0] at this
   cases this
  refine ⟨_,rfl,_,rfl,_,rfl,p',sh,nl,k+1+j,d+1,j,_,_,names,rfl,pk8,by omega,s8 _ _ (s7 _ _ hsh6),s8 _ _ (s7 _ _ hnl6),nlp,hnm,by omega,by omega,fun H9 v b b9 pk9 hv hbn hgb=>?_⟩
  have s9:Same H7 H9:=b9.same s8 p'0
  have hD9:=s9 _ _ hD7
  have lp:=aO pr
  have tS:oX H9 (upd H9 D (.lst (ys++[v]))):=fun x xs e=>by
   rw [aC (iH e hD9 (by intro z; cases z))]
   exact e
  refine ⟨_,hD9,aJ (by omega),_,⟨bs++[b],(s7.trans s9).upd hD _,?_,?_,fun x hx=>?_,?_⟩,ah⟩
  ·exact d9 (hv.mono tS) (bE (fun _ _ x=>(x.mono (Same.tup s9)).mono tS) pr)
  ·rw [List.length_append,hbs]
   rfl
  ·rcases List.mem_append.mp hx with h | h
   ·exact gb x h
   ·rw [List.mem_singleton.mp h]
    exact hgb
  ·rw [List.map_append,gn,take_snoc hbn]
   rfl
 ·rintro ys H7 ⟨bs,s7,pr,hbs,gb,gn⟩ hD7
  have hbs':bs.length=d+1:=by omega
  refine ⟨D,_,rfl,.inl ⟨SqL.of hD7,fun t ht=>?_⟩⟩
  have s8:=aq ht (.tup ys)
  refine q _ _ bs (s06.trans (s7.trans s8)) ⟨t,ys,rfl,ah,bE (fun _ _ x=>x.mono (Same.tup s8)) pr⟩ (by omega) (by omega) ?_ ⟨names,hnz,by rw [gn,hbs']; rfl⟩
  rw [hbs']
  exact gb
end
end K81
namespace K81
open PySem L2
def dU:Str:="0123456789"
def ju (c:Nat):Bool:=!(Builtin.Str.occurrences dU ⟨#[c]⟩ 0 dU.length 1).isEmpty
theorem vU {c:Nat} (h:ju c=true):48≤c∧c≤57:=by
 unfold ju at h
 rcases StrLaws.occ_head dU ⟨#[c]⟩ 1 (Nat.le_refl _) with ⟨e,_⟩ | ⟨i,r,_,h2,_⟩
 ·rw [e] at h
  cases h
 ·have hm:=List.mem_of_getElem? ((StrLaws.subAt_one dU c i).mp h2)
  have all:∀ c∈dU.cps.toList,48≤c∧c≤57:=by decide +kernel
  exact all c hm
theorem wC {c:Nat} (h1:48≤c) (h2:c≤57):ju c=true:=by
 have all:∀ d,d<10→ju (48+d)=true:=by decide +kernel
 have:=all (c - 48) (by omega)
 rw [show 48+(c - 48)=c by omega] at this
 exact this
theorem qU:("0":Str)=⟨#[48]⟩:=by decide +kernel
def eC (z:Str) (m:Int):Bool:=decide (1≤z.length) && decide ((z.length:Int)≤m) && z.cps.toList.all ju && (decide (z="0") || decide (z.cps.toList[0]?≠some 48))
def kK (z:Str):Th:=if eC z 9=true then .int (PySem.NumText.digitsVal z.cps.toList:Nat) else .non
def lH (z:Str):Th:=if z="all"∨z="any" then .str z else kK z
def g5 (z:Str):Str:=if Txt.endswith z "="=true then Txt.slice z none (some (-1)) else z
def qv (z:Str):Int:=if Txt.endswith z "="=true then 0 else 1
def qT (names:List Str) (z:Str):Th :=
 if gj (.str (Txt.partition z "+").1)=true∧(Txt.partition z "+").1∈names then
  .tup [.int ((names.findIdx (fun x=>decide (x=(Txt.partition z "+").1)):Nat):Int),kK (g5 (Txt.partition z "+").2.2),.int (qv (Txt.partition z "+").2.2)]
 else .non
def gk (names:List Str) (z:Str):Th :=
 if (Txt.split z " ").length<4 then .non
 else .tup [.str ((Txt.split z " ").getD 0 Str.empty),kK ((Txt.split z " ").getD 1 Str.empty),lH ((Txt.split z " ").getD 2 Str.empty),.tup (((Txt.split z " ").drop 3).map (qT names))]
theorem oR (x y:Str):(Txt.partition x y).1.length≤x.length∧(Txt.partition x y).2.2.length≤x.length:=by
 unfold Txt.partition
 cases Builtin.Str.occurrences x y 0 x.length 1 with
 | nil=>exact ⟨Nat.le_refl _,Nat.zero_le _⟩
 | cons i r=>exact ⟨strSub_length_le ..,strSub_length_le ..⟩
theorem slice_le (x:Str) (lo hi:Option Int):(Txt.slice x lo hi).length≤x.length:=by
 rw [← bj,← bj,gm]
 unfold sX
 rw [List.length_take,List.length_drop]
 omega
theorem xP (z:Str):(g5 z).length≤z.length:=by
 unfold g5
 split
 ·exact slice_le ..
 ·exact Nat.le_refl _
section
variable {P:Program} {w:World} {K:PySem.W.Frag} {mg:Str→Option Value} {base:Heap} {f:Addr} {fd:FuncData}
def kQ:Sp:=fun vs H Q _=>∃ (z:Str) (m:Int),vs=[.str z,.int m]∧z.length≤1000∧∀ H',Same H H'→Q (.bl (eC z m)) H'
theorem AS:FnScope ["text","most_figures"] ["text","most_figures"] (ar c7):=⟨rfl,rfl,rfl,by decide +kernel,rfl,by decide +kernel,by decide +kernel⟩
theorem AN {tF:Tok} (F:Fun K "is_written_whole" "is_written_whole" c7 f fd) (B:Blt mg) (mF:mg "FIGURES"=some (.str dU tF)):FnOk P w K mg base CX0 1 f fd ["text","most_figures"] kQ:=by
 refine F.ok AS (fun vs H Q E h=>?_) (fun cdv A outer s H vs Q E hr h=>?_)
 ·obtain ⟨z,m,rfl,_⟩:=h
  rfl
 obtain ⟨z,m,rfl,hz,q⟩:=h
 refine ⟨_,(af (aP (bQ (e8 eV eV ak (ax eG rfl B.len_ PySem.boot_len (aa (pv 0) ae)) (pv 1)))
  (ao (au dj))
  aw)
  (af (aP (bQ (bD (ax (i9 rfl) rfl B.all_ PyProof.Rows.boot_all (aa (bz ["sign"] [] [] rfl (yb (pv 0)) (fun _ _ _ _ _=>(ay (i:=0) (show List.Nodup [("sign":Str)] by decide +kernel) rfl (Or.inl rfl))) (fun _ _ _ _ _=>bp) (fun _ _ _ _ _=>(cU oz (pv 0) (cB (v:=.str dU) rfl mF ⟨tF,rfl⟩) rfl))) ae))))
  (ao (au dj))
  aw)
  (ao (au (Dh (cU bN (pv 0) aG (aI _)) (i3 (cU iI (av oP (pv 0) ak (fun _ _=>rfl)) aG (aI _)))))))),?_⟩
 refine ⟨_,rfl,_,rfl,(by rw [sizeLine_eq]; omega),_,_,rfl,rfl,_,rfl,cb (fun g1=>?_) (fun g1=>?_)⟩
 rotate_left
 ·have e:eC z m=false:=by
   unfold eC
   rw [decide_eq_false (show ¬ 1≤z.length from fun h=>g1 (decide_eq_true (by omega)))]
   rfl
  rw [e] at q
  exact ⟨_,rfl,bc (q H (.refl H))⟩
 have h1:(1:Int)≤(z.length:Int):=of_decide_eq_true g1
 refine ⟨_,rfl,_,_,rfl,rfl,_,rfl,?_⟩
 by_cases h2:(z.length:Int)≤m
 rotate_left
 ·have e:eC z m=false:=by
   unfold eC
   rw [decide_eq_false h2,Bool.and_false]
   rfl
  rw [e] at q
  rw [decide_eq_false h2]
  exact bc (q H (.refl H))
 rw [decide_eq_true h2]
 refine bg ?_
 have e:eC z m=(z.cps.toList.all ju && (decide (z="0") || decide (z.cps.toList[0]?≠some 48))):=by
  unfold eC
  rw [decide_eq_true (show 1≤z.length by omega),decide_eq_true h2]
  rfl
 rw [e] at q
 refine ⟨_,rfl,z,rfl,fun D hD=>?_⟩
 refine qi (z:=z) (fun i ys H3=>Same H H3∧ys=((z.cps.toList.take i).map ju).map V.bl) ⟨aq hD _,rfl⟩ ?_ ?_
 ·rintro i c ys H3 hc ⟨s3,rfl⟩ hD3
  have hc':z.cps.toList[i]?=some c:=by simpa using hc
  have hi:i<z.length:=by
   have:=(List.getElem?_eq_some_iff.mp hc').1
   rw [bj] at this
   exact this
  refine ⟨rfl,aW ?_⟩
  refine ⟨_,rfl,_,_,rfl,rfl,_,hD3,?_,_,⟨s3.upd hD _,rfl⟩,?_⟩
  ·rw [List.length_map,List.length_map,List.length_take]
   exact aJ (by omega)
  ·rw [take_snoc hc',List.map_append,List.map_append]
   exact ah
 rintro ys H3 ⟨s3,rfl⟩ hD3
 have hT:z.cps.toList.take z.cps.size=z.cps.toList:=List.take_of_length_le (by simp)
 rw [hT] at hD3
 refine ⟨D,_,rfl,SqL.of hD3,?_⟩
 rw [all_map]
 refine ⟨_,rfl,?_⟩
 cases ea:z.cps.toList.all ju with
 | false=>rw [ea] at q; exact bc (q H3 s3)
 | true =>
  rw [ea] at q
  refine bg ?_
  refine ⟨_,rfl,rfl,_,rfl,?_⟩
  refine cb (fun c=>?_) (fun c=>?_)
  ·rw [decide_eq_true (show z="0" from V.str.inj (of_decide_eq_true c))] at q
   exact q H3 s3
  ·have c':¬ z="0":=fun h=>c (decide_eq_true (congrArg V.str h))
   rw [decide_eq_false c'] at q
   have h0:0<z.cps.toList.length:=by rw [bj]; omega
   have hat:=List.getElem?_eq_getElem h0
   refine ⟨_,rfl,_,_,_,rfl,rfl,(by rw [sizeLine_eq]; omega),a9 (j:=0) hat,rfl,?_⟩
   have e0:(!decide (V.str ⟨#[z.cps.toList[0]]⟩=V.str ("0":Str)))=decide (z.cps.toList[0]?≠some 48):=by
    rw [hat,qU,← decide_not]
    refine decide_eq_decide.mpr ⟨fun h h'=>h ?_,fun h h'=>h ?_⟩
    ·rw [Option.some.inj h']
    ·have:=V.str.inj h'
     injection this with this
     have e2:=congrArg Array.toList this
     rw [(List.cons.inj e2).1]
   rw [e0]
   exact q H3 s3
theorem ki {z:Str} {m:Int} (h:eC z m=true):PySem.NumText.AllDigits z.cps.toList∧z.cps.toList≠[]∧(z.length:Int)≤m:=by
 unfold eC at h
 rw [Bool.and_eq_true,Bool.and_eq_true,Bool.and_eq_true] at h
 obtain ⟨⟨⟨h1,h2⟩,h3⟩,_⟩:=h
 refine ⟨fun c hc=>vU (List.all_eq_true.mp h3 c hc),fun e=>?_,of_decide_eq_true h2⟩
 have:=of_decide_eq_true h1
 rw [← bj,e] at this
 exact absurd this (by decide)
def jd:Sp:=fun vs H Q _=>∃ (z:Str),vs=[.str z]∧z.length≤1000∧∀ H' v,Same H H'→ThAt H' (kK z) v→Q v H'
theorem Ao:FnScope ["text"] ["text"] (ar fN):=⟨rfl,rfl,rfl,by decide +kernel,rfl,by decide +kernel,by decide +kernel⟩
theorem zG {tM:Tok} (F:Fun K "read_number" "read_number" fN f fd) (B:Blt mg) (mM:mg "MOST_FIGURES_choirtexts"=some (.int 9 tM)) (C_writ:Cal P w K mg base 1 "is_written_whole" ["text","most_figures"] kQ):FnOk P w K mg base CX0 2 f fd ["text"] jd:=by
 refine F.ok Ao (fun vs H Q E h=>?_) (fun cdv A outer s H vs Q E hr h=>?_)
 ·obtain ⟨z,rfl,_⟩:=h
  rfl
 obtain ⟨z,rfl,hz,q⟩:=h
 refine ⟨_,(af (aP (bD (aH C_writ hr (by decide) rfl (aa (pv 0) (aa (cB (v:=.int 9) rfl mM ⟨tM,rfl⟩) ae))))
  (ao (au (aX fP rfl B.int_ PyProof.Rows.boot_int (aa (pv 0) ae))))
  aw)
  (ao (au bG))),?_⟩
 refine ⟨_,rfl,z,9,rfl,hz,fun H1 s1=>⟨_,rfl,?_⟩⟩
 cases e:eC z 9 with
 | false =>
  refine bg ?_
  have e2:kK z=.non:=by unfold kK; rw [e]; rfl
  rw [e2] at q
  exact q H1 .non s1 rfl
 | true =>
  refine bc ?_
  obtain ⟨h1,h2,h3⟩:=ki e
  have e2:kK z=.int (PySem.NumText.digitsVal z.cps.toList:Nat):=by unfold kK; rw [e]; rfl
  rw [e2] at q
  exact ⟨_,rfl,z,_,rfl,by omega,PySem.intText_digits h1 h2 (by omega),q H1 _ s1 rfl⟩
def md:Sp:=fun vs H Q _=>∃ (z:Str),vs=[.str z]∧z.length≤1000∧∀ H' v,Same H H'→ThAt H' (lH z) v→Q v H'
theorem zj:FnScope ["text"] ["text"] (ar ia):=⟨rfl,rfl,rfl,by decide +kernel,rfl,by decide +kernel,by decide +kernel⟩
theorem zr (F:Fun K "read_rule" "read_rule" ia f fd) (C_rnum:Cal P w K mg base 2 "read_number" ["text"] jd):FnOk P w K mg base CX0 3 f fd ["text"] md:=by
 refine F.ok zj (fun vs H Q E h=>?_) (fun cdv A outer s H vs Q E hr h=>?_)
 ·obtain ⟨z,rfl,_⟩:=h
  rfl
 obtain ⟨z,rfl,hz,q⟩:=h
 refine ⟨_,(af (aP (az jC (pv 0) (dF (aa aG (aa aG ae))) rfl)
  (ao (au (pv 0)))
  aw)
  (ao (au (aH C_rnum hr (by decide) rfl (aa (pv 0) ae))))),?_⟩
 refine ⟨_,rfl,(by show 2≤sizeLine; decide),fun l hl=>?_⟩
 have s1:=aq hl (.tup [.str "all",.str "any"])
 refine ⟨l,_,rfl,.inr (SqT.of ah),rfl,iq ["all","any"],_,rfl,?_⟩
 rw [show [V.str "all",V.str "any"]=(["all","any"]:List Str).map V.str from rfl,jg]
 by_cases h:z="all"∨z="any"
 ·rw [decide_eq_true (by rcases h with rfl | rfl <;> simp)]
  refine bc ?_
  have e2:lH z=.str z:=if_pos h
  rw [e2] at q
  exact ⟨_,rfl,q _ _ s1 ⟨rfl,hz⟩⟩
 ·rw [decide_eq_false (by
   intro hm
   rcases List.mem_cons.mp hm with h1 | h1
   ·exact h (.inl h1)
   ·exact h (.inr (List.mem_singleton.mp h1)))]
  refine bg ?_
  have e2:lH z=kK z:=if_neg h
  rw [e2] at q
  exact ⟨_,rfl,z,rfl,hz,fun H' v s' ht=>q H' v (s1.trans s') ht⟩
end
end K81
namespace K81
open PySem L2
theorem rb:("+":Str)=⟨#[43]⟩:=by decide +kernel
theorem eq_str:("=":Str)=⟨#[61]⟩:=by decide +kernel
theorem uG:(" ":Str)=⟨#[32]⟩:=by decide +kernel
theorem uo {names:List Str} {z:Str} (h:z∈names):names[names.findIdx (fun x=>decide (x=z))]?=some z∧∀ i,i<names.findIdx (fun x=>decide (x=z))→names[i]?≠some z:=by
 have hx:names.findIdx (fun x=>decide (x=z))<names.length:=List.findIdx_lt_length_of_exists ⟨z,h,decide_eq_true rfl⟩
 refine ⟨?_,fun i hi e=>?_⟩
 ·rw [List.getElem?_eq_getElem hx]
  exact congrArg some (of_decide_eq_true (List.findIdx_getElem (p:=fun x=>decide (x=z)) (w:=hx)))
 ·obtain ⟨hl,e'⟩:=List.getElem?_eq_some_iff.mp e
  have:=List.not_of_lt_findIdx hi
  rw [e'] at this
  rw [decide_eq_true rfl] at this
  cases this
section
variable {P:Program} {w:World} {K:PySem.W.Frag} {mg:Str→Option Value} {base:Heap} {f:Addr} {fd:FuncData}
def pH:Sp:=fun vs H Q _=>∃ (z:Str) (nl:Addr) (names:List Str),vs=[.str z,.ref nl]∧z.length≤1000∧H nl=some (.lst (names.map V.str))∧names.length≤1000∧∀ H' v,Same H H'→ThAt H' (qT names z) v→Q v H'
theorem iy:FnScope ["text","names","parts","beats","back"] ["text","names"] (ar dB):=⟨rfl,rfl,rfl,by decide +kernel,rfl,by decide +kernel,by decide +kernel⟩
theorem A0 (F:Fun K "read_listening" "read_listening" dB f fd) (C_name:Cal P w K mg base 2 "is_name" ["thing"] kY) (C_rnum:Cal P w K mg base 2 "read_number" ["text"] jd):FnOk P w K mg base CX0 3 f fd ["text","names"] pH:=by
 refine F.ok iy (fun vs H Q E h=>?_) (fun cdv A outer s H vs Q E hr h=>?_)
 ·obtain ⟨z,nl,names,rfl,_⟩:=h
  rfl
 obtain ⟨z,nl,names,rfl,hz,hnl,hn,q⟩:=h
 refine ⟨_,(af (aB (i:=2) iy.nd rfl (Or.inl rfl) (cw PySem.F.plainAttrs_str PySem.F.slot_str_partition PySem.F.type_str_partition oG (pv 0) (aa aG ae)))
  (af (aP (PW.pt (ie (bQ (bD (aH C_name hr (by decide) rfl (aa (av aT (pv 2) ak (fun _ _=>rfl)) ae)))) (e7 (az i7 (av aT (pv 2) ak (fun _ _=>rfl)) (pv 1) rfl))))
  (ao (au bG))
  aw)
  (af (aB (i:=3) iy.nd rfl (Or.inl rfl) (av aT (pv 2) ak (fun _ _=>rfl)))
  (af (aB (i:=4) iy.nd rfl (Or.inl rfl) ak)
  (fT (aP (bD (cw PySem.F.plainAttrs_str PySem.F.slot_str_endswith PySem.F.type_str_endswith qZ (pv 3) (aa aG ae)))
  (af (aB (i:=3) iy.nd rfl (Or.inl rfl) (d7 tP (pv 3) fz (fD (CT Cf ak))))
  (ao (aB (i:=4) iy.nd rfl (Or.inl rfl) ak)))
  aw)
  (ao (au (dF (aa (cw PySem.F.plainAttrs_list PySem.F.slot_list_index PySem.F.type_list_index yV (pv 1) (aa (av aT (pv 2) ak (fun _ _=>rfl)) ae)) (aa (aH C_rnum hr (by decide) rfl (aa (pv 3) ae)) (aa (pv 4) ae))))))))))),?_⟩
 obtain ⟨p1,p2⟩:=oR z "+"
 refine ⟨_,rfl,rfl,z,"+",rfl,rfl,(by decide +kernel),(by omega),fun p hp=>?_⟩
 have s1:=aq hp (.tup [.str (Txt.partition z "+").1,.str (Txt.partition z "+").2.1,.str (Txt.partition z "+").2.2])
 have hP:(upd H p (.tup [.str (Txt.partition z "+").1,.str (Txt.partition z "+").2.1,.str (Txt.partition z "+").2.2])) p=some (.tup [.str (Txt.partition z "+").1,.str (Txt.partition z "+").2.1,.str (Txt.partition z "+").2.2]):=ah
 unfold qT at q
 generalize upd H p (.tup [.str (Txt.partition z "+").1,.str (Txt.partition z "+").2.1,.str (Txt.partition z "+").2.2])=H1 at s1 hP ⊢
 generalize Txt.partition z "+"=pt at *
 obtain ⟨nm,pl,rs⟩:=pt
 dsimp only at *
 refine ⟨_,rfl,p,_,_,_,rfl,rfl,SqT.of hP,rfl,.str nm,.str nm,rfl,⟨rfl,by omega⟩,fun H2 s2=>⟨_,rfl,?_⟩⟩
 have s02:=s1.trans s2
 have hP2:=s2 _ _ hP
 cases e1:gj (.str nm) with
 | false =>
  rw [e1] at q
  exact bc (bc (q H2 .non s02 rfl))
 | true =>
  rw [e1] at q
  refine bg ?_
  refine ⟨_,rfl,p,_,_,_,rfl,rfl,SqT.of hP2,rfl,_,rfl,nl,_,rfl,.inl (SqL.of (s02 _ _ hnl)),rfl,iq names,_,rfl,?_⟩
  rw [jg]
  by_cases hm:nm∈names
  rotate_left
  ·rw [decide_eq_false hm]
   refine bc ?_
   rw [if_neg (fun h=>hm h.2)] at q
   exact q H2 .non s02 rfl
  rw [decide_eq_true hm]
  refine bg ?_
  rw [if_pos ⟨rfl,hm⟩] at q
  refine ⟨_,rfl,p,_,_,_,rfl,rfl,SqT.of hP2,rfl,?_⟩
  refine ⟨fun σ H3=>σ=[some (.str z),some (.ref nl),some (.ref p),some (.str (g5 rs)),some (.int (qv rs))]∧H3=H2,?_,?_⟩
  ·refine ⟨_,rfl,rfl,rs,"=",rfl,rfl,_,rfl,?_⟩
   unfold g5 qv
   cases e2:Txt.endswith rs "=" with
   | false=>exact bg ⟨rfl,rfl⟩
   | true =>
    refine bc ?_
    exact ⟨_,rfl,_,rfl,_,rfl,rs,rfl,(by rw [sizeLine_eq]; omega),rfl,rfl⟩
  rintro σ H3 ⟨rfl,rfl⟩
  obtain ⟨f1,f2⟩:=uo hm
  have hb:=xP rs
  refine ⟨_,rfl,.inl ⟨rfl,_,SqL.of (s02 _ _ hnl)⟩,_,rfl,p,_,_,_,rfl,rfl,SqT.of hP2,rfl,nl,nm,names,_,rfl,rfl,s02 _ _ hnl,hn,f1,f2,_,rfl,g5 rs,rfl,by omega,fun H4 v s4 ht=>?_⟩
  refine ⟨_,rfl,(by show 3≤sizeLine; decide),fun t htn=>?_⟩
  refine q _ _ ((s02.trans s4).trans (aq htn _)) ⟨t,_,rfl,ah,_,_,rfl,rfl,_,_,rfl,ThAt.same (aq htn _) _ ht,_,_,rfl,rfl,rfl⟩
end
end K81
namespace K81
open PySem L2
theorem tQ {H:Hp} {a:Addr} {vs:List V} {ts:List Th} (h:H a=some (.tup vs)) (p:ThsAt H ts vs):ThAt H (.tup ts) (.ref a):=⟨a,vs,rfl,h,p⟩
theorem th4 {H:Hp} {s t r q:Th} {u v w x:V} (h1:ThAt H s u) (h2:ThAt H t v) (h3:ThAt H r w) (h4:ThAt H q x):ThsAt H [s,t,r,q] [u,v,w,x]:=⟨_,_,rfl,h1,_,_,rfl,h2,_,_,rfl,h3,_,_,rfl,h4,rfl⟩
structure Kin (H H':Hp):Prop where
 tup:∀ a vs,H a=some (.tup vs)→H' a=some (.tup vs)
 lst:∀ a xs,H a=some (.lst xs)→∃ ys,H' a=some (.lst ys)
 dic:∀ a kvs,H a=some (.dK kvs)→∃ l,H' a=some (.dK l)
theorem Same.kin {H H':Hp} (s:Same H H'):Kin H H':=⟨fun a vs h=>s _ _ h,fun a xs h=>⟨xs,s _ _ h⟩,fun a l h=>⟨l,s _ _ h⟩⟩
theorem Kin.trans {H H1 H2:Hp} (k:Kin H H1) (k':Kin H1 H2):Kin H H2:=⟨fun a vs h=>k'.tup _ _ (k.tup _ _ h),fun a xs h=>by obtain ⟨ys,h'⟩:=k.lst _ _ h; exact k'.lst _ _ h',fun a l h=>by obtain ⟨m,h'⟩:=k.dic _ _ h; exact k'.dic _ _ h'⟩
theorem kU {H:Hp} {D:Addr} {ys zs:List V} (h:H D=some (.lst ys)):Kin H (upd H D (.lst zs)):=by
 refine ⟨fun a vs e=>?_,fun a xs e=>?_,fun a l e=>?_⟩
 ·have:a≠D:=fun z=>by rw [z,h] at e; cases e
  rw [aC this]
  exact e
 ·by_cases hd:a=D
  ·rw [hd]
   exact ⟨_,ah⟩
  ·rw [aC hd]
   exact ⟨_,e⟩
 ·have:a≠D:=fun z=>by rw [z,h] at e; cases e
  rw [aC this]
  exact ⟨_,e⟩
mutual
theorem ThAt.kin {H H':Hp} (s:Kin H H'):∀ (t:Th) {v:V},ThAt H t v→ThAt H' t v
 | .int _,_,h=>h
 | .bl _,_,h=>h
 | .non,_,h=>h
 | .str _,_,h=>h
 | .tup ts,_,⟨a,vs,e,ha,h⟩=>⟨a,vs,e,s.tup _ _ ha,ThsAt.kin s ts h⟩
 | .lst,_,⟨a,xs,e,ha⟩=>by obtain ⟨ys,h'⟩:=s.lst _ _ ha; exact ⟨a,ys,e,h'⟩
 | .dic,_,⟨a,xs,e,ha⟩=>by obtain ⟨ys,h'⟩:=s.dic _ _ ha; exact ⟨a,ys,e,h'⟩
theorem ThsAt.kin {H H':Hp} (s:Kin H H'):∀ (ts:List Th) {vs:List V},ThsAt H ts vs→ThsAt H' ts vs
 | [],_,h=>h
 | t::ts,_,⟨v,r,e,h1,h2⟩=>⟨v,r,e,ThAt.kin s t h1,ThsAt.kin s ts h2⟩
end
theorem ThsAt.snoc {H:Hp} {ts:List Th} {t:Th} {vs:List V} {v:V} (h:ThsAt H ts vs) (h':ThAt H t v):ThsAt H (ts++[t]) (vs++[v]):=h.app ⟨v,[],rfl,h',rfl⟩
end K81
namespace K81
open PySem L2
theorem getD_at {ws:List Str} {i:Nat} (h:i<ws.length):(ws.map V.str)[i]?=some (.str (ws.getD i Str.empty)):=by
 rw [List.getElem?_map,List.getElem?_eq_getElem h,List.getD_eq_getElem?_getD,List.getElem?_eq_getElem h]
 rfl
theorem getD_mem {ws:List Str} {i:Nat} (h:i<ws.length):ws.getD i Str.empty∈ws:=by
 rw [List.getD_eq_getElem?_getD,List.getElem?_eq_getElem h]
 exact List.getElem_mem h
theorem tq (ws:List Str) (h:3≤ws.length):gS (ws.map V.str) (some 3) none=(ws.drop 3).map V.str:=by
 unfold gS
 rw [show (3:Int)=((3:Nat):Int) from rfl,HT.jy,HT.f9,List.length_map,Nat.min_eq_left h,List.map_drop]
 exact List.take_of_length_le (by rw [List.length_drop,List.length_map]; omega)
theorem yH (ws:List Str) (i:Nat) (h:i≤ws.length):gS (ws.map V.str) none (some (i:Int))=(ws.take i).map V.str:=by
 unfold gS
 rw [HT.jy,HT.f9,List.length_map,Nat.min_eq_left h,List.map_take]
 rfl
section
variable {P:Program} {w:World} {K:PySem.W.Frag} {mg:Str→Option Value} {base:Heap} {f:Addr} {fd:FuncData}
def mX:Sp:=fun vs H Q _=>∃ (z:Str) (nl:Addr) (names:List Str),vs=[.str z,.ref nl]∧z.length≤900∧H nl=some (.lst (names.map V.str))∧names.length≤1000∧∀ H' v,Same H H'→ThAt H' (gk names z) v→Q v H'
theorem mB:FnScope ["row","names","words","listenings"] ["row","names"] (ar gZ):=⟨rfl,rfl,rfl,by decide +kernel,rfl,by decide +kernel,by decide +kernel⟩
theorem zc (F:Fun K "read_bell" "read_bell" gZ f fd) (B:Blt mg) (C_rnum:Cal P w K mg base 2 "read_number" ["text"] jd) (C_rrule:Cal P w K mg base 3 "read_rule" ["text"] md) (C_rlis:Cal P w K mg base 3 "read_listening" ["text","names"] pH):FnOk P w K mg base CX0 4 f fd ["row","names"] mX:=by
 refine F.ok mB (fun vs H Q E h=>?_) (fun cdv A outer s H vs Q E hr h=>?_)
 ·obtain ⟨z,nl,names,rfl,_⟩:=h
  rfl
 obtain ⟨z,nl,names,rfl,hz,hnl,hn,q⟩:=h
 refine ⟨_,(af (aB (i:=2) mB.nd rfl (Or.inl rfl) (cw PySem.F.plainAttrs_str PySem.F.slot_str_split PySem.F.type_str_split jc (pv 0) (aa aG ae)))
  (af (aP (az lI (ax aL rfl B.len_ PySem.boot_len (aa (pv 2) ae)) ak (aI _))
  (ao (au bG))
  aw)
  (af (da (i:=3) ["word"] ["names"] [1] rfl mB.nd rfl (Or.inl rfl) (gP (d7 kR (pv 2) (fD ak) fz)) (fun _ _ _ _ _=>(ay (i:=0) (show List.Nodup [("word":Str),("names":Str)] by decide +kernel) rfl (Or.inl rfl))) (fun _ _ _ _ _=>bp) (fun _ _ _ _ _=>(aH C_rlis hr (by decide) rfl (aa (pv 0) (aa (pv 1) ae)))))
  (ao (au (dF (aa (av aE (pv 2) ak (fun _ _=>rfl)) (aa (aH C_rnum hr (by decide) rfl (aa (av aE (pv 2) ak (fun _ _=>rfl)) ae)) (aa (aH C_rrule hr (by decide) rfl (aa (av aE (pv 2) ak (fun _ _=>rfl)) ae)) (aa (aX cP rfl B.tuple_ PyProof.Rows.boot_tuple (aa (pv 3) ae)) ae)))))))))),?_⟩
 refine ⟨_,rfl,rfl,z," ",rfl,rfl,(by decide +kernel),by omega,fun l hl=>?_⟩
 have s1:=aq hl (.lst ((Txt.split z " ").map V.str))
 have hL:(upd H l (.lst ((Txt.split z " ").map V.str))) l=some (.lst ((Txt.split z " ").map V.str)):=ah
 have hsh:∀ a∈Txt.split z " ",a.length≤z.length:=fun a h=>PyProof.Rows.part_short h
 have hle:=PyProof.Rows.split_le z " "
 unfold gk at q
 generalize upd H l (.lst ((Txt.split z " ").map V.str))=H1 at s1 hL ⊢
 generalize Txt.split z " "=ws at *
 refine ⟨_,rfl,l,_,rfl,.inl (SqL.of hL),_,_,rfl,rfl,_,rfl,cb (fun c=>?_) (fun c=>?_)⟩
 ·have c':ws.length<4:=by
   have:=of_decide_eq_true c
   rw [List.length_map] at this
   omega
  rw [if_pos c'] at q
  exact q H1 .non s1 rfl
 have h4:4≤ws.length:=by
  refine Classical.byContradiction fun no=>c (decide_eq_true ?_)
  rw [List.length_map]
  omega
 rw [if_neg (by omega)] at q
 refine ⟨_,rfl,_,rfl,l,_,rfl,SqL.of hL,fun l2 hl2=>?_⟩
 rw [tq ws (by omega)]
 have s2:=aq hl2 (.lst ((ws.drop 3).map V.str))
 have hL2:(upd H1 l2 (.lst ((ws.drop 3).map V.str))) l2=some (.lst ((ws.drop 3).map V.str)):=ah
 generalize upd H1 l2 (.lst ((ws.drop 3).map V.str))=H2 at s2 hL2 ⊢
 refine ⟨l2,rfl,⟨_,SqL.of hL2⟩,fun D hD=>?_⟩
 refine dH (K:=K) (a:=l2) (xs:=(ws.drop 3).map V.str) (fun i ys H3=>Same H2 H3∧ThsAt H3 (((ws.drop 3).take i).map (qT names)) ys) ⟨aq hD _,rfl⟩ (fun i ys H3 _ ⟨s,_⟩=>SqL.of (s _ _ hL2)) ?_ ?_
 ·rintro i x ys H3 hx ⟨s3,hy⟩ hD3
  rw [List.getElem?_map] at hx
  obtain ⟨a,ha,rfl⟩:∃ a,(ws.drop 3)[i]?=some a∧V.str a=x:=by
   cases e:(ws.drop 3)[i]? with
   | none=>rw [e] at hx; cases hx
   | some a=>rw [e] at hx; exact ⟨a,rfl,Option.some.inj hx⟩
  have ham:a∈ws:=List.mem_of_mem_drop (List.mem_of_getElem? ha)
  have hal:=hsh a ham
  have hil:=(List.getElem?_eq_some_iff.mp ha).1
  rw [List.length_drop] at hil
  refine ⟨rfl,aW ?_⟩
  have s03:=(s1.trans s2).trans s3
  refine ⟨_,rfl,_,rfl,a,nl,names,rfl,by omega,s03 _ _ hnl,hn,fun H4 v s4 ht=>?_⟩
  have hyl:=hy.len
  rw [List.length_map,List.length_take] at hyl
  refine ⟨_,s4 _ _ hD3,aJ (by omega),_,⟨(s3.trans s4).upd hD _,?_⟩,ah⟩
  rw [take_snoc ha,List.map_append]
  exact ThsAt.snoc (ThsAt.kin ((Same.kin s4).trans (kU (s4 _ _ hD3))) _ hy) (ThAt.kin (kU (s4 _ _ hD3)) _ ht)
 rintro ys H3 ⟨s3,hy⟩ hD3
 rw [List.length_map,List.take_length] at hy
 have hyl:=hy.len
 rw [List.length_map,List.length_drop] at hyl
 have s13:=s2.trans s3
 have hl3:=s13 _ _ hL
 refine ⟨_,rfl,l,_,_,_,rfl,rfl,SqL.of hl3,a9 (j:=0) (getD_at (by omega)),?_⟩
 refine ⟨_,rfl,l,_,_,_,rfl,rfl,SqL.of hl3,a9 (j:=1) (getD_at (by omega)),_,rfl,(by have:=hsh _ (getD_mem (i:=1) (show 1<ws.length by omega)); omega),fun H4 v4 s4 ht4=>?_⟩
 refine ⟨_,rfl,l,_,_,_,rfl,rfl,SqL.of (s4 _ _ hl3),a9 (j:=2) (getD_at (by omega)),_,rfl,(by have:=hsh _ (getD_mem (i:=2) (show 2<ws.length by omega)); omega),fun H5 v5 s5 ht5=>?_⟩
 refine ⟨_,rfl,D,_,rfl,.inl ⟨SqL.of ((s4.trans s5) _ _ hD3),fun t ht=>?_⟩⟩
 refine ⟨(by show 4≤sizeLine; decide),fun r hr'=>?_⟩
 have v1:=aq ht (.tup ys)
 have v2:=aq hr' (.tup [.str (ws.getD 0 Str.empty),v4,v5,.ref t])
 have s35:=(s4.trans s5).trans (v1.trans v2)
 refine q _ _ (((s1.trans s13).trans s35)) (tQ ah (th4 ⟨rfl,?_⟩ (ThAt.same (s5.trans (v1.trans v2)) _ ht4) (ThAt.same (v1.trans v2) _ ht5) (tQ (v2 _ _ ah) (ThsAt.same s35 _ hy))))
 have:=hsh _ (getD_mem (i:=0) (show 0<ws.length by omega))
 omega
theorem uW {X:Cx} {K:PySem.W.Frag} (n:String) (hK:X.K=K):cT X (.builtin "isinstance") (C8 K n):=hK▸ck n
def mr:Sp:=fun vs H Q _=>∃ (l:Addr) (zs:List Str),vs=[.ref l]∧H l=some (.lst (zs.map V.str))∧1≤zs.length∧zs.length≤6∧∀ H',Same H H'→Q (.bl true) H'
theorem BJ (K:PySem.W.Frag):PySem.W.kitOne K (.type "list") (.type "list")=some true:=by kernel_rfl
theorem x5:FnScope ["thing"] ["thing"] (ar iS):=⟨rfl,rfl,rfl,by decide +kernel,rfl,by decide +kernel,by decide +kernel⟩
theorem yt {tO:Tok} (F:Fun K "are_rows" "are_rows" iS f fd) (B:Blt mg) (mO:mg "MOST_BELLS"=some (.int 6 tO)):FnOk P w K mg base CX0 1 f fd ["thing"] mr:=by
 refine F.ok x5 (fun vs H Q E h=>?_) (fun cdv A outer s H vs Q E hr h=>?_)
 ·obtain ⟨l,zs,rfl,_⟩:=h
  rfl
 obtain ⟨l,zs,rfl,hl,z1,z6,q⟩:=h
 refine ⟨_,(af (aP (PW.pt (ie (bQ (bD (ax (ck "list") rfl B.isinstance_ PyProof.Rows.boot_isinstance (aa (pv 0) (aa (cJ (v:=.ty "list") rfl B.list_ PyProof.Rows.boot_list rfl) ae))))) (e7 (bQ (e8 eV eV ak (ax aL rfl B.len_ PySem.boot_len (aa (pv 0) ae)) (cB (v:=.int 6) rfl mO ⟨tO,rfl⟩))))))
  (ao (au dj))
  aw)
  (ao (au (ax (i9 rfl) rfl B.all_ PyProof.Rows.boot_all (aa (bz ["row"] [] [] rfl (gP (pv 0)) (fun _ _ _ _ _=>(ay (i:=0) (show List.Nodup [("row":Str)] by decide +kernel) rfl (Or.inl rfl))) (fun _ _ _ _ _=>bp) (fun _ _ _ _ _=>(ax (uW (K:=K) "str" rfl) rfl B.isinstance_ PyProof.Rows.boot_isinstance (aa (pv 0) (aa (cJ (v:=.ty "str") rfl B.str_ PyProof.Rows.boot_str rfl) ae))))) ae))))),?_⟩
 refine ⟨_,rfl,_,_,_,rfl,.lst hl,BJ K,_,rfl,bg ?_⟩
 refine ⟨_,rfl,l,_,rfl,.inl (SqL.of hl),_,_,rfl,rfl,_,rfl,?_⟩
 rw [List.length_map,decide_eq_true (show (1:Int)≤((zs.length:Nat):Int) by omega)]
 refine bc ⟨_,_,rfl,rfl,_,rfl,?_⟩
 rw [decide_eq_true (show ((zs.length:Nat):Int)≤6 by omega)]
 refine bg ?_
 refine ⟨_,rfl,l,rfl,⟨_,SqL.of hl⟩,fun D hD=>?_⟩
 refine dH (K:=K) (a:=l) (xs:=zs.map V.str) (fun i ys H3=>Same H H3∧ys=((zs.take i).map (fun _=>true)).map V.bl) ⟨aq hD _,rfl⟩ (fun i ys H3 _ ⟨z,_⟩=>SqL.of (z _ _ hl)) ?_ ?_
 ·rintro i x ys H3 hx ⟨s3,rfl⟩ hD3
  obtain ⟨a,ha,rfl⟩:∃ a,zs[i]?=some a∧V.str a=x:=by
   rw [List.getElem?_map] at hx
   cases e:zs[i]? with
   | none=>rw [e] at hx; cases hx
   | some a=>rw [e] at hx; exact ⟨a,rfl,Option.some.inj hx⟩
  refine ⟨rfl,aW ?_⟩
  refine ⟨_,rfl,_,_,_,rfl,.str a,hZ K,_,hD3,?_,_,⟨s3.upd hD _,rfl⟩,?_⟩
  ·rw [List.length_map,List.length_map,List.length_take]
   exact aJ (by omega)
  ·rw [take_snoc ha,List.map_append,List.map_append]
   exact ah
 rintro ys H3 ⟨s3,rfl⟩ hD3
 rw [List.length_map,List.take_length] at hD3
 refine ⟨D,_,rfl,SqL.of hD3,?_⟩
 rw [all_map]
 have e:(zs.all fun _=>true)=true:=List.all_eq_true.mpr fun _ _=>rfl
 rw [e]
 exact q H3 s3
def eD (z:Str):Str:=(Txt.split z " ").getD 0 Str.empty
def oQ:Sp:=fun vs H Q _=>∃ (l:Addr) (zs:List Str),vs=[.ref l]∧H l=some (.lst (zs.map V.str))∧1≤zs.length∧zs.length≤6∧(∀ z∈zs,z.length≤900)∧(∀ i z,zs[i]?=some z→nU (gk (zs.map eD) z) ((zs.map eD).take i) zs.length=true)∧
 ∀ (H':Hp) (v:V),Same H H'→ThAt H' (.tup (zs.map (gk (zs.map eD)))) v→Q v H'
theorem iD:FnScope ["rows","names","bells","number","row","bell"] ["rows"] (ar gB):=⟨rfl,rfl,rfl,by decide +kernel,rfl,by decide +kernel,by decide +kernel⟩
theorem Av (F:Fun K "read_choir" "read_choir" gB f fd) (B:Blt mg) (C_arows:Cal P w K mg base 1 "are_rows" ["thing"] mr) (C_rbell:Cal P w K mg base 4 "read_bell" ["row","names"] mX) (C_isbell:Cal P w K mg base 7 "is_bell" ["thing","ahead","bells"] j4):FnOk P w K mg base CX0 8 f fd ["rows"] oQ:=by
 refine F.ok iD (fun vs H Q E h=>?_) (fun cdv A outer s H vs Q E hr h=>?_)
 ·obtain ⟨l,zs,rfl,_⟩:=h
  rfl
 obtain ⟨l,zs,rfl,hl,z1,z6,hz,hb,q⟩:=h
 refine ⟨_,(af (aP (bQ (bD (aH C_arows hr (by decide) rfl (aa (pv 0) ae))))
  bf
  aw)
  (af (da (i:=1) ["row"] [] [] rfl iD.nd rfl (Or.inl rfl) (gP (pv 0)) (fun _ _ _ _ _=>(ay (i:=0) (show List.Nodup [("row":Str)] by decide +kernel) rfl (Or.inl rfl))) (fun _ _ _ _ _=>bp) (fun _ _ _ _ _=>(av (nj (K:=K) rfl) (Cd (K:=K) rfl PySem.F.plainAttrs_str PySem.F.slot_str_split PySem.F.type_str_split jc (pv 0) (aa aG ae)) ak (fun _ _=>rfl))))
  (af (aB (i:=2) iD.nd rfl (Or.inl rfl) (bZ ae))
  (af (cO PassesOwn.never rfl (Ab rfl B.enumerate_ (aa (pv 0) ae)) (eR rfl (aZ (ay (i:=3) iD.nd rfl (Or.inl rfl)) (aZ (ay (i:=4) iD.nd rfl (Or.inl rfl)) dy)))
  (af (aB (i:=5) iD.nd rfl (Or.inl rfl) (aH C_rbell hr (by decide) rfl (aa (pv 4) (aa (pv 1) ae))))
  (af (aP (bQ (bD (aH C_isbell hr (by decide) rfl (aa (pv 5) (aa (d7 kR (pv 1) fz (fD (pv 3))) (aa (ax aL rfl B.len_ PySem.boot_len (aa (pv 0) ae)) ae))))))
  bf
  aw)
  (ao (bL (cw PySem.F.plainAttrs_list PySem.F.slot_list_append PySem.F.type_list_append cK (pv 2) (aa (pv 5) ae)))))))
  (ao (au (aX cP rfl B.tuple_ PyProof.Rows.boot_tuple (aa (pv 2) ae)))))))),?_⟩
 refine ⟨_,rfl,l,zs,rfl,hl,z1,z6,fun H1 s1=>⟨_,rfl,bg ?_⟩⟩
 have hl1:=s1 _ _ hl
 refine ⟨_,rfl,l,rfl,⟨_,SqL.of hl1⟩,fun D hD=>?_⟩
 refine dH (K:=K) (a:=l) (xs:=zs.map V.str) (fun i ys H3=>Same H1 H3∧ys=((zs.take i).map eD).map V.str) ⟨aq hD _,rfl⟩ (fun i ys H3 _ ⟨z,_⟩=>SqL.of (z _ _ hl1)) ?_ ?_
 ·rintro i x ys H3 hx ⟨s3,rfl⟩ hD3
  obtain ⟨a,ha,rfl⟩:∃ a,zs[i]?=some a∧V.str a=x:=by
   rw [List.getElem?_map] at hx
   cases e:zs[i]? with
   | none=>rw [e] at hx; cases hx
   | some a=>rw [e] at hx; exact ⟨a,rfl,Option.some.inj hx⟩
  have hal:=hz a (List.mem_of_getElem? ha)
  refine ⟨rfl,aW ?_⟩
  have hp0:=PyProof.Rows.split_pos a " "
  refine ⟨_,rfl,rfl,a," ",rfl,rfl,(by decide +kernel),by omega,fun p hp=>?_⟩
  have v1:=aq hp (.lst ((Txt.split a " ").map V.str))
  refine ⟨p,_,_,_,rfl,rfl,SqL.of ah,a9 (j:=0) (getD_at (by omega)),_,v1 _ _ hD3,?_,_,⟨(s3.trans v1).upd hD _,rfl⟩,?_⟩
  ·rw [List.length_map,List.length_map,List.length_take]
   exact aJ (by omega)
  ·rw [take_snoc ha,List.map_append,List.map_append]
   exact ah
 rintro ys H2 ⟨s2,rfl⟩ hD2
 rw [List.length_map,List.take_length] at hD2
 have s02:=s1.trans s2
 have hlen:(zs.map eD).length=zs.length:=List.length_map _
 generalize zs.map eD=names at *
 refine ⟨(by show 0≤sizeLine; decide),fun bl hbl=>?_⟩
 have v0:=aq hbl (.lst [])
 refine ⟨_,rfl,l,rfl,⟨_,SqL.of ((s02.trans v0) _ _ hl)⟩,yM (K:=K) (a:=l) (xs:=zs.map V.str) (fun i σ H3=>∃ (vs:List V) (o3 o4 o5:Option V),σ=[some (.ref l),some (.ref D),some (.ref bl),o3,o4,o5]∧Same H2 H3∧H3 bl=some (.lst vs)∧ThsAt H3 ((zs.take i).map (gk names)) vs)
  ⟨[],none,none,none,rfl,v0,ah,rfl⟩ (fun i σ H3 _ ⟨_,_,_,_,_,s3,_⟩=>SqL.of ((s02.trans s3) _ _ hl)) ?_ ?_⟩
 ·rintro i x σ H3 T hx ⟨vs,o3,o4,o5,rfl,s3,hbl3,hv⟩ hT
  obtain ⟨a,ha,rfl⟩:∃ a,zs[i]?=some a∧V.str a=x:=by
   rw [List.getElem?_map] at hx
   cases e:zs[i]? with
   | none=>rw [e] at hx; cases hx
   | some a=>rw [e] at hx; exact ⟨a,rfl,Option.some.inj hx⟩
  have hal:=hz a (List.mem_of_getElem? ha)
  have hil:=(List.getElem?_eq_some_iff.mp ha).1
  have hbi:=hb i a ha
  have vT:=aq hT (.tup [.int (i:Int),.str a])
  refine ⟨T,_,rfl,SqT.of ah,rfl,_,_,rfl,_,_,rfl,rfl,?_⟩
  have s4:=s3.trans vT
  refine ⟨_,rfl,_,rfl,a,D,names,rfl,hal,s4 _ _ hD2,by omega,fun H5 bv s5 hbv=>?_⟩
  have s25:=s4.trans s5
  refine ⟨_,rfl,_,rfl,_,rfl,_,rfl,D,_,rfl,SqL.of (s25 _ _ hD2),fun p hp=>?_⟩
  rw [yH names i (by omega)]
  have v6:=aq hp (.lst ((names.take i).map V.str))
  refine ⟨_,rfl,l,_,rfl,.inl (SqL.of (v6 _ _ (s25 _ _ (s02 _ _ hl)))),bv,gk names a,p,names.take i,_,rfl,ThAt.same v6 _ hbv,ah,fun H7 s7=>⟨_,rfl,?_⟩⟩
  rw [List.length_map,hbi]
  refine bg ?_
  have v57:=v6.trans s7
  have hbl7:=(vT.trans (s5.trans v57)) _ _ hbl3
  have hvl:=hv.len
  rw [List.length_map,List.length_take] at hvl
  refine ⟨_,rfl,.inl ⟨rfl,_,SqL.of hbl7⟩,_,rfl,bl,vs,_,rfl,rfl,hbl7,aJ (by omega),?_⟩
  refine ⟨_,_,_,_,rfl,?_,ah,?_⟩
  ·have hb2:H2 bl=none:=hbl
   exact (s25.trans v57).upd hb2 _
  ·rw [take_snoc ha,List.map_append]
   exact ThsAt.snoc (ThsAt.kin ((Same.kin (vT.trans (s5.trans v57))).trans (kU hbl7)) _ hv) (ThAt.kin ((Same.kin v57).trans (kU hbl7)) _ hbv)
 rintro σ H3 ⟨vs,o3,o4,o5,rfl,s3,hbl3,hv⟩
 rw [List.length_map,List.take_length] at hv
 refine ⟨_,rfl,bl,_,rfl,.inl ⟨SqL.of hbl3,fun t ht=>?_⟩⟩
 have v1:=aq ht (.tup vs)
 exact q _ _ ((s02.trans s3).trans v1) (tQ ah (ThsAt.same v1 _ hv))
end
end K81
namespace K81
open PySem L2
section
variable {P:Program} {w:World} {K:PySem.W.Frag} {mg:Str→Option Value} {base:Heap} {f:Addr} {fd:FuncData}
def h7:Sp:=fun vs H Q _=>∃ (ch:V) (c:List Bell),vs=[ch]∧ChoirAt H ch c∧c.length≤6∧∀ (H':Hp) (p:Addr),Same H H'→H p=none→H' p=some (.lst ((c.map (·.name)).map V.str))→Q (.ref p) H'
theorem qo:FnScope ["choir"] ["choir"] (ar iY):=⟨rfl,rfl,rfl,by decide +kernel,rfl,by decide +kernel,by decide +kernel⟩
theorem rf (F:Fun K "names_of" "names_of" iY f fd):FnOk P w K mg base CX0 1 f fd ["choir"] h7:=by
 refine F.ok qo (fun vs H Q E h=>?_) (fun cdv A outer s H vs Q E hr h=>?_)
 ·obtain ⟨ch,c,rfl,_⟩:=h
  rfl
 obtain ⟨ch,c,rfl,⟨a,bs,rfl,ha,prb⟩,h6,q⟩:=h
 refine ⟨_,(ao (au (bz ["bell"] [] [] rfl (cD (pv 0)) (fun _ _ _ _ _=>(ay (i:=0) (show List.Nodup [("bell":Str)] by decide +kernel) rfl (Or.inl rfl))) (fun _ _ _ _ _=>bp) (fun _ _ _ _ _=>(av (fJ (K:=K) rfl) (pv 0) ak (fun _ _=>rfl)))))),?_⟩
 have hbl:=aO prb
 refine ⟨_,rfl,a,rfl,⟨_,SqT.of ha⟩,fun D hD=>?_⟩
 refine bV (K:=K) (a:=a) (xs:=bs) (fun j ys H2=>Same H H2∧ys=((c.take j).map (·.name)).map V.str) ⟨aq hD _,rfl⟩ (fun j ys H2 _ ⟨z,_⟩=>SqT.of (z _ _ ha)) ?_ ?_
 ·rintro j y ys H2 hj ⟨s2,rfl⟩ hD2
  obtain ⟨b,hb,⟨x,t,ls,rfl,hx,ht,prl⟩⟩:=bh prb hj
  have hj6:j<c.length:=(List.getElem?_eq_some_iff.mp hb).1
  refine ⟨rfl,aW ?_⟩
  refine ⟨_,rfl,x,_,_,_,rfl,rfl,SqT.of (s2 _ _ hx),rfl,?_⟩
  refine ⟨_,hD2,?_,_,⟨s2.upd hD _,rfl⟩,?_⟩
  ·rw [List.length_map,List.length_map,List.length_take]
   exact aJ (by omega)
  ·rw [sI hb,List.map_append,List.map_append]
   exact ah
 ·rintro ys H2 ⟨s2,rfl⟩ hD2
  rw [hbl,List.take_length] at hD2
  exact q H2 D s2 hD hD2
end
end K81
namespace K81
open PySem L2
def cz (b:Bell):Int:=match b.rule with
 | .all=>b.lis.length
 | .any=>1
 | .num n=>n
theorem jZ {m k:Nat} {t:Bool} {b:Bell} (g:GoodB m k t b):1≤cz b∧cz b≤b.lis.length:=by
 unfold cz
 have h1:=g.n1
 have r:=g.r
 cases e:b.rule with
 | all=>dsimp only; omega
 | any=>dsimp only; omega
 | num n=>rw [e] at r; exact r
def eE (b:Bell):Str:=if cz b=b.lis.length then "all" else if cz b=1 then "any" else aK (cz b)
def eg (l:Lis):Str:=if l.back then "" else "="
def c5 (names:List Str) (l:Lis):Str:=Str.empty++names.getD l.whom Str.empty++"+"++aK l.beats++eg l
def fK (names:List Str) (b:Bell):List Str:=[b.name,aK b.start,eE b]++b.lis.map (c5 names)
def nz (names:List Str) (b:Bell):Str:=Txt.join " " (fK names b)
def iQ (names:List Str) (b:Bell) (w:Str):Str:=Txt.join " " ([b.name,aK b.start,w]++b.lis.map (c5 names))
theorem fH {n:Int} (h0:0≤n) (h1:n≤1000):1≤(aK n).length∧(aK n).length≤4:=by
 obtain ⟨m,rfl⟩:∃ m:Nat,n=m:=⟨n.toNat,by omega⟩
 exact dr (by omega)
theorem eM {n:Int} (h0:0≤n) (h1:n≤1000):n.natAbs.log2<1920:=by
 have h:n.natAbs<2 ^ 10:=by omega
 by_cases hz:n.natAbs=0
 ·rw [hz]
  decide
 ·exact Nat.lt_of_lt_of_le (Nat.log2_lt hz |>.mpr h) (by decide)
theorem yE {m k:Nat} {t:Bool} {b:Bell} (g:GoodB m k t b):(eE b).length≤4:=by
 obtain ⟨w1,w2⟩:=jZ g
 have:=g.n6
 unfold eE
 split
 ·decide +kernel
 split
 ·decide +kernel
 ·exact (fH (by omega) (by omega)).2
theorem t7 (l:Lis):(eg l).length≤1:=by
 unfold eg
 split <;> decide +kernel
theorem kN {names:List Str} {l:Lis} (hn:∀ x∈names,x.length≤8) (h0:1≤l.beats) (h1:l.beats≤1000) (hw:l.whom<names.length):(c5 names l).length≤14:=by
 have h8:(names.getD l.whom Str.empty).length≤8:=by
  rw [List.getD_eq_getElem?_getD,List.getElem?_eq_getElem hw]
  exact hn _ (List.getElem_mem hw)
 have h4:=(fH (n:=l.beats) (by omega) h1).2
 have h2:=t7 l
 unfold c5
 rw [aQ,aQ,aQ,aQ]
 have e0:Str.empty.length=0:=rfl
 have e1:("+":Str).length=1:=by decide +kernel
 omega
end K81
namespace K81
open PySem L2
def RuleAt (K:PySem.W.Frag) (fw:Addr) (H:Hp) (x:Addr) (n:Int):Prop:=∃ C dx,H x=some (.ins C dx [("need",.int n)])∧Cls K C∧NoAttr K C "need"∧Meth K C "wants" fw
structure OwnW (K:PySem.W.Frag) (C fw:Addr):Prop where
 cl:Cls K C
 nN:NoAttr K C "need"
 w:Meth K C "wants" fw
section
variable {P:Program} {w:World} {K:PySem.W.Frag} {mg:Str→Option Value} {base:Heap} {f:Addr} {fd:FuncData}
def jJ (K:PySem.W.Frag):Sp:=fun vs H Q _=>∃ (x C dx:Addr) (n:Int),vs=[.ref x]∧H x=some (.ins C dx [("need",.int n)])∧Cls K C∧NoAttr K C "need"∧Q (.int n) H
theorem vi:FnScope ["self"] ["self"] (ar mC):=⟨rfl,rfl,rfl,by decide +kernel,rfl,by decide +kernel,by decide +kernel⟩
theorem vC (F:Fun K "wants" "Rule.wants" mC f fd):FnOk P w K mg base CX0 1 f fd ["self"] (jJ K):=by
 refine F.ok vi (fun vs H Q E h=>?_) (fun cdv A outer s H vs Q E hr h=>?_)
 ·obtain ⟨x,C,dx,n,rfl,_⟩:=h
  rfl
 obtain ⟨x,C,dx,n,rfl,hx,cl,na,q⟩:=h
 refine ⟨_,(ao (au (j1 (pv 0) rfl))),?_⟩
 exact ⟨_,rfl,x,C,dx,_,_,rfl,hx,cl,na,rfl,q⟩
def rL (K:PySem.W.Frag) (fw:Addr):Sp:=fun vs H Q _=>∃ (v:V) (b:Bell) (m:Nat),vs=[v]∧BellAt H v b∧GoodB m 0 true b∧∀ x H',Same H H'→RuleAt K fw H' x (cz b)→Q (.ref x) H'
theorem CD:FnScope ["bell"] ["bell"] (ar cE):=⟨rfl,rfl,rfl,by decide +kernel,rfl,by decide +kernel,by decide +kernel⟩
theorem Ci {cA cY cS cN fw:Addr} (F:Fun K "rule_of_bell" "rule_of_bell" cE f fd) (B:Blt mg) (oA:OwnW K cA fw) (oY:OwnW K cY fw) (oS:OwnW K cS fw) (C_rule:CalX P w K mg base 5 "rule_of" ["word","many"] (fF K cA cY cS cN)):FnOk P w K mg base CX0 6 f fd ["bell"] (rL K fw):=by
 refine F.ok CD (fun vs H Q E h=>?_) (fun cdv A outer s H vs Q E hr h=>?_)
 ·obtain ⟨v,b,m,rfl,_⟩:=h
  rfl
 obtain ⟨v,b,m,rfl,⟨a,t,ls,rfl,ha,ht,pr⟩,g,q⟩:=h
 refine ⟨_,(ao (au (aH C_rule.to0 hr (by decide) rfl (aa (av aT (pv 0) ak (fun _ _=>rfl)) (aa (ax aL rfl B.len_ PySem.boot_len (aa (av aT (pv 0) ak (fun _ _=>rfl)) ae)) ae))))),?_⟩
 refine ⟨_,rfl,a,_,_,_,rfl,rfl,SqT.of ha,rfl,_,rfl,a,_,_,_,rfl,rfl,SqT.of ha,rfl,t,_,rfl,.inr (SqT.of ht),?_⟩
 have hl:=aO pr
 rw [hl]
 have r:=g.r
 unfold cz at q
 refine ⟨_,_,rfl,?_⟩
 cases e:b.rule with
 | all=>rw [e] at q; exact .inl ⟨rfl,fun x dx H' s' _ hx=>q x H' s' ⟨cA,dx,hx,oA.cl,oA.nN,oA.w⟩⟩
 | any=>rw [e] at q; exact .inr (.inl ⟨rfl,fun x dx H' s' _ hx=>q x H' s' ⟨cY,dx,hx,oY.cl,oY.nN,oY.w⟩⟩)
 | num n =>
  rw [e] at q r
  exact .inr (.inr (.inl ⟨n,rfl,r.1,r.2,fun x dx H' s' _ hx=>q x H' s' ⟨cS,dx,hx,oS.cl,oS.nN,oS.w⟩⟩))
def lO:Sp:=fun vs H Q _=>∃ (v:V) (b:Bell) (m:Nat),vs=[v]∧BellAt H v b∧GoodB m 0 true b∧∀ H',Same H H'→Q (.str (eE b)) H'
theorem rh:FnScope ["bell","wants"] ["bell"] (ar g9):=⟨rfl,rfl,rfl,by decide +kernel,rfl,by decide +kernel,by decide +kernel⟩
theorem xD {fw:Addr} {dw:FuncData} (F:Fun K "show_rule" "show_rule" g9 f fd) (B:Blt mg) (GW:FnOk P w K mg base CX0 1 fw dw ["self"] (jJ K)) (bW:Binds K dw ["self"] []) (C_rob:Cal P w K mg base 6 "rule_of_bell" ["bell"] (rL K fw)):FnOk P w K mg base CX0 7 f fd ["bell"] lO:=by
 refine F.ok rh (fun vs H Q E h=>?_) (fun cdv A outer s H vs Q E hr h=>?_)
 ·obtain ⟨v,b,m,rfl,_⟩:=h
  rfl
 obtain ⟨v,b,m,rfl,hb,g,q⟩:=h
 have hr1:Room 1 _:=hr.mono (by decide)
 refine ⟨_,(af (aB (i:=1) rh.nd rfl (Or.inl rfl) (vX (pl:=_) (aH C_rob hr (by decide) rfl (aa (pv 0) ae)) GW hr1 bW .nil cj))
  (af (aP (az bN (pv 1) (ax aL rfl B.len_ PySem.boot_len (aa (av aT (pv 0) ak (fun _ _=>rfl)) ae)) (aI _))
  (ao (au aG))
  aw)
  (af (aP (az bN (pv 1) ak (aI _))
  (ao (au aG))
  aw)
  (ao (au (aX i5 rfl B.str_ PyProof.Rows.boot_str (aa (pv 1) ae))))))),?_⟩
 refine ⟨_,rfl,v,b,m,rfl,hb,g,fun x H1 s1 ⟨C,dx,hx,cl,nN,mt⟩=>?_⟩
 refine ⟨C,x,dx,_,rfl,hx,cl,mt,rfl,x,C,dx,_,rfl,hx,cl,nN,?_⟩
 obtain ⟨a,t,ls,rfl,ha,ht,pr⟩:=hb
 refine ⟨_,rfl,_,rfl,a,_,_,_,rfl,rfl,SqT.of (s1 _ _ ha),rfl,t,_,rfl,.inr (SqT.of (s1 _ _ ht)),rfl,_,rfl,?_⟩
 rw [aO pr]
 obtain ⟨w1,w2⟩:=jZ g
 have n6:=g.n6
 unfold eE at q
 refine cb (fun c=>?_) (fun c=>?_)
 ·rw [if_pos (V.int.inj (of_decide_eq_true c))] at q
  exact q H1 s1
 ·rw [if_neg (fun h=>c (decide_eq_true (congrArg V.int h)))] at q
  refine ⟨_,rfl,rfl,_,rfl,cb (fun c=>?_) (fun c=>?_)⟩
  ·rw [if_pos (V.int.inj (of_decide_eq_true c))] at q
   exact q H1 s1
  ·rw [if_neg (fun h=>c (decide_eq_true (congrArg V.int h)))] at q
   exact ⟨_,rfl,_,rfl,eM (by omega) (by omega),q H1 s1⟩
def pb:Sp:=fun vs H Q _=>∃ (v:V) (l:Lis) (nl:Addr) (names:List Str),vs=[v,.ref nl]∧LisAt H v l∧H nl=some (.lst (names.map V.str))∧(∀ x∈names,x.length≤8)∧l.whom<names.length∧1≤l.beats∧l.beats≤1000∧Q (.str (c5 names l)) H
theorem kO:FnScope ["listening","names","name","beats","end"] ["listening","names"] (ar dG):=⟨rfl,rfl,rfl,by decide +kernel,rfl,by decide +kernel,by decide +kernel⟩
theorem Ag (F:Fun K "show_listening" "show_listening" dG f fd):FnOk P w K mg base CX0 1 f fd ["listening","names"] pb:=by
 refine F.ok kO (fun vs H Q E h=>?_) (fun cdv A outer s H vs Q E hr h=>?_)
 ·obtain ⟨v,l,nl,names,rfl,_⟩:=h
  rfl
 obtain ⟨v,l,nl,names,rfl,⟨a,rfl,ha⟩,hnl,h8,hw,b1,bM,q⟩:=h
 refine ⟨_,(af (aB (i:=2) kO.nd rfl (Or.inl rfl) (av aE (pv 1) (av aT (pv 0) ak (fun _ _=>rfl)) (fun _ _=>rfl)))
  (af (aB (i:=3) kO.nd rfl (Or.inl rfl) (av aT (pv 0) ak (fun _ _=>rfl)))
  (fT (aB (i:=4) kO.nd rfl (Or.inl rfl) (fo (az bN (av aT (pv 0) ak (fun _ _=>rfl)) ak (aI _)) aG aG))
  (ao (au (AH (kX (tV (pv 2)) (kX aG (kX (tV (pv 3)) (kX (tV (pv 4)) BH)))))))))),?_⟩
 have hlen:=kN h8 b1 bM hw
 refine ⟨_,rfl,_,rfl,a,_,_,_,rfl,rfl,SqT.of ha,rfl,nl,_,_,_,rfl,rfl,SqL.of hnl,a9 (getD_at hw),?_⟩
 refine ⟨_,rfl,a,_,_,_,rfl,rfl,SqT.of ha,rfl,?_⟩
 refine ⟨fun σ H3=>σ=[some (.ref a),some (.ref nl),some (.str (names.getD l.whom Str.empty)),some (.int l.beats),some (.str (eg l))]∧H3=H,?_,?_⟩
 ·refine ⟨_,rfl,a,_,_,_,rfl,rfl,SqT.of ha,rfl,rfl,_,rfl,?_⟩
  unfold eg
  cases l.back with
  | true=>exact bg ⟨rfl,rfl⟩
  | false=>exact bc ⟨rfl,rfl⟩
 rintro σ H3 ⟨rfl,rfl⟩
 unfold c5 at hlen q
 have e1:=aQ (Str.empty++names.getD l.whom Str.empty++"+"++aK l.beats) (eg l)
 have e2:=aQ (Str.empty++names.getD l.whom Str.empty++"+") (aK l.beats)
 have e3:=aQ (Str.empty++names.getD l.whom Str.empty) "+"
 have e4:=aQ Str.empty (names.getD l.whom Str.empty)
 refine ⟨_,rfl,.inl ⟨_,rfl,by omega,_,rfl,by omega,_,rfl,by omega,?_⟩⟩
 refine ⟨_,rfl,.inr ⟨_,rfl,eM (by omega) (by omega),_,rfl,(by show ((Str.empty++names.getD l.whom Str.empty++"+")++aK l.beats).length≤1000; omega),?_⟩⟩
 exact ⟨_,rfl,.inl ⟨_,rfl,by omega,_,rfl,(by show ((Str.empty++names.getD l.whom Str.empty++"+"++aK l.beats)++eg l).length≤1000; omega),(by show ((Str.empty++names.getD l.whom Str.empty++"+"++aK l.beats)++eg l).length≤1000; omega),q⟩⟩
end
end K81
namespace K81
open PySem L2
theorem rk {names:List Str} {m:Nat} {b:Bell} (g:GoodB m 0 true b) (hm:m≤names.length) (h8:∀ x∈names,x.length≤8) (hb:b.name.length≤8):∀ y∈fK names b,y.length≤14:=by
 intro y hy
 unfold fK at hy
 rcases List.mem_append.mp hy with h | h
 ·rcases List.mem_cons.mp h with rfl | h
  ·omega
  rcases List.mem_cons.mp h with rfl | h
  ·have:=(fH g.s0 g.s1).2
   omega
  ·rw [List.mem_singleton.mp h]
   have:=yE g
   omega
 ·obtain ⟨l,hl,rfl⟩:=List.mem_map.mp h
  obtain ⟨g1,g2,g3,_⟩:=g.l l hl
  exact kN h8 g2 g3 (by omega)
theorem nH {names:List Str} {m:Nat} {b:Bell} (g:GoodB m 0 true b):(fK names b).length≤9:=by
 unfold fK
 rw [List.length_append,List.length_map]
 have:=g.n6
 show 3+b.lis.length≤9
 omega
theorem Aa {names:List Str} {m:Nat} {b:Bell} (g:GoodB m 0 true b) (hm:m≤names.length) (h8:∀ x∈names,x.length≤8) (hb:b.name.length≤8):(nz names b).length≤140:=by
 have h1:=rk g hm h8 hb
 have h2:=StrLaws.sumLen_le _ h1
 have h3:=nH (names:=names) g
 have h4:=StrLaws.join_length_le " " (fK names b)
 have e1:(" ":Str).length=1:=by decide +kernel
 have e2:nz names b=Str.join " " (fK names b):=StrLaws.glued_eq_join _ _
 rw [e2]
 rw [e1] at h4
 omega
theorem yI {names:List Str} {m:Nat} {b:Bell} (g:GoodB m 0 true b) (hm:m≤names.length) (h8:∀ x∈names,x.length≤8) (hb:b.name.length≤8):JoinOk " " (fK names b)=true:=by
 have h2:=StrLaws.sumLen_le _ (rk g hm h8 hb)
 have h3:=nH (names:=names) g
 have e1:(" ":Str).length=1:=by decide +kernel
 refine PyProof.Rows.joinOk_of ?_
 rw [e1]
 omega
section
variable {P:Program} {w:World} {K:PySem.W.Frag} {mg:Str→Option Value} {base:Heap} {f:Addr} {fd:FuncData}
def ng:Sp:=fun vs H Q _=>∃ (v:V) (b:Bell) (nl:Addr) (names:List Str) (m:Nat),vs=[v,.ref nl]∧BellAt H v b∧H nl=some (.lst (names.map V.str))∧(∀ x∈names,x.length≤8)∧GoodB m 0 true b∧m≤names.length∧b.name.length≤8∧∀ H',Same H H'→Q (.str (nz names b)) H'
theorem qr:FnScope ["bell","names","words"] ["bell","names"] (ar gX):=⟨rfl,rfl,rfl,by decide +kernel,rfl,by decide +kernel,by decide +kernel⟩
theorem xo (F:Fun K "show_bell" "show_bell" gX f fd) (B:Blt mg) (C_srule:Cal P w K mg base 7 "show_rule" ["bell"] lO) (C_slis:Cal P w K mg base 1 "show_listening" ["listening","names"] pb):FnOk P w K mg base CX0 8 f fd ["bell","names"] ng:=by
 refine F.ok qr (fun vs H Q E h=>?_) (fun cdv A outer s H vs Q E hr h=>?_)
 ·obtain ⟨v,b,nl,names,m,rfl,_⟩:=h
  rfl
 obtain ⟨v,b,nl,names,m,rfl,hb,hnl,h8,g,hm,hbn,q⟩:=h
 refine ⟨_,(af (aB (i:=2) qr.nd rfl (Or.inl rfl) (bZ (aa (av aT (pv 0) ak (fun _ _=>rfl)) (aa (aX i5 rfl B.str_ PyProof.Rows.boot_str (aa (av aT (pv 0) ak (fun _ _=>rfl)) ae)) (aa (aH C_srule hr (by decide) rfl (aa (pv 0) ae)) ae)))))
  (ao (au (cw PySem.F.plainAttrs_str PySem.F.slot_str_join PySem.F.type_str_join eI aG (aa (aV sv (pv 2) (bz ["listening"] ["names"] [1] rfl (cD (av aT (pv 0) ak (fun _ _=>rfl))) (fun _ _ _ _ _=>(ay (i:=0) (show List.Nodup [("listening":Str),("names":Str)] by decide +kernel) rfl (Or.inl rfl))) (fun _ _ _ _ _=>bp) (fun _ _ _ _ _=>(aH C_slis hr (by decide) rfl (aa (pv 0) (aa (pv 1) ae)))))) ae))))),?_⟩
 have hb0:=hb
 obtain ⟨a,t,ls,rfl,ha,ht,pr⟩:=hb0
 have hll:=aO pr
 refine ⟨_,rfl,a,_,_,_,rfl,rfl,SqT.of ha,rfl,_,rfl,a,_,_,_,rfl,rfl,SqT.of ha,rfl,_,rfl,eM g.s0 g.s1,_,rfl,_,b,m,rfl,hb,g,fun H1 s1=>?_⟩
 refine ⟨(by show 3≤sizeLine; decide),fun wl hwl=>?_⟩
 have v1:=aq hwl (.lst [.str b.name,.str (aK b.start),.str (eE b)])
 have hW:(upd H1 wl (.lst [.str b.name,.str (aK b.start),.str (eE b)])) wl=some (.lst [.str b.name,.str (aK b.start),.str (eE b)]):=ah
 have s2:=s1.trans v1
 refine ⟨rfl,_,rfl,_,rfl,a,_,_,_,rfl,rfl,SqT.of (s2 _ _ ha),rfl,t,rfl,⟨_,SqT.of (s2 _ _ ht)⟩,fun D hD=>?_⟩
 refine bV (K:=K) (a:=t) (xs:=ls) (fun i ys H3=>Same (upd H1 wl (.lst [.str b.name,.str (aK b.start),.str (eE b)])) H3∧ys=((b.lis.take i).map (c5 names)).map V.str) ⟨aq hD _,rfl⟩ (fun i ys H3 _ ⟨z,_⟩=>SqT.of ((s2.trans z) _ _ ht)) ?_ ?_
 ·rintro i x ys H3 hx ⟨s3,rfl⟩ hD3
  obtain ⟨l,hl,hlx⟩:=bh pr hx
  obtain ⟨g1,g2,g3,_⟩:=g.l l (List.mem_of_getElem? hl)
  have hi:=(List.getElem?_eq_some_iff.mp hl).1
  have s03:=s2.trans s3
  refine ⟨rfl,aW ?_⟩
  refine ⟨_,rfl,_,rfl,x,l,nl,names,rfl,hlx.mono (Same.tup s03),s03 _ _ hnl,h8,by omega,g2,g3,?_⟩
  refine ⟨_,hD3,?_,_,⟨s3.upd hD _,rfl⟩,?_⟩
  ·rw [List.length_map,List.length_map,List.length_take]
   have:=g.n6
   exact aJ (by omega)
  ·rw [take_snoc hl,List.map_append,List.map_append]
   exact ah
 rintro ys H3 ⟨s3,rfl⟩ hD3
 rw [hll,List.take_length] at hD3
 have n6:=g.n6
 refine ⟨wl,D,_,_,rfl,rfl,s3 _ _ hW,hD3,(by show 3+((b.lis.map (c5 names)).map V.str).length≤sizeLine; rw [List.length_map,List.length_map,sizeLine_eq]; omega),fun p hp=>?_⟩
 refine ⟨_,p,fK names b,rfl,rfl,?_,yI g hm h8 hbn,?_⟩
 ·rw [ah]
  unfold fK
  rw [List.map_append]
  rfl
 ·exact q _ ((s2.trans s3).trans (aq hp _))
def pV:Sp:=fun vs H Q _=>∃ (v:V) (c:List Bell),vs=[v]∧ChoirAt H v c∧c.length≤6∧(∀ b∈c,b.name.length≤8)∧(∀ b∈c,GoodB c.length 0 true b)∧∀ (H':Hp) (p:Addr),Same H H'→H p=none→H' p=some (.lst ((c.map (nz (c.map (·.name)))).map V.str))→Q (.ref p) H'
theorem uH:FnScope ["choir","names"] ["choir"] (ar gK):=⟨rfl,rfl,rfl,by decide +kernel,rfl,by decide +kernel,by decide +kernel⟩
theorem zI (F:Fun K "show_choir" "show_choir" gK f fd) (C_names_of:Cal P w K mg base 1 "names_of" ["choir"] h7) (C_sbell:Cal P w K mg base 8 "show_bell" ["bell","names"] ng):FnOk P w K mg base CX0 9 f fd ["choir"] pV:=by
 refine F.ok uH (fun vs H Q E h=>?_) (fun cdv A outer s H vs Q E hr h=>?_)
 ·obtain ⟨v,c,rfl,_⟩:=h
  rfl
 obtain ⟨v,c,rfl,hc,c6,h8,g,q⟩:=h
 refine ⟨_,(af (aB (i:=1) uH.nd rfl (Or.inr rfl) (aH C_names_of hr (by decide) rfl (aa (pv 0) ae)))
  (ao (au (bz ["bell"] ["names"] [1] rfl (cD (pv 0)) (fun _ _ _ _ _=>(ay (i:=0) (show List.Nodup [("bell":Str),("names":Str)] by decide +kernel) rfl (Or.inl rfl))) (fun _ _ _ _ _=>bp) (fun _ _ _ _ _=>(aH C_sbell hr (by decide) rfl (aa (pv 0) (aa (pv 1) ae)))))))),?_⟩
 refine ⟨_,rfl,v,c,rfl,hc,c6,fun H1 nl s1 _ hnl=>?_⟩
 obtain ⟨a,bs,rfl,ha,prb⟩:=hc
 have hbl:=aO prb
 refine ⟨_,rfl,a,rfl,⟨_,SqT.of (s1 _ _ ha)⟩,fun D hD=>?_⟩
 refine bV (K:=K) (a:=a) (xs:=bs) (fun j ys H2=>Same H1 H2∧ys=((c.take j).map (nz (c.map (·.name)))).map V.str) ⟨aq hD _,rfl⟩ (fun j ys H2 _ ⟨z,_⟩=>SqT.of ((s1.trans z) _ _ ha)) ?_ ?_
 ·rintro j y ys H2 hj ⟨s2,rfl⟩ hD2
  obtain ⟨b,hb,hby⟩:=bh prb hj
  have hbm:=List.mem_of_getElem? hb
  have hj6:j<c.length:=(List.getElem?_eq_some_iff.mp hb).1
  have s02:=s1.trans s2
  refine ⟨rfl,aW ?_⟩
  refine ⟨_,rfl,_,rfl,y,b,nl,c.map (·.name),c.length,rfl,hby.mono (Same.tup s02),s2 _ _ hnl,?_,g b hbm,by rw [List.length_map]; exact Nat.le_refl _,h8 b hbm,fun H3 s3=>?_⟩
  ·intro x hx
   obtain ⟨b',hb',rfl⟩:=List.mem_map.mp hx
   exact h8 b' hb'
  refine ⟨_,s3 _ _ hD2,?_,_,⟨(s2.trans s3).upd hD _,rfl⟩,?_⟩
  ·rw [List.length_map,List.length_map,List.length_take]
   exact aJ (by omega)
  ·rw [take_snoc hb,List.map_append,List.map_append]
   exact ah
 ·rintro ys H2 ⟨s2,rfl⟩ hD2
  rw [hbl,List.take_length] at hD2
  exact q H2 D (s1.trans s2) (s1.free hD) hD2
end
end K81
namespace K81
open PySem L2
def iV (l:Lis):Th:=.tup [.int l.whom,.int l.beats,.int (if l.back then 1 else 0)]
def rwT:RW→Th
 | .all=>.str "all"
 | .any=>.str "any"
 | .num n=>.int n
def kA (b:Bell):Th:=.tup [.str b.name,.int b.start,rwT b.rule,.tup (b.lis.map iV)]
theorem wK {H:Hp} {v:V} {l:Lis} (h:ThAt H (iV l) v):LisAt H v l:=by
 obtain ⟨a,vs,rfl,ha,v1,r1,rfl,e1,v2,r2,rfl,e2,v3,r3,rfl,e3,e4⟩:=h
 cases e1; cases e2; cases e3; cases e4
 exact ⟨a,rfl,ha⟩
theorem lA {H:Hp}:∀ {ls:List Lis} {vs:List V},ThsAt H (ls.map iV) vs→Paired (LisAt H) vs ls
 | [],_,h=>by cases h; exact .nil
 | _::_,_,⟨_,_,e,h1,h2⟩=>by subst e; exact .cons (wK h1) (lA h2)
theorem wZ {H:Hp} {r:RW} {v:V} (h:ThAt H (rwT r) v):v=rwV r:=by
 cases r with
 | all=>exact h.1
 | any=>exact h.1
 | num n=>exact h
theorem tR {H:Hp} {v:V} {b:Bell} (h:ThAt H (kA b) v):BellAt H v b:=by
 obtain ⟨a,vs,rfl,ha,v1,r1,rfl,⟨e1,_⟩,v2,r2,rfl,e2,v3,r3,rfl,e3,v4,r4,rfl,⟨t,ls,e4,ht,hl⟩,e5⟩:=h
 have e3':=wZ e3
 cases e1; cases e2; cases e3'; cases e4; cases e5
 exact ⟨a,t,ls,rfl,ha,ht,lA hl⟩
theorem kx {H:Hp}:∀ {c:List Bell} {vs:List V},ThsAt H (c.map kA) vs→Paired (BellAt H) vs c
 | [],_,h=>by cases h; exact .nil
 | _::_,_,⟨_,_,e,h1,h2⟩=>by subst e; exact .cons (tR h1) (kx h2)
theorem qd {H:Hp} {v:V} {c:List Bell} (h:ThAt H (.tup (c.map kA)) v):ChoirAt H v c:=by
 obtain ⟨a,vs,rfl,ha,hb⟩:=h
 exact ⟨a,vs,rfl,ha,kx hb⟩
def rwS:RW→Str
 | .all=>"all"
 | .any=>"any"
 | .num n=>aK n
def dX (b:Bell):RW:=if cz b=b.lis.length then .all else if cz b=1 then .any else .num (cz b)
def fB (b:Bell) (r:RW):Bell:=⟨b.name,b.start,r,b.lis⟩
theorem zX (b:Bell):eE b=rwS (dX b):=by
 unfold eE dX
 split
 ·rfl
 split
 ·rfl
 ·rfl
theorem tW {m k:Nat} {t:Bool} {b:Bell} (g:GoodB m k t b):GoodR b.lis.length (dX b):=by
 obtain ⟨w1,w2⟩:=jZ g
 unfold dX
 split
 ·trivial
 split
 ·trivial
 ·exact ⟨w1,w2⟩
theorem Ar {c:Nat} (h:fE c=true):97≤c∧c≤122:=by
 unfold fE at h
 rcases StrLaws.occ_head du ⟨#[c]⟩ 1 (Nat.le_refl _) with ⟨e,_⟩ | ⟨i,r,_,h2,_⟩
 ·rw [e] at h
  cases h
 ·have hm:=List.mem_of_getElem? ((StrLaws.subAt_one du c i).mp h2)
  have all:∀ c∈du.cps.toList,97≤c∧c≤122:=by decide +kernel
  exact all c hm
theorem dI {z:Str} (h:bJ z=true):∀ c∈z.cps.toList,97≤c∧c≤122:=fun c hc=>by
 have h':(decide (1≤z.length) && decide (z.length≤8) && z.cps.toList.all fE)=true:=h
 rw [Bool.and_eq_true] at h'
 exact Ar (List.all_eq_true.mp h'.2 c hc)
theorem de {n:Int} (h0:0≤n) (h1:n≤1000):∀ c∈(aK n).cps.toList,48≤c∧c≤57:=by
 obtain ⟨m,rfl⟩:∃ m:Nat,n=m:=⟨n.toNat,by omega⟩
 exact jh (by omega)
theorem qB {m:Nat} (h:m<1001):eC (aK (m:Int)) 9=true:=by
 obtain ⟨l1,l4⟩:=dr h
 unfold eC
 have ha:(aK (m:Int)).cps.toList.all ju=true:=List.all_eq_true.mpr fun c hc=>wC (jh h c hc).1 (jh h c hc).2
 rw [decide_eq_true l1,decide_eq_true (show ((aK (m:Int)).length:Int)≤9 by omega),ha]
 show (decide (aK (m:Int)="0") || decide ((aK (m:Int)).cps.toList[0]?≠some 48))=true
 rcases (uK m h).2.2.2 with e | e
 ·rw [decide_eq_true (show aK (m:Int)="0" from cZ (by rw [ib,e,qU]))]
  rfl
 ·rw [decide_eq_true (show (aK (m:Int)).cps.toList[0]?≠some 48 by rw [ib]; exact e),Bool.or_true]
theorem jU {n:Int} (h0:0≤n) (h1:n≤1000):kK (aK n)=.int n:=by
 obtain ⟨m,rfl⟩:∃ m:Nat,n=m:=⟨n.toNat,by omega⟩
 have h:m<1001:=by omega
 have hw:=qB h
 obtain ⟨d1,d2,d3⟩:=ki hw
 have e:=PySem.intText_digits d1 d2 (by omega)
 rw [eP h] at e
 unfold kK
 rw [if_pos hw]
 exact congrArg Th.int (Option.some.inj e).symm
theorem j9:∀ c∈("all":Str).cps.toList,97≤c:=by decide +kernel
theorem jP:∀ c∈("any":Str).cps.toList,97≤c:=by decide +kernel
theorem yA {n:Int} (h0:0≤n) (h1:n≤1000) {z:Str} (hz:∀ c∈z.cps.toList,97≤c):aK n≠z:=fun e=>by
 have hl:=(fH h0 h1).1
 have hne:(aK n).cps.toList≠[]:=fun q=>by
  rw [← bj,q] at hl
  exact absurd hl (by decide)
 obtain ⟨c,hc⟩:=List.exists_mem_of_ne_nil _ hne
 have a:=de h0 h1 c hc
 rw [e] at hc
 have b:=hz c hc
 omega
theorem wM {n:Nat} {r:RW} (g:GoodR n r) (h:n≤1000):lH (rwS r)=rwT r:=by
 cases r with
 | all=>exact if_pos (.inl rfl)
 | any=>exact if_pos (.inr rfl)
 | num i =>
  have g':1≤i∧i≤(n:Int):=g
  unfold lH rwS
  rw [if_neg (fun q=>q.elim (yA (by omega) (by omega) j9) (yA (by omega) (by omega) jP))]
  exact jU (by omega) (by omega)
theorem nh (names:List Str) (l:Lis):(c5 names l).cps.toList=(names.getD l.whom Str.empty).cps.toList++43::(aK l.beats++eg l).cps.toList:=by
 unfold c5
 simp only [bB,rb,List.append_assoc]
 rfl
theorem rP {names:List Str} {i:Nat} {z:Str} (nd:names.Nodup) (h:names[i]?=some z):names.findIdx (fun x=>decide (x=z))=i:=by
 obtain ⟨f1,_⟩:=uo (List.mem_of_getElem? h)
 exact (List.getElem?_inj (List.getElem?_eq_some_iff.mp f1).1 nd).mp (f1.trans h.symm)
theorem Dm {n:Int} (h0:0≤n) (h1:n≤1000):61∉(aK n).cps.toList:=fun h=>by
 have:=de h0 h1 _ h
 omega
theorem wt {n:Int} (h0:0≤n) (h1:n≤1000) (l:Lis):Txt.endswith (aK n++eg l) "="=!l.back∧(l.back=true→aK n++eg l=aK n)∧(l.back=false→(aK n++eg l).cps.toList=(aK n).cps.toList++[61]):=by
 unfold eg
 rw [eq_str]
 cases l.back with
 | true =>
  have e:aK n++(if true=true then ("":Str) else ⟨#[61]⟩)=aK n:=cZ (by rw [bB]; exact List.append_nil _)
  refine ⟨?_,fun _=>e,(fun h=>by cases h)⟩
  rw [e]
  exact w9 (Dm h0 h1)
 | false =>
  have e:(aK n++(if false=true then ("":Str) else ⟨#[61]⟩)).cps.toList=(aK n).cps.toList++[61]:=by rw [bB]; rfl
  exact ⟨vw e,(fun h=>by cases h),fun _=>e⟩
theorem qW {n:Int} (h0:0≤n) (h1:n≤1000) (l:Lis):g5 (aK n++eg l)=aK n∧qv (aK n++eg l)=if l.back then 1 else 0:=by
 obtain ⟨e1,e2,e3⟩:=wt h0 h1 l
 unfold g5 qv
 rw [e1]
 cases hb:l.back with
 | true=>exact ⟨e2 hb,rfl⟩
 | false=>exact ⟨sG (e3 hb),rfl⟩
theorem uR {names:List Str} {l:Lis} {nm:Str} (nd:names.Nodup) (hw:names[l.whom]?=some nm) (hn:gj (.str nm)=true) (h1:1≤l.beats) (h2:l.beats≤1000):qT names (c5 names l)=iV l:=by
 have hg:names.getD l.whom Str.empty=nm:=by rw [List.getD_eq_getElem?_getD,hw]; rfl
 have hwd:bJ nm=true:=by
  have h':(bJ nm && !decide (nm∈gg))=true:=hn
  rw [Bool.and_eq_true] at h'
  exact h'.1
 have hp:Txt.partition (c5 names l) "+"=(nm,⟨#[43]⟩,aK l.beats++eg l):=by
  rw [rb]
  refine nA (by rw [nh,hg]) fun h=>?_
  have:=dI hwd _ h
  omega
 obtain ⟨b1,b2⟩:=qW (n:=l.beats) (by omega) h2 l
 unfold qT
 rw [hp]
 dsimp only
 rw [if_pos ⟨hn,List.mem_of_getElem? hw⟩,rP nd hw,b1,b2,jU (by omega) h2]
 rfl
theorem y8 {names:List Str} {l:Lis} {nm:Str} (hw:names[l.whom]?=some nm) (hn:bJ nm=true) (h1:1≤l.beats) (h2:l.beats≤1000):32∉(c5 names l).cps.toList:=fun h=>by
 have hg:names.getD l.whom Str.empty=nm:=by rw [List.getD_eq_getElem?_getD,hw]; rfl
 rw [nh,hg,bB] at h
 rcases List.mem_append.mp h with h | h
 ·have:=dI hn _ h
  omega
 rcases List.mem_cons.mp h with h | h
 ·cases h
 rcases List.mem_append.mp h with h | h
 ·have:=de (by omega) h2 _ h
  omega
 ·unfold eg at h
  rw [eq_str] at h
  split at h
  ·cases h
  ·rcases List.mem_cons.mp h with h | h <;> cases h
theorem yF {n:Nat} {r:RW} (g:GoodR n r) (h:n≤1000):32∉(rwS r).cps.toList:=fun q=>by
 cases r with
 | all=>have:=j9 _ q; omega
 | any=>have:=jP _ q; omega
 | num i =>
  have g':1≤i∧i≤(n:Int):=g
  have:=de (n:=i) (by omega) (by omega) _ q
  omega
def uD (names:List Str) (b:Bell):Prop:=∀ l∈b.lis,∃ nm,names[l.whom]?=some nm∧gj (.str nm)=true
theorem nQ {z:Str} (h:gj (.str z)=true):bJ z=true:=by
 have h':(bJ z && !decide (z∈gg))=true:=h
 rw [Bool.and_eq_true] at h'
 exact h'.1
theorem oa {m:Nat} {names:List Str} {b:Bell} {r:RW} (hd:uD names b) (hw:bJ b.name=true) (g:GoodB m 0 true b) (gr:GoodR b.lis.length r):Txt.split (iQ names b (rwS r)) " "=[b.name,aK b.start,rwS r]++b.lis.map (c5 names):=by
 have n6:=g.n6
 rw [uG]
 refine iN (by unfold iQ; rw [uG,ot]) (by simp) fun p hp=>?_
 rcases List.mem_append.mp hp with hp | hp
 ·rcases List.mem_cons.mp hp with rfl | hp
  ·intro h
   have:=dI hw _ h
   omega
  rcases List.mem_cons.mp hp with rfl | hp
  ·intro h
   have:=de g.s0 g.s1 _ h
   omega
  rcases List.mem_cons.mp hp with rfl | hp
  ·exact yF gr (by omega)
  ·cases hp
 ·obtain ⟨l,hl,rfl⟩:=List.mem_map.mp hp
  obtain ⟨nm,h1,h2⟩:=hd l hl
  exact y8 h1 (nQ h2) (g.l l hl).2.1 (g.l l hl).2.2.1
theorem we {m:Nat} {names:List Str} {b:Bell} {r:RW} (nd:names.Nodup) (hd:uD names b) (hw:bJ b.name=true) (g:GoodB m 0 true b) (gr:GoodR b.lis.length r):gk names (iQ names b (rwS r))=kA (fB b r):=by
 have n1:=g.n1
 have n6:=g.n6
 unfold gk
 rw [oa hd hw g gr,if_neg (by rw [List.length_append,List.length_map]; show ¬ 3+b.lis.length<4; omega)]
 show Th.tup [.str b.name,kK (aK b.start),lH (rwS r),.tup ((b.lis.map (c5 names)).map (qT names))]=.tup [.str b.name,.int b.start,rwT r,.tup (b.lis.map iV)]
 rw [jU g.s0 g.s1,wM gr (by omega),List.map_map]
 have e:b.lis.map (qT names ∘ c5 names)=b.lis.map iV:=List.map_congr_left fun l hl=>by
  obtain ⟨nm,h1,h2⟩:=hd l hl
  exact uR nd h1 h2 (g.l l hl).2.1 (g.l l hl).2.2.1
 rw [e]
theorem yD {m:Nat} {names:List Str} {b:Bell} {r:RW} (hd:uD names b) (hw:bJ b.name=true) (g:GoodB m 0 true b) (gr:GoodR b.lis.length r):eD (iQ names b (rwS r))=b.name:=by
 unfold eD
 rw [oa hd hw g gr]
 rfl
theorem Aj:∀ c∈du.cps.toList,fE c=true:=by decide +kernel
theorem xY {z:Str} (h:iJ z) (h1:1≤z.length) (h8:z.length≤8):bJ z=true:=by
 show (decide (1≤z.length) && decide (z.length≤8) && z.cps.toList.all fE)=true
 rw [decide_eq_true h1,decide_eq_true h8]
 show z.cps.toList.all fE=true
 rw [List.all_eq_true]
 exact fun c hc=>Aj c (h c hc)
theorem lh {i lo hi:Int} (h1:lo≤i) (h2:i≤hi):inT (.int i) lo hi=true:=by
 show (decide (lo≤i) && decide (i≤hi))=true
 rw [decide_eq_true h1,decide_eq_true h2]
 rfl
theorem xE {m:Nat} {l:Lis} (g:xq m 0 true l):k8 (iV l) m=true:=by
 show (inT (.int l.whom) 0 ((m:Int) - 1) && (inT (.int l.beats) 1 1000 && inT (.int (if l.back then 1 else 0)) 0 1))=true
 have g1:=g.1
 rw [lh (by omega) (by omega),lh g.2.1 g.2.2.1,lh (by split <;> omega) (by split <;> omega)]
 rfl
theorem v7 {m:Nat} {b:Bell} {ahead:List Str} (g:GoodB m 0 true b) (hw:bJ b.name=true) (h4:b.name∉gg) (ha:b.name∉ahead):nU (kA b) ahead m=true:=by
 show (gj (.str b.name) && !inA (.str b.name) ahead && inT (.int b.start) 0 1000 && (js (.tup (b.lis.map iV)) m && my (rwT b.rule) (((b.lis.map iV).length:Nat):Int)))=true
 have e1:gj (.str b.name)=true:=by
  show (bJ b.name && !decide (b.name∈gg))=true
  rw [hw,decide_eq_false h4]
  rfl
 have e2:inA (.str b.name) ahead=false:=decide_eq_false ha
 have e3:js (.tup (b.lis.map iV)) m=true:=by
  show (decide (1≤(b.lis.map iV).length) && decide ((b.lis.map iV).length≤6) && (b.lis.map iV).all (fun t=>k8 t m))=true
  rw [List.length_map,decide_eq_true g.n1,decide_eq_true g.n6]
  show (b.lis.map iV).all (fun t=>k8 t m)=true
  rw [List.all_eq_true]
  intro t ht
  obtain ⟨l,hl,rfl⟩:=List.mem_map.mp ht
  exact xE (g.l l hl)
 have e4:my (rwT b.rule) (((b.lis.map iV).length:Nat):Int)=true:=by
  rw [List.length_map]
  have gr:=g.r
  cases er:b.rule with
  | all=>rfl
  | any=>show (decide (("any":Str)="all") || decide (("any":Str)="any"))=true; decide +kernel
  | num n =>
   rw [er] at gr
   show (decide (1≤n) && decide (n≤((b.lis.length:Nat):Int)))=true
   rw [decide_eq_true gr.1,decide_eq_true gr.2]
   rfl
 rw [e1,e2,lh g.s0 g.s1,e3,e4]
 rfl
structure GoodC (c:List Bell):Prop where
 c1:1≤c.length
 c6:c.length≤6
 gb:∀ b∈c,GoodB c.length 0 true b
 wd:∀ b∈c,bJ b.name=true
 f4:∀ b∈c,b.name∉gg
 nd:(c.map (·.name)).Nodup
theorem GoodC.of {c:List Bell} {ahead names:List Str} (g:GoodNm ahead names) (c1:1≤c.length) (c6:c.length≤6) (hcn:c.map (·.name)=names.take c.length) (gb:∀ b∈c,GoodB c.length 0 true b):GoodC c:=by
 have inN:∀ b∈c,b.name∈names:=fun b hb=>by
  have:b.name∈c.map (·.name):=List.mem_map.mpr ⟨b,hb,rfl⟩
  rw [hcn] at this
  exact List.mem_of_mem_take this
 refine ⟨c1,c6,gb,fun b hb=>xY (g.lw _ (inN b hb)) (g.ln _ (inN b hb)).1 (g.ln _ (inN b hb)).2,fun b hb=>(g.fr _ (inN b hb)).2,?_⟩
 rw [hcn]
 exact g.nd.sublist (List.take_sublist _ _)
theorem GoodC.len {c:List Bell} (g:GoodC c):∀ b∈c,b.name.length≤8:=fun b hb=>by
 have h:=g.wd b hb
 have h':(decide (1≤b.name.length) && decide (b.name.length≤8) && b.name.cps.toList.all fE)=true:=h
 rw [Bool.and_eq_true,Bool.and_eq_true] at h'
 exact of_decide_eq_true h'.1.2
theorem GoodC.heard {c:List Bell} (g:GoodC c) {b:Bell} (hb:b∈c):uD (c.map (·.name)) b:=fun l hl=>by
 have hw:=((g.gb b hb).l l hl).1
 refine ⟨c[l.whom].name,by rw [List.getElem?_map,List.getElem?_eq_getElem hw]; rfl,?_⟩
 show (bJ c[l.whom].name && !decide (c[l.whom].name∈gg))=true
 rw [g.wd _ (List.getElem_mem hw),decide_eq_false (g.f4 _ (List.getElem_mem hw))]
 rfl
theorem GoodC.fresh {c:List Bell} (g:GoodC c) {i:Nat} {b:Bell} (h:c[i]?=some b):b.name∉(c.map (·.name)).take i:=fun hin=>by
 obtain ⟨j,hj⟩:=List.getElem?_of_mem hin
 have hji:j<i:=by
  have:=(List.getElem?_eq_some_iff.mp hj).1
  rw [List.length_take] at this
  omega
 rw [List.getElem?_take_of_lt hji] at hj
 have e2:(c.map (·.name))[i]?=some b.name:=by rw [List.getElem?_map,h]; rfl
 have:=(List.getElem?_inj (List.getElem?_eq_some_iff.mp hj).1 g.nd).mp (hj.trans e2.symm)
 omega
theorem wq {c:List Bell} (g:GoodC c) (rs:Bell→RW) (hr:∀ b∈c,GoodR b.lis.length (rs b)) {zs:List Str} (hz:zs=c.map fun b=>iQ (c.map (·.name)) b (rwS (rs b))) :
  zs.map eD=c.map (·.name)∧zs.map (gk (zs.map eD))=(c.map fun b=>fB b (rs b)).map kA∧∀ i z,zs[i]?=some z→nU (gk (zs.map eD) z) ((zs.map eD).take i) zs.length=true:=by
 have h1:zs.map eD=c.map (·.name):=by
  rw [hz,List.map_map]
  exact List.map_congr_left fun b hb=>yD (g.heard hb) (g.wd b hb) (g.gb b hb) (hr b hb)
 have h2:∀ b∈c,gk (c.map (·.name)) (iQ (c.map (·.name)) b (rwS (rs b)))=kA (fB b (rs b)):=fun b hb=>we g.nd (g.heard hb) (g.wd b hb) (g.gb b hb) (hr b hb)
 refine ⟨h1,?_,fun i z hi=>?_⟩
 ·rw [h1,hz,List.map_map,List.map_map]
  exact List.map_congr_left h2
 ·rw [hz,List.getElem?_map] at hi
  cases e:c[i]? with
  | none=>rw [e] at hi; cases hi
  | some b =>
   rw [e] at hi
   have hb:=List.mem_of_getElem? e
   have e2:z=iQ (c.map (·.name)) b (rwS (rs b)):=(Option.some.inj hi).symm
   rw [h1,e2,h2 b hb,hz,List.length_map]
   have gb:=g.gb b hb
   exact v7 (b:=fB b (rs b)) ⟨gb.n1,gb.n6,gb.s0,gb.s1,hr b hb,gb.l⟩ (g.wd b hb) (g.f4 b hb) (show b.name∉_ from g.fresh e)
end K81
namespace K81
open PySem L2
theorem t4 {names:List Str} {m:Nat} {b:Bell} {w:Str} (hw:w.length≤4) (g:GoodB m 0 true b) (hm:m≤names.length) (h8:∀ x∈names,x.length≤8) (hb:b.name.length≤8):(iQ names b w).length≤140:=by
 have h1:∀ y∈[b.name,aK b.start,w]++b.lis.map (c5 names),y.length≤14:=by
  intro y hy
  rcases List.mem_append.mp hy with h | h
  ·rcases List.mem_cons.mp h with rfl | h
   ·omega
   rcases List.mem_cons.mp h with rfl | h
   ·have:=(fH g.s0 g.s1).2
    omega
   ·rw [List.mem_singleton.mp h]
    omega
  ·obtain ⟨l,hl,rfl⟩:=List.mem_map.mp h
   obtain ⟨g1,g2,g3,_⟩:=g.l l hl
   exact kN h8 g2 g3 (by omega)
 have h2:=StrLaws.sumLen_le _ h1
 have h3:([b.name,aK b.start,w]++b.lis.map (c5 names)).length≤9:=by
  rw [List.length_append,List.length_map]
  have:=g.n6
  show 3+b.lis.length≤9
  omega
 have h4:=StrLaws.join_length_le " " ([b.name,aK b.start,w]++b.lis.map (c5 names))
 have e1:(" ":Str).length=1:=by decide +kernel
 have e2:iQ names b w=Str.join " " ([b.name,aK b.start,w]++b.lis.map (c5 names)):=StrLaws.glued_eq_join _ _
 rw [e2]
 rw [e1] at h4
 omega
theorem rR {n:Nat} {r:RW} (g:GoodR n r) (h:n≤1000):(rwS r).length≤4:=by
 cases r with
 | all=>decide +kernel
 | any=>decide +kernel
 | num i =>
  have g':1≤i∧i≤(n:Int):=g
  exact (fH (by omega) (by omega)).2
theorem GoodC.shown {c:List Bell} (G:GoodC c):c.map (nz (c.map (·.name)))=c.map fun b=>iQ (c.map (·.name)) b (rwS (dX b)):=List.map_congr_left fun b _=>by
 rw [← zX]
 rfl
end K81
namespace K81.S
open PySem L2
def leO (o:Option Int) (v:Int):Bool:=match o with
 | some d=>decide (d≤v)
 | none=>false
def cnt (bs:List (Option Int)) (v:Int):Nat:=bs.countP (fun o=>leO o v)
def tot (bs:List (Option Int)):Nat:=bs.countP (fun o=>o.isSome)
def Due (bs:List (Option Int)) (n:Int):Option Int→Prop
 | none=>(tot bs:Int)<n
 | some v=>n≤(cnt bs v:Int)∧(cnt bs (v - 1):Int)<n
theorem qA {o:Option Int} {v v':Int} (h:v≤v') (e:leO o v=true):leO o v'=true:=by
 cases o with
 | none=>cases e
 | some d=>exact decide_eq_true (by have:=of_decide_eq_true e; omega)
theorem gU (bs:List (Option Int)) {v v':Int} (h:v≤v'):cnt bs v≤cnt bs v':=List.countP_mono_left fun _ _ e=>qA h e
theorem kW (bs:List (Option Int)) (v:Int):cnt bs v≤tot bs:=List.countP_mono_left fun o _ e=>by
 cases o with
 | none=>cases e
 | some d=>rfl
theorem cG {bs:List (Option Int)} {n:Int} {o o':Option Int} (h:Due bs n o) (h':Due bs n o'):o=o':=by
 cases o with
 | none =>
  cases o' with
  | none=>rfl
  | some v =>
   have h1:(tot bs:Int)<n:=h
   obtain ⟨h2,_⟩:=h'
   have:=kW bs v
   omega
 | some v =>
  cases o' with
  | none =>
   have h1:(tot bs:Int)<n:=h'
   obtain ⟨h2,_⟩:=h
   have:=kW bs v
   omega
  | some v' =>
   obtain ⟨a1,a2⟩:=h
   obtain ⟨b1,b2⟩:=h'
   rcases Int.lt_trichotomy v v' with c | c | c
   ·have:=gU bs (show v≤v' - 1 by omega)
    omega
   ·rw [c]
   ·have:=gU bs (show v'≤v - 1 by omega)
    omega
def wants (b:Bell):Int:=match b.rule with
 | .all=>b.lis.length
 | .any=>1
 | .num n=>n
def dZ (before now:List (Option Int)) (l:Lis):Option Int:=((if l.back then before else now)[l.whom]?).join.map (·+l.beats)
def aU (b:Bell) (before now:List (Option Int)):List (Option Int):=b.lis.map (dZ before now)
def Fix (c:List Bell) (before now:List (Option Int)):Prop:=now.length=c.length∧∀ (k:Nat) b,c[k]?=some b→∃ o,now[k]?=some o∧Due (aU b before now) (wants b) o
def gR (c:List Bell):Prop:=∀ (k:Nat) b,c[k]?=some b→∀ l∈b.lis,1≤l.beats
theorem iA {α:Type} (l:List α) (f:α→Option Int) (v:Int):cnt (l.map f) v=l.countP (fun x=>leO (f x) v):=by
 unfold cnt
 rw [List.countP_map]
 rfl
theorem eO {b:Bell} {before now now':List (Option Int)} {t:Int} (hs:∀ l∈b.lis,1≤l.beats) (h:∀ (k:Nat) u,u<t→now[k]?=some (some u)→now'[k]?=some (some u)):cnt (aU b before now) t≤cnt (aU b before now') t:=by
 unfold aU
 rw [iA,iA]
 refine List.countP_mono_left fun l hl e=>?_
 unfold dZ at e ⊢
 cases hb:l.back with
 | true=>rw [hb] at e; exact e
 | false =>
  rw [hb] at e
  simp only [Bool.false_eq_true,if_false] at e ⊢
  cases hn:now[l.whom]? with
  | none=>rw [hn] at e; cases e
  | some o =>
   cases o with
   | none=>rw [hn] at e; cases e
   | some u =>
    rw [hn] at e
    have e1:u+l.beats≤t:=of_decide_eq_true e
    have:=hs l hl
    rw [h l.whom u (by omega) hn]
    exact decide_eq_true e1
theorem low (l:List (Option Int)):∃ B:Int,∀ v,some v∈l→B≤v:=by
 induction l with
 | nil=>exact ⟨0,fun v h=>by cases h⟩
 | cons o r ih =>
  obtain ⟨B,hB⟩:=ih
  cases o with
  | none=>exact ⟨B,fun v h=>by
    rcases List.mem_cons.mp h with z | z
    ·cases z
    ·exact hB v z⟩
  | some d=>exact ⟨min B d,fun v h=>by
    rcases List.mem_cons.mp h with z | z
    ·have:=Option.some.inj z
     omega
    ·have:=hB v z
     omega⟩
theorem wz {c:List Bell} (hc:gR c) {before now now':List (Option Int)} (f:Fix c before now) (f':Fix c before now') {B:Int} (hB:∀ v,some v∈now→B≤v) (hB':∀ v,some v∈now'→B≤v) :
  ∀ (n:Nat) (k:Nat) v,v<B+n→(now[k]?=some (some v)↔now'[k]?=some (some v)):=by
 intro n
 induction n with
 | zero =>
  intro k v hv
  refine ⟨fun e=>?_,fun e=>?_⟩
  ·have:=hB v (List.mem_of_getElem? e); omega
  ·have:=hB' v (List.mem_of_getElem? e); omega
 | succ n ih =>
  have one:∀ {x y:List (Option Int)},Fix c before x→Fix c before y→(∀ (k:Nat) v,v<B+n→(x[k]?=some (some v)↔y[k]?=some (some v)))→∀ (k:Nat) v,v<B+(n+1:Nat)→x[k]?=some (some v)→y[k]?=some (some v):=by
   intro x y fx fy ih k v hv e
   have hk:k<c.length:=by
    rw [← fx.1]
    exact (List.getElem?_eq_some_iff.mp e).1
   have hb:=List.getElem?_eq_getElem hk
   obtain ⟨o,ho,hd⟩:=fx.2 k _ hb
   rw [e] at ho
   cases ho
   obtain ⟨o',ho',hd'⟩:=fy.2 k _ hb
   have hs:=hc k _ hb
   have a1:=eO (before:=before) (now:=x) (now':=y) (t:=v) hs fun k u hu z=>(ih k u (by omega)).mp z
   have a2:=eO (before:=before) (now:=y) (now':=x) (t:=v) hs fun k u hu z=>(ih k u (by omega)).mpr z
   have b1:=eO (before:=before) (now:=x) (now':=y) (t:=v - 1) hs fun k u hu z=>(ih k u (by omega)).mp z
   have b2:=eO (before:=before) (now:=y) (now':=x) (t:=v - 1) hs fun k u hu z=>(ih k u (by omega)).mpr z
   obtain ⟨d1,d2⟩:=hd
   have hd2:Due (aU c[k] before y) (wants c[k]) (some v):=⟨by omega,by omega⟩
   rw [ho',cG hd' hd2]
  intro k v hv
  exact ⟨one f f' ih k v hv,one f' f (fun k v h=>(ih k v h).symm) k v hv⟩
theorem c9 {c:List Bell} (hc:gR c) {before now now':List (Option Int)} (f:Fix c before now) (f':Fix c before now'):now=now':=by
 obtain ⟨B1,h1⟩:=low now
 obtain ⟨B2,h2⟩:=low now'
 have ag:=wz hc f f' (B:=min B1 B2) (fun v h=>by have:=h1 v h; omega) (fun v h=>by have:=h2 v h; omega)
 have all:∀ (k:Nat) v,now[k]?=some (some v)↔now'[k]?=some (some v):=fun k v=>ag (v - min B1 B2+1).toNat k v (by omega)
 refine List.ext_getElem? fun k=>?_
 by_cases hk:k<c.length
 ·have e1:=List.getElem?_eq_getElem (show k<now.length by rw [f.1]; exact hk)
  have e2:=List.getElem?_eq_getElem (show k<now'.length by rw [f'.1]; exact hk)
  cases o1:now[k]'(by rw [f.1]; exact hk) with
  | some v =>
   rw [o1] at e1
   rw [e1,(all k v).mp e1]
  | none =>
   rw [o1] at e1
   cases o2:now'[k]'(by rw [f'.1]; exact hk) with
   | none=>rw [o2] at e2; rw [e1,e2]
   | some v =>
    rw [o2] at e2
    have:=(all k v).mpr e2
    rw [e1] at this
    cases this
 ·rw [List.getElem?_eq_none (by rw [f.1]; omega),List.getElem?_eq_none (by rw [f'.1]; omega)]
structure Going (c:List Bell) (before now:List (Option Int)):Prop where
 len:now.length=c.length
 found:∀ (k:Nat) b v,c[k]?=some b→now[k]?=some (some v)→Due (aU b before now) (wants b) (some v)
 least:∀ (j:Nat) u (k:Nat) b v,now[j]?=some (some u)→c[k]?=some b→now[k]?=some none→Due (aU b before now) (wants b) (some v)→u≤v
theorem hX (c:List Bell) (before:List (Option Int)):Going c before (c.map fun _=>none) where
 len:=List.length_map _
 found:=fun k b v hb e=>by
  rw [List.getElem?_map,hb] at e
  cases e
 least:=fun j u k b v e _ _ _=>by
  rw [List.getElem?_map] at e
  cases h:c[j]? with
  | none=>rw [h] at e; cases e
  | some x=>rw [h] at e; cases e
theorem lY {c:List Bell} (hc:gR c) {before now:List (Option Int)} (g:Going c before now) {k:Nat} {b:Bell} {beat:Int} (hb:c[k]?=some b) (hn:now[k]?=some none) (hd:Due (aU b before now) (wants b) (some beat))
  (hl:∀ (j:Nat) b' v,c[j]?=some b'→now[j]?=some none→Due (aU b' before now) (wants b') (some v)→beat≤v):Going c before (now.set k (some beat)):=by
 have hk:k<now.length:=(List.getElem?_eq_some_iff.mp hn).1
 have old:∀ (j:Nat) u,u<beat→((now.set k (some beat))[j]?=some (some u)→now[j]?=some (some u)):=fun j u hu e=>by
  by_cases hj:j=k
  ·subst hj
   rw [List.getElem?_set_self hk] at e
   have:=Option.some.inj (Option.some.inj e)
   omega
  ·rw [List.getElem?_set_ne (Ne.symm hj)] at e
   exact e
 have new:∀ (j:Nat) u,(now[j]?=some (some u)→(now.set k (some beat))[j]?=some (some u)):=fun j u e=>by
  by_cases hj:j=k
  ·subst hj
   rw [hn] at e
   cases e
  ·rw [List.getElem?_set_ne (Ne.symm hj)]
   exact e
 have same:∀ (j:Nat) b',c[j]?=some b'→∀ t,t≤beat→cnt (aU b' before (now.set k (some beat))) t=cnt (aU b' before now) t:=fun j b' hj t ht=>by
  have a1:=eO (before:=before) (now:=now.set k (some beat)) (now':=now) (t:=t) (hc j b' hj) fun i u hu z=>old i u (by omega) z
  have a2:=eO (before:=before) (now:=now) (now':=now.set k (some beat)) (t:=t) (hc j b' hj) fun i u hu z=>new i u z
  omega
 refine ⟨by rw [List.length_set]; exact g.len,fun j b' v hj e=>?_,fun j u i b' v e hi ei hd'=>?_⟩
 ·by_cases hjk:j=k
  ·subst hjk
   rw [List.getElem?_set_self hk] at e
   obtain rfl:beat=v:=Option.some.inj (Option.some.inj e)
   rw [hb] at hj
   cases hj
   exact ⟨by rw [same j b hb beat (by omega)]; exact hd.1,by rw [same j b hb (beat - 1) (by omega)]; exact hd.2⟩
  ·rw [List.getElem?_set_ne (Ne.symm hjk)] at e
   have h1:=g.found j b' v hj e
   have h2:=g.least j v k b beat e hb hn hd
   exact ⟨by rw [same j b' hj v (by omega)]; exact h1.1,by rw [same j b' hj (v - 1) (by omega)]; exact h1.2⟩
 ·have hik:i≠k:=fun z=>by
   subst z
   rw [List.getElem?_set_self hk] at ei
   cases ei
  rw [List.getElem?_set_ne (Ne.symm hik)] at ei
  have hbv:beat≤v:=by
   refine Classical.byContradiction fun no=>?_
   have h1:Due (aU b' before now) (wants b') (some v):=⟨by rw [← same i b' hi v (by omega)]; exact hd'.1,by rw [← same i b' hi (v - 1) (by omega)]; exact hd'.2⟩
   have:=hl i b' v hi ei h1
   omega
  by_cases hjk:j=k
  ·subst hjk
   rw [List.getElem?_set_self hk] at e
   have:=Option.some.inj (Option.some.inj e)
   omega
  ·rw [List.getElem?_set_ne (Ne.symm hjk)] at e
   have:=g.least j u k b beat e hb hn hd
   omega
theorem iu {c:List Bell} {before now:List (Option Int)} (g:Going c before now) (h:∀ (k:Nat) b,c[k]?=some b→now[k]?=some none→Due (aU b before now) (wants b) none):Fix c before now:=by
 refine ⟨g.len,fun k b hb=>?_⟩
 have hk:k<now.length:=by rw [g.len]; exact (List.getElem?_eq_some_iff.mp hb).1
 have e:=List.getElem?_eq_getElem hk
 cases o:now[k] with
 | none=>rw [o] at e; exact ⟨none,e,h k b hb e⟩
 | some v=>rw [o] at e; exact ⟨some v,e,g.found k b v hb e⟩
def bO (bs:List (Option Int)):List Int:=bs.filterMap id
theorem vJ (bs:List (Option Int)):(bO bs).length=tot bs:=by
 induction bs with
 | nil=>rfl
 | cons o r ih =>
  cases o with
  | none=>exact ih
  | some d =>
   show (bO r).length+1=(some d::r).countP _
   rw [List.countP_cons,ih]
   rfl
theorem oo (bs:List (Option Int)) (v:Int):((bO bs).filter fun d=>decide (d≤v)).length=cnt bs v:=by
 induction bs with
 | nil=>rfl
 | cons o r ih =>
  unfold cnt at ih ⊢
  cases o with
  | none=>rw [List.countP_cons]; exact ih
  | some d =>
   show ((d::bO r).filter fun d=>decide (d≤v)).length=_
   rw [List.countP_cons,List.filter_cons]
   by_cases hd:d≤v
   ·rw [if_pos (decide_eq_true hd),List.length_cons,ih]
    simp [leO,hd]
   ·rw [if_neg (by simpa using hd),ih]
    simp [leO,hd]
theorem nV {ns:List Int} (o:ns.Pairwise (·≤·)) {i j:Nat} (hi:i≤j) (hj:j<ns.length):ns[i]'(by omega)≤ns[j]:=by
 rcases Nat.lt_or_ge i j with h | h
 ·exact List.pairwise_iff_getElem.mp o i j (by omega) hj h
 ·have e:i=j:=by omega
  subst e
  exact Int.le_refl _
theorem zK {ns:List Int} (o:ns.Pairwise (·≤·)) {k:Nat} (hk:k<ns.length):k+1≤(ns.filter fun d=>decide (d≤ns[k])).length:=by
 have h1:((ns.take (k+1)).filter fun d=>decide (d≤ns[k]))=ns.take (k+1):=by
  rw [List.filter_eq_self]
  intro a ha
  obtain ⟨i,hi,rfl⟩:=List.getElem_of_mem ha
  rw [List.length_take] at hi
  rw [List.getElem_take]
  exact decide_eq_true (nV o (by omega) hk)
 have h2:((ns.take (k+1)++ns.drop (k+1)).filter fun d=>decide (d≤ns[k])).length=(ns.filter fun d=>decide (d≤ns[k])).length:=by
  rw [List.take_append_drop]
 rw [← h2,List.filter_append,h1,List.length_append,List.length_take]
 omega
theorem zO {ns:List Int} (o:ns.Pairwise (·≤·)) {k:Nat} (hk:k<ns.length) {c:Int} (hc:c<ns[k]):(ns.filter fun d=>decide (d≤c)).length≤k:=by
 have h1:((ns.drop k).filter fun d=>decide (d≤c))=[]:=by
  rw [List.filter_eq_nil_iff]
  intro a ha h
  obtain ⟨i,hi,rfl⟩:=List.getElem_of_mem ha
  rw [List.length_drop] at hi
  rw [List.getElem_drop] at h
  have h3:=nV o (i:=k) (j:=k+i) (by omega) (by omega)
  have h4:=of_decide_eq_true h
  omega
 have h2:((ns.take k++ns.drop k).filter fun d=>decide (d≤c)).length=(ns.filter fun d=>decide (d≤c)).length:=by
  rw [List.take_append_drop]
 rw [← h2,List.filter_append,h1,List.append_nil]
 exact Nat.le_trans (List.length_filter_le _ _) (by rw [List.length_take]; omega)
theorem qx {bs:List (Option Int)} {ns:List Int} {n:Int} (p:ns.Perm (bO bs)) (h:(ns.length:Int)<n):Due bs n none:=by
 show (tot bs:Int)<n
 rw [← vJ,← p.length_eq]
 exact h
theorem ql {bs:List (Option Int)} {ns:List Int} {n v:Int} (p:ns.Perm (bO bs)) (o:ns.Pairwise (·≤·)) (h1:1≤n) (hv:ns[(n - 1).toNat]?=some v):Due bs n (some v):=by
 obtain ⟨hk,e⟩:=List.getElem?_eq_some_iff.mp hv
 subst e
 have a:=zK o hk
 have b:=zO o hk (c:=ns[(n - 1).toNat] - 1) (by omega)
 have ea:(ns.filter fun d=>decide (d≤ns[(n - 1).toNat])).length=cnt bs ns[(n - 1).toNat]:=by rw [← oo]; exact (p.filter _).length_eq
 have eb:(ns.filter fun d=>decide (d≤ns[(n - 1).toNat] - 1)).length=cnt bs (ns[(n - 1).toNat] - 1):=by rw [← oo]; exact (p.filter _).length_eq
 exact ⟨by omega,by omega⟩
end K81.S
namespace K81.S
open PySem L2
def oV:Option Int→V
 | none=>.non
 | some i=>.int i
theorem C4 {bs:List (Option Int)} {i:Nat} {y:V} (h:(bs.map oV)[i]?=some y):∃ o,y=oV o∧bs[i]?=some o:=by
 rw [List.getElem?_map] at h
 cases e:bs[i]? with
 | none=>rw [e] at h; cases h
 | some z=>rw [e] at h; exact ⟨z,(Option.some.inj h).symm,rfl⟩
theorem kg (l:List (Option Int)):bO (l++[none])=bO l:=by
 unfold bO
 rw [List.filterMap_append]
 simp
theorem kj (l:List (Option Int)) (i:Int):bO (l++[some i])=bO l++[i]:=by
 unfold bO
 rw [List.filterMap_append]
 simp
theorem iw (l:List (Option Int)):(bO l).length≤l.length:=List.length_filterMap_le _ _
def RuleAt (K:PySem.W.Frag) (ff:Addr) (H:Hp) (x:Addr) (n:Int):Prop:=∃ C dx,H x=some (.ins C dx [("need",.int n)])∧Cls K C∧NoAttr K C "need"∧Meth K C "falls" ff
theorem RuleAt.same {K:PySem.W.Frag} {ff:Addr} {H H':Hp} {x:Addr} {n:Int} (r:RuleAt K ff H x n) (s:Same H H'):RuleAt K ff H' x n:=by
 obtain ⟨C,dx,h,r⟩:=r
 exact ⟨C,dx,s _ _ h,r⟩
structure Own (K:PySem.W.Frag) (C fi ff:Addr):Prop where
 cl:Cls K C
 nN:NoAttr K C "need"
 mks:Mk K C fi
 fl:Meth K C "falls" ff
section
variable {P:Program} {w:World} {K:PySem.W.Frag} {mg:Str→Option Value} {base:Heap} {f:Addr} {fd:FuncData}
def d8:Sp:=fun vs H Q _=>∃ i:Int,vs=[.int i]∧Q (.bl true) H
theorem ic:FnScope ["thing"] ["thing"] (ar e9):=⟨rfl,rfl,rfl,by decide +kernel,rfl,by decide +kernel,by decide +kernel⟩
theorem g7 (F:Fun K "is_whole" "is_whole" e9 f fd) (B:Blt mg):FnOk P w K mg base CX0 1 f fd ["thing"] d8:=by
 refine F.ok ic (fun vs H Q E h=>?_) (fun cdv A outer s H vs Q E hr h=>?_)
 ·obtain ⟨i,rfl,_⟩:=h
  rfl
 obtain ⟨i,rfl,q⟩:=h
 refine ⟨_,(ao (au (ka (ax (ck "int") rfl B.isinstance_ PyProof.Rows.boot_isinstance (aa (pv 0) (aa (cJ (v:=.ty "int") rfl B.int_ PyProof.Rows.boot_int rfl) ae))) (i3 (yz (ax (ck "bool") rfl B.isinstance_ PyProof.Rows.boot_isinstance (aa (pv 0) (aa (cJ (v:=.ty "bool") rfl B.bool_ PyProof.Rows.boot_bool rfl) ae)))))))),?_⟩
 refine ⟨_,rfl,_,_,_,rfl,.int i,x8 K,_,rfl,bc ?_⟩
 refine ⟨_,rfl,_,_,_,rfl,.int i,yJ K,_,rfl,?_⟩
 exact q
def br (K:PySem.W.Frag):Sp:=fun vs H Q _=>∃ (p C dx:Addr) (v:V),vs=[.ref p,v]∧H p=some (.ins C dx [])∧Cls K C∧NoAttr K C "need"∧Q .non (upd H p (.ins C dx [("need",v)]))
def fj (K:PySem.W.Frag):Sp:=fun vs H Q _=>∃ (p C dx:Addr),vs=[.ref p]∧H p=some (.ins C dx [])∧Cls K C∧NoAttr K C "need"∧Q .non (upd H p (.ins C dx [("need",.int 1)]))
theorem mi:FnScope ["self","need"] ["self","need"] (ar jb):=⟨rfl,rfl,rfl,by decide +kernel,rfl,by decide +kernel,by decide +kernel⟩
theorem m6 (F:Fun K "__init__" "Rule.__init__" jb f fd):FnOk P w K mg base CX0 1 f fd ["self","need"] (br K):=by
 refine F.ok mi (fun vs H Q E h=>?_) (fun cdv A outer s H vs Q E hr h=>?_)
 ·obtain ⟨p,C,dx,v,rfl,_⟩:=h
  rfl
 obtain ⟨p,C,dx,v,rfl,hp,cl,na,q⟩:=h
 refine ⟨_,(ao (rM (pv 0) (pv 1) rfl)),?_⟩
 exact ⟨_,rfl,_,rfl,p,C,dx,[],rfl,hp,cl,na,(by show 0<1000; decide),q⟩
theorem mf:FnScope ["self","many"] ["self","many"] (ar ja):=⟨rfl,rfl,rfl,by decide +kernel,rfl,by decide +kernel,by decide +kernel⟩
theorem lR {R g:Addr} {gd:FuncData} (F:Fun K "__init__" "All.__init__" ja f fd) (mR:mg "Rule"=some (.ref R)) (c:ClsFn K R "__init__" g) (G:FnOk P w K mg base CX0 1 g gd ["self","need"] (br K)) (b:Binds K gd ["self","need"] []) :
  FnOk P w K mg base CX0 2 f fd ["self","many"] (br K):=by
 refine F.ok mf (fun vs H Q E h=>?_) (fun cdv A outer s H vs Q E hr h=>?_)
 ·obtain ⟨p,C,dx,v,rfl,_⟩:=h
  rfl
 obtain ⟨p,C,dx,v,rfl,hp,cl,na,q⟩:=h
 refine ⟨_,(ao (bL (f7 rfl mR c G hr b .nil cj (aa (pv 0) (aa (pv 1) ae))))),?_⟩
 exact ⟨_,rfl,_,rfl,p,C,dx,v,rfl,hp,cl,na,q⟩
theorem lM:FnScope ["self","need"] ["self","need"] (ar jw):=⟨rfl,rfl,rfl,by decide +kernel,rfl,by decide +kernel,by decide +kernel⟩
theorem mH {R g:Addr} {gd:FuncData} (F:Fun K "__init__" "Some.__init__" jw f fd) (mR:mg "Rule"=some (.ref R)) (c:ClsFn K R "__init__" g) (G:FnOk P w K mg base CX0 1 g gd ["self","need"] (br K)) (b:Binds K gd ["self","need"] []) :
  FnOk P w K mg base CX0 2 f fd ["self","need"] (br K):=by
 refine F.ok lM (fun vs H Q E h=>?_) (fun cdv A outer s H vs Q E hr h=>?_)
 ·obtain ⟨p,C,dx,v,rfl,_⟩:=h
  rfl
 obtain ⟨p,C,dx,v,rfl,hp,cl,na,q⟩:=h
 refine ⟨_,(ao (bL (f7 rfl mR c G hr b .nil cj (aa (pv 0) (aa (pv 1) ae))))),?_⟩
 exact ⟨_,rfl,_,rfl,p,C,dx,v,rfl,hp,cl,na,q⟩
theorem lT:FnScope ["self"] ["self"] (ar i8):=⟨rfl,rfl,rfl,by decide +kernel,rfl,by decide +kernel,by decide +kernel⟩
theorem lu {R g:Addr} {gd:FuncData} (F:Fun K "__init__" "Any.__init__" i8 f fd) (mR:mg "Rule"=some (.ref R)) (c:ClsFn K R "__init__" g) (G:FnOk P w K mg base CX0 1 g gd ["self","need"] (br K)) (b:Binds K gd ["self","need"] []) :
  FnOk P w K mg base CX0 2 f fd ["self"] (fj K):=by
 refine F.ok lT (fun vs H Q E h=>?_) (fun cdv A outer s H vs Q E hr h=>?_)
 ·obtain ⟨p,C,dx,rfl,_⟩:=h
  rfl
 obtain ⟨p,C,dx,rfl,hp,cl,na,q⟩:=h
 refine ⟨_,(ao (bL (f7 rfl mR c G hr b .nil cj (aa (pv 0) (aa ak ae))))),?_⟩
 exact ⟨_,rfl,p,C,dx,.int 1,rfl,hp,cl,na,q⟩
def mE (K:PySem.W.Frag):Sp:=fun vs H Q _=>∃ (x b C dx:Addr) (n:Int) (bs:List (Option Int)),vs=[.ref x,.ref b]∧H x=some (.ins C dx [("need",.int n)])∧Cls K C∧NoAttr K C "need"∧H b=some (.lst (bs.map oV))∧bs.length≤8∧1≤n∧
 ∀ (H':Hp) (o:Option Int),Same H H'→Due bs n o→Q (oV o) H'
theorem qO:FnScope ["self","beats","come"] ["self","beats"] (ar pj):=⟨rfl,rfl,rfl,by decide +kernel,rfl,by decide +kernel,by decide +kernel⟩
theorem yB (F:Fun K "falls" "Rule.falls" pj f fd) (B:Blt mg):FnOk P w K mg base CX0 1 f fd ["self","beats"] (mE K):=by
 refine F.ok qO (fun vs H Q E h=>?_) (fun cdv A outer s H vs Q E hr h=>?_)
 ·obtain ⟨x,b,C,dx,n,bs,rfl,_⟩:=h
  rfl
 obtain ⟨x,b,C,dx,n,bs,rfl,hx,cl,na,hb,hl8,h1,q⟩:=h
 refine ⟨_,(af (aB (i:=2) qO.nd rfl (Or.inl rfl) (ax kE rfl B.sorted_ PyProof.Rows.boot_sorted (aa (bz ["beat"] [] [] rfl (gP (pv 1)) (fun _ _ _ _ _=>ay (i:=0) (show List.Nodup [("beat":Str)] by decide +kernel) rfl (Or.inl rfl)) (fun _ _ _ _ _=>pC (az il (pv 0) bG (aI _))) (fun _ _ _ _ _=>pv 0)) ae)))
  (af (aP (az lI (ax aL rfl B.len_ PySem.boot_len (aa (pv 2) ae)) (j1 (pv 0) rfl) (aI _))
  (ao (au bG))
  aw)
  (ao (au (av aE (pv 2) (aV eW (j1 (pv 0) rfl) ak) (fun _ _=>rfl)))))),?_⟩
 refine ⟨_,rfl,b,rfl,⟨_,SqL.of hb⟩,fun D hD=>?_⟩
 have hlm:(bs.map oV).length=bs.length:=List.length_map _
 refine dH (K:=K) (a:=b) (xs:=bs.map oV) (fun i ys H2=>Same H H2∧ys=(bO (bs.take i)).map V.int) ⟨aq hD _,rfl⟩ (fun i ys H2 _ ⟨s2,_⟩=>SqL.of (s2 _ _ hb)) ?_ ?_
 ·rintro i y ys H2 hi ⟨s2,rfl⟩ hD2
  obtain ⟨o,rfl,ho⟩:=C4 hi
  have hil:i<bs.length:=(List.getElem?_eq_some_iff.mp ho).1
  refine ⟨rfl,_,rfl,rfl,_,rfl,?_⟩
  cases o with
  | none =>
   refine bg ⟨_,⟨s2,rfl⟩,?_⟩
   rw [take_snoc ho,kg]
   exact hD2
  | some z =>
   refine bc ⟨_,rfl,_,hD2,?_,_,⟨s2.upd hD _,rfl⟩,?_⟩
   ·rw [List.length_map]
    have:=iw (bs.take i)
    rw [List.length_take] at this
    exact aJ (by omega)
   ·rw [take_snoc ho,kj,List.map_append]
    exact ah
 ·rintro ys H2 ⟨s2,rfl⟩ hD2
  rw [hlm,List.take_length] at hD2
  have hcl:(bO bs).length≤8:=Nat.le_trans (iw bs) hl8
  refine ⟨D,bO bs,rfl,SqL.of hD2,by omega,fun l ns hl p o=>?_⟩
  have s3:Same H (upd H2 l (.lst (ns.map V.int))):=s2.trans (aq hl _)
  have hx3:=s3 _ _ hx
  have hl3:(upd H2 l (.lst (ns.map V.int))) l=some (.lst (ns.map V.int)):=ah
  have hlen:(ns.map V.int).length=ns.length:=List.length_map _
  refine ⟨_,rfl,l,_,rfl,.inl (SqL.of hl3),_,rfl,x,C,dx,_,_,rfl,hx3,cl,na,rfl,_,_,rfl,rfl,_,rfl,?_⟩
  refine cb (fun c=>?_) (fun c=>?_)
  ·have c':(((ns.map V.int).length:Nat):Int)<n:=of_decide_eq_true c
   rw [hlen] at c'
   exact q _ none s3 (qx p c')
  ·have c':¬ (((ns.map V.int).length:Nat):Int)<n:=of_decide_eq_false (Bool.eq_false_iff.mpr c)
   rw [hlen] at c'
   have hk:(n - 1).toNat<ns.length:=by omega
   have en:n - 1=(((n - 1).toNat:Nat):Int):=by omega
   have hv:ns[(n - 1).toNat]?=some ns[(n - 1).toNat]:=List.getElem?_eq_getElem hk
   have hat:atI (ns.map V.int) (n - 1)=some (.int ns[(n - 1).toNat]):=by
    have:=tw hv
    rw [← en] at this
    exact this
   refine ⟨_,rfl,_,rfl,x,C,dx,_,_,rfl,hx3,cl,na,rfl,_,_,rfl,rfl,l,_,_,_,rfl,rfl,SqL.of hl3,hat,?_⟩
   exact q _ (some _) s3 (ql p o h1 hv)
theorem gq:¬ (V.str ("any":Str)=V.str ("all":Str)):=by
 intro h
 injection h with h
 exact absurd h (by decide +kernel)
theorem dJ {H:Hp} {x dx C:Addr} {l1 l2:List (Str×V)} (nx:H x=none) (ndx:H dx=none):Same H (upd (upd (upd H dx (.own x)) x (.ins C dx l1)) x (.ins C dx l2)):=fun b o e=>by
 rw [aC (aM e nx),aC (aM e nx),aC (aM e ndx)]
 exact e
def gv (K:PySem.W.Frag) (ff:Addr):Sp:=fun vs H Q _=>∃ (t:Str) (many n:Int),vs=[.str t,.int many]∧(t="all"∧n=many∨t="any"∧n=1)∧∀ x H',Same H H'→RuleAt K ff H' x n→Q (.ref x) H'
theorem pE:FnScope ["text","many"] ["text","many"] (ar l8):=⟨rfl,rfl,rfl,by decide +kernel,rfl,by decide +kernel,by decide +kernel⟩
theorem pF {A Y fA fY ff:Addr} {dA dY:FuncData} (F:Fun K "rule_of_text" "rule_of_text" l8 f fd) (mA:mg "All"=some (.ref A)) (mY:mg "Any"=some (.ref Y)) (oA:Own K A fA ff) (oY:Own K Y fY ff)
  (GA:FnOk P w K mg base CX0 2 fA dA ["self","many"] (br K)) (bA:Binds K dA ["self","many"] []) (GY:FnOk P w K mg base CX0 2 fY dY ["self"] (fj K)) (bY:Binds K dY ["self"] []) :
  FnOk P w K mg base CX0 4 f fd ["text","many"] (gv K ff):=by
 refine F.ok pE (fun vs H Q E h=>?_) (fun cdv A' outer s H vs Q E hr h=>?_)
 ·obtain ⟨t,many,n,rfl,_⟩:=h
  rfl
 obtain ⟨t,many,n,rfl,hw,q⟩:=h
 refine ⟨_,(af (aP (az bN (pv 0) aG (aI _))
  (ao (au (kZ oA.mks GA hr rfl mA bA .nil cj (aa (pv 1) ae))))
  aw)
  (af (aP (az bN (pv 0) aG (aI _))
  (ao (au (m4 oY.mks GY hr rfl mY bY .nil cj)))
  aw)
  bf)),?_⟩
 refine ⟨_,rfl,rfl,_,rfl,?_⟩
 rcases hw with ⟨rfl,rfl⟩ | ⟨rfl,rfl⟩
 ·refine cb (fun _=>?_) (fun c=>absurd (decide_eq_true rfl) c)
  refine ⟨_,rfl,fun x dx nx ndx ne=>⟨x,A,dx,_,rfl,ah,oA.cl,oA.nN,rfl,?_⟩⟩
  exact q x _ (dJ nx ndx) ⟨A,dx,ah,oA.cl,oA.nN,oA.fl⟩
 ·refine cb (fun c=>absurd (of_decide_eq_true c) gq) (fun _=>?_)
  refine ⟨_,rfl,rfl,_,rfl,?_⟩
  refine cb (fun _=>?_) (fun c=>absurd (decide_eq_true rfl) c)
  refine fun x dx nx ndx ne=>⟨x,Y,dx,rfl,ah,oY.cl,oY.nN,rfl,?_⟩
  exact q x _ (dJ nx ndx) ⟨Y,dx,ah,oY.cl,oY.nN,oY.fl⟩
def fF (K:PySem.W.Frag) (ff:Addr):Sp:=fun vs H Q _=>∃ (wd:V) (many n:Int),vs=[wd,.int many]∧(wd=.str "all"∧n=many∨wd=.str "any"∧n=1∨wd=.int n∧1≤n∧n≤many)∧∀ x H',Same H H'→RuleAt K ff H' x n→Q (.ref x) H'
theorem iP:FnScope ["word","many"] ["word","many"] (ar f6):=⟨rfl,rfl,rfl,by decide +kernel,rfl,by decide +kernel,by decide +kernel⟩
theorem iK {S fS ff:Addr} {dS:FuncData} (F:Fun K "rule_of" "rule_of" f6 f fd) (B:Blt mg) (mS:mg "Some"=some (.ref S)) (oS:Own K S fS ff) (GS:FnOk P w K mg base CX0 2 fS dS ["self","need"] (br K)) (bS:Binds K dS ["self","need"] [])
  (C_text:Cal P w K mg base 4 "rule_of_text" ["text","many"] (gv K ff)) (C_whole:Cal P w K mg base 1 "is_whole" ["thing"] d8):FnOk P w K mg base CX0 5 f fd ["word","many"] (fF K ff):=by
 refine F.ok iP (fun vs H Q E h=>?_) (fun cdv A' outer s H vs Q E hr h=>?_)
 ·obtain ⟨wd,many,n,rfl,_⟩:=h
  rfl
 obtain ⟨wd,many,n,rfl,hw,q⟩:=h
 have hr3:Room 3 _:=hr.mono (by decide)
 refine ⟨_,(af (aP (bD (ax (ck "str") rfl B.isinstance_ PyProof.Rows.boot_isinstance (aa (pv 0) (aa (cJ (v:=.ty "str") rfl B.str_ PyProof.Rows.boot_str rfl) ae))))
  (ao (au (aH C_text hr (by decide) rfl (aa (pv 0) (aa (pv 1) ae)))))
  aw)
  (af (aP (PW.pt (me (bD (aH C_whole hr (by decide) rfl (aa (pv 0) ae))) (jm (e8 eV eV ak (pv 0) (pv 1)))))
  (ao (au (kZ oS.mks GS hr3 rfl mS bS .nil cj (aa (pv 0) ae))))
  aw)
  bf)),?_⟩
 rcases hw with ⟨rfl,rfl⟩ | ⟨rfl,rfl⟩ | ⟨rfl,h1,h2⟩
 ·refine ⟨_,rfl,_,_,_,rfl,.str _,hZ K,_,rfl,bc ?_⟩
  exact ⟨_,rfl,_,rfl,"all",_,_,rfl,.inl ⟨rfl,rfl⟩,q⟩
 ·refine ⟨_,rfl,_,_,_,rfl,.str _,hZ K,_,rfl,bc ?_⟩
  exact ⟨_,rfl,_,rfl,"any",_,_,rfl,.inr ⟨rfl,rfl⟩,q⟩
 ·refine ⟨_,rfl,_,_,_,rfl,.int _,ph K,_,rfl,bg ?_⟩
  refine ⟨_,rfl,_,rfl,_,rfl,bc ?_⟩
  refine ⟨_,rfl,_,_,rfl,rfl,_,rfl,?_⟩
  rw [decide_eq_true h1]
  refine bc ⟨_,rfl,_,_,rfl,rfl,_,rfl,?_⟩
  rw [decide_eq_true h2]
  refine bc ?_
  refine ⟨_,rfl,fun x dx nx ndx ne=>⟨x,S,dx,_,rfl,ah,oS.cl,oS.nN,rfl,?_⟩⟩
  exact q x _ (dJ nx ndx) ⟨S,dx,ah,oS.cl,oS.nN,oS.fl⟩
end
end K81.S
namespace K81.S
open PySem L2
section
variable {P:Program} {w:World} {K:PySem.W.Frag} {mg:Str→Option Value} {base:Heap} {f:Addr} {fd:FuncData}
def g6 (K:PySem.W.Frag) (ff:Addr):Sp:=fun vs H Q _=>∃ (v:V) (b:Bell),vs=[v]∧BellAt H v b∧GoodR b.lis.length b.rule∧∀ x H',Same H H'→RuleAt K ff H' x (wants b)→Q (.ref x) H'
theorem kJ:FnScope ["bell"] ["bell"] (ar cE):=⟨rfl,rfl,rfl,by decide +kernel,rfl,by decide +kernel,by decide +kernel⟩
theorem kM {ff:Addr} (F:Fun K "rule_of_bell" "rule_of_bell" cE f fd) (B:Blt mg) (C_rule_of:Cal P w K mg base 5 "rule_of" ["word","many"] (fF K ff)):FnOk P w K mg base CX0 6 f fd ["bell"] (g6 K ff):=by
 refine F.ok kJ (fun vs H Q E h=>?_) (fun cdv A outer s H vs Q E hr h=>?_)
 ·obtain ⟨v,b,rfl,_⟩:=h
  rfl
 obtain ⟨v,b,rfl,⟨a,t,ls,rfl,ha,ht,pr⟩,gr,q⟩:=h
 refine ⟨_,(ao (au (aH C_rule_of hr (by decide) rfl (aa (av aT (pv 0) ak (fun _ _=>rfl)) (aa (ax aL rfl B.len_ PySem.boot_len (aa (av aT (pv 0) ak (fun _ _=>rfl)) ae)) ae))))),?_⟩
 refine ⟨_,rfl,a,_,_,_,rfl,rfl,SqT.of ha,rfl,_,rfl,a,_,_,_,rfl,rfl,SqT.of ha,rfl,t,_,rfl,.inr (SqT.of ht),rwV b.rule,_,wants b,rfl,?_,q⟩
 have hl:=aO pr
 rw [hl]
 unfold wants
 cases hr:b.rule with
 | all=>exact .inl ⟨rfl,rfl⟩
 | any=>exact .inr (.inl ⟨rfl,rfl⟩)
 | num n =>
  rw [hr] at gr
  exact .inr (.inr ⟨rfl,gr.1,gr.2⟩)
def lF:Sp:=fun vs H Q _=>∃ (v:V) (l:Lis) (p r:Addr) (before now:List (Option Int)),vs=[v,.ref p,.ref r]∧LisAt H v l∧H p=some (.lst (before.map oV))∧H r=some (.lst (now.map oV))∧l.whom<before.length∧l.whom<now.length∧Q (oV (dZ before now l)) H
theorem zh {bs:List (Option Int)} {i:Nat} {o:Option Int} (h:bs[i]?=some o):atI (bs.map oV) (i:Int)=some (oV o):=a9 (by rw [List.getElem?_map,h]; rfl)
theorem qh:FnScope ["listening","before","now","stroke"] ["listening","before","now"] (ar pz):=⟨rfl,rfl,rfl,by decide +kernel,rfl,by decide +kernel,by decide +kernel⟩
theorem yy (F:Fun K "listening_comes" "listening_comes" pz f fd):FnOk P w K mg base CX0 1 f fd ["listening","before","now"] lF:=by
 refine F.ok qh (fun vs H Q E h=>?_) (fun cdv A outer s H vs Q E hr h=>?_)
 ·obtain ⟨v,l,p,r,before,now,rfl,_⟩:=h
  rfl
 obtain ⟨v,l,p,r,before,now,rfl,⟨a,rfl,ha⟩,hp,hr',h1,h2,q⟩:=h
 refine ⟨_,(af (aB (i:=3) qh.nd rfl (Or.inl rfl) (fo (az bN (av aT (pv 0) ak (fun _ _=>rfl)) ak (aI _)) (av aE (pv 1) (av aT (pv 0) ak (fun _ _=>rfl)) (fun _ _=>rfl)) (av aE (pv 2) (av aT (pv 0) ak (fun _ _=>rfl)) (fun _ _=>rfl))))
  (ao (au (fo (az gu (pv 3) bG (aI _)) bG (aV bP (pv 3) (av aT (pv 0) ak (fun _ _=>rfl))))))),?_⟩
 refine ⟨_,rfl,a,_,_,_,rfl,rfl,SqT.of ha,rfl,rfl,_,rfl,?_⟩
 have e1:=List.getElem?_eq_getElem h1
 have e2:=List.getElem?_eq_getElem h2
 have hx:=SqT.of (K:=K) ha
 cases hb:l.back with
 | true =>
  refine cb (fun _=>?_) (fun c=>absurd rfl c)
  refine ⟨_,rfl,_,rfl,a,_,_,_,rfl,rfl,hx,rfl,p,_,_,_,rfl,rfl,SqL.of hp,zh e1,?_⟩
  have hc:dZ before now l=(before[l.whom]).map (·+l.beats):=by
   unfold dZ
   rw [hb,if_pos rfl,e1]
   rfl
  rw [hc] at q
  cases ho:before[l.whom] with
  | none =>
   rw [ho] at q
   exact ⟨_,rfl,rfl,_,rfl,bc q⟩
  | some i =>
   rw [ho] at q
   exact ⟨_,rfl,rfl,_,rfl,bg ⟨_,rfl,_,rfl,a,_,_,_,rfl,rfl,hx,rfl,_,_,rfl,rfl,q⟩⟩
 | false =>
  refine cb (fun c=>absurd c (by decide)) (fun _=>?_)
  refine ⟨_,rfl,_,rfl,a,_,_,_,rfl,rfl,hx,rfl,r,_,_,_,rfl,rfl,SqL.of hr',zh e2,?_⟩
  have hc:dZ before now l=(now[l.whom]).map (·+l.beats):=by
   unfold dZ
   rw [hb,if_neg (by decide),e2]
   rfl
  rw [hc] at q
  cases ho:now[l.whom] with
  | none =>
   rw [ho] at q
   exact ⟨_,rfl,rfl,_,rfl,bc q⟩
  | some i =>
   rw [ho] at q
   exact ⟨_,rfl,rfl,_,rfl,bg ⟨_,rfl,_,rfl,a,_,_,_,rfl,rfl,hx,rfl,_,_,rfl,rfl,q⟩⟩
end
end K81.S
namespace K81.S
open PySem L2
def RuleV (K:PySem.W.Frag) (ff:Addr) (H:Hp) (v:V) (b:Bell):Prop:=∃ x,v=.ref x∧RuleAt K ff H x (wants b)
def RulesAt (K:PySem.W.Frag) (ff:Addr) (H:Hp) (r:Addr) (c:List Bell):Prop:=∃ rs,H r=some (.lst rs)∧Paired (RuleV K ff H) rs c
theorem RuleV.same {K:PySem.W.Frag} {ff:Addr} {H H':Hp} {v:V} {b:Bell} (s:Same H H') (h:RuleV K ff H v b):RuleV K ff H' v b:=by
 obtain ⟨x,e,q⟩:=h
 exact ⟨x,e,q.same s⟩
theorem RulesAt.same {K:PySem.W.Frag} {ff:Addr} {H H':Hp} {r:Addr} {c:List Bell} (s:Same H H') (h:RulesAt K ff H r c):RulesAt K ff H' r c:=by
 obtain ⟨rs,e,q⟩:=h
 exact ⟨rs,s _ _ e,bE (fun _ _ z=>z.same s) q⟩
def Fine (c:List Bell):Prop:=c.length≤6∧∀ (k:Nat) b,c[k]?=some b→1≤b.lis.length∧b.lis.length≤8∧GoodR b.lis.length b.rule∧∀ l∈b.lis,l.whom<c.length∧1≤l.beats
theorem Fine.slow {c:List Bell} (h:Fine c):gR c:=fun k b hb l hl=>((h.2 k b hb).2.2.2 l hl).2
theorem jS {b:Bell} (h1:1≤b.lis.length) (h:GoodR b.lis.length b.rule):1≤wants b:=by
 unfold wants
 cases hr:b.rule with
 | all=>show (1:Int)≤(b.lis.length:Int); omega
 | any=>exact Int.le_refl 1
 | num n=>rw [hr] at h; exact h.1
def Best (c:List Bell) (before now:List (Option Int)) (H:Hp) (i:Nat) (v:V):Prop :=
 (v=.non∧∀ (k:Nat) b,k<i→c[k]?=some b→now[k]?=some none→Due (aU b before now) (wants b) none)∨
 ∃ (T:Addr) (beat:Int) (k:Nat) (b:Bell),v=.ref T∧H T=some (.tup [.int beat,.int (k:Int)])∧c[k]?=some b∧now[k]?=some none∧Due (aU b before now) (wants b) (some beat)∧
  ∀ (j:Nat) b' u,j<i→c[j]?=some b'→now[j]?=some none→Due (aU b' before now) (wants b') (some u)→beat≤u
theorem Best.same {c:List Bell} {before now:List (Option Int)} {H H':Hp} {i:Nat} {v:V} (s:Same H H') (h:Best c before now H i v):Best c before now H' i v:=by
 rcases h with h | ⟨T,beat,k,b,e,hT,r⟩
 ·exact .inl h
 ·exact .inr ⟨T,beat,k,b,e,s _ _ hT,r⟩
theorem Best.skip {c:List Bell} {before now:List (Option Int)} {H:Hp} {i:Nat} {v:V} {u:Int} (h:Best c before now H i v) (hn:now[i]?=some (some u)):Best c before now H (i+1) v:=by
 rcases h with ⟨e,h⟩ | ⟨T,beat,k,b,e,hT,h1,h2,h3,h4⟩
 ·refine .inl ⟨e,fun k b hk hb hz=>?_⟩
  rcases Nat.lt_or_ge k i with c1 | c1
  ·exact h k b c1 hb hz
  ·have ek:k=i:=by omega
   rw [ek,hn] at hz
   cases hz
 ·refine .inr ⟨T,beat,k,b,e,hT,h1,h2,h3,fun j b' u' hj hb hz hd=>?_⟩
  rcases Nat.lt_or_ge j i with c1 | c1
  ·exact h4 j b' u' c1 hb hz hd
  ·have ek:j=i:=by omega
   rw [ek,hn] at hz
   cases hz
theorem Best.late {c:List Bell} {before now:List (Option Int)} {H:Hp} {i:Nat} {v:V} {b:Bell} (h:Best c before now H i v) (hb:c[i]?=some b) (hd:Due (aU b before now) (wants b) none):Best c before now H (i+1) v:=by
 rcases h with ⟨e,h⟩ | ⟨T,beat,k,b1,e,hT,h1,h2,h3,h4⟩
 ·refine .inl ⟨e,fun k b1 hk hb1 hz=>?_⟩
  rcases Nat.lt_or_ge k i with c1 | c1
  ·exact h k b1 c1 hb1 hz
  ·obtain rfl:k=i:=by omega
   rw [hb] at hb1
   cases hb1
   exact hd
 ·refine .inr ⟨T,beat,k,b1,e,hT,h1,h2,h3,fun j b' u' hj hb1 hz hd1=>?_⟩
  rcases Nat.lt_or_ge j i with c1 | c1
  ·exact h4 j b' u' c1 hb1 hz hd1
  ·obtain rfl:j=i:=by omega
   rw [hb] at hb1
   cases hb1
   cases cG hd hd1
theorem Best.take {c:List Bell} {before now:List (Option Int)} {H:Hp} {i:Nat} {b:Bell} {u:Int} {T:Addr} (h:∀ (j:Nat) b' v,j<i→c[j]?=some b'→now[j]?=some none→Due (aU b' before now) (wants b') (some v)→u≤v) (hT:H T=some (.tup [.int u,.int (i:Int)]))
  (hb:c[i]?=some b) (hn:now[i]?=some none) (hd:Due (aU b before now) (wants b) (some u)):Best c before now H (i+1) (.ref T):=by
 refine .inr ⟨T,u,i,b,rfl,hT,hb,hn,hd,fun j b' v hj hb' hz hd'=>?_⟩
 rcases Nat.lt_or_ge j i with c1 | c1
 ·exact h j b' v c1 hb' hz hd'
 ·obtain rfl:j=i:=by omega
  rw [hb] at hb'
  cases hb'
  have:=Option.some.inj (cG hd hd')
  omega
section
variable {P:Program} {w:World} {K:PySem.W.Frag} {mg:Str→Option Value} {base:Heap} {f:Addr} {fd:FuncData}
def m9 (K:PySem.W.Frag) (ff:Addr):Sp:=fun vs H Q _=>∃ (ch:V) (c:List Bell) (r p n:Addr) (before now:List (Option Int)),vs=[ch,.ref r,.ref p,.ref n]∧ChoirAt H ch c∧Fine c∧RulesAt K ff H r c∧H p=some (.lst (before.map oV))∧H n=some (.lst (now.map oV))∧before.length=c.length∧now.length=c.length∧
 ∀ (H':Hp) (v:V),Same H H'→Best c before now H' c.length v→Q v H'
theorem fZ:FnScope ["choir","rules","before","now","best","number","bell","beat"] ["choir","rules","before","now"] (ar oJ):=⟨rfl,rfl,rfl,by decide +kernel,rfl,by decide +kernel,by decide +kernel⟩
theorem xi {ff:Addr} {df:FuncData} (F:Fun K "next_found" "next_found" oJ f fd) (B:Blt mg) (C_comes:Cal P w K mg base 1 "listening_comes" ["listening","before","now"] lF) (GF:FnOk P w K mg base CX0 1 ff df ["self","beats"] (mE K)) (bF:Binds K df ["self","beats"] []):FnOk P w K mg base CX0 2 f fd ["choir","rules","before","now"] (m9 K ff):=by
 refine F.ok fZ (fun vs H Q E h=>?_) (fun cdv A outer s H vs Q E hr h=>?_)
 ·obtain ⟨ch,c,r,p,n,before,now,rfl,_⟩:=h
  rfl
 obtain ⟨ch,c,r,p,n,before,now,rfl,⟨a,bs,rfl,ha,prb⟩,fc,⟨rs,hR,prr⟩,hp,hn,lb,ln,q⟩:=h
 have hr1:Room 1 _:=hr.mono (by decide)
 refine ⟨_,(af (aB (i:=4) fZ.nd rfl (Or.inl rfl) bG)
  (af (cO PassesOwn.never rfl (p7 rfl B.enumerate_ (aa (pv 0) ae)) (eR rfl (aZ (ay (i:=5) fZ.nd rfl (Or.inl rfl)) (aZ (ay (i:=6) fZ.nd rfl (Or.inl rfl)) dy)))
  (ao (aP (az gu (av aE (pv 3) (pv 5) (fun _ _=>rfl)) bG (aI _))
  (af (aB (i:=7) fZ.nd rfl (Or.inl rfl) (cu (av aE (pv 1) (pv 5) (fun _ _=>rfl)) GF hr1 bF .nil cj (aa (bz ["listening"] ["before","now"] [2,3] rfl (cD (av aT (pv 6) ak (fun _ _=>rfl))) (fun _ _ _ _ _=>(ay (i:=0) (show List.Nodup [("listening":Str),("before":Str),("now":Str)] by decide +kernel) rfl (Or.inl rfl))) (fun _ _ _ _ _=>bp) (fun _ _ _ _ _=>(aH C_comes hr (by decide) rfl (aa (pv 0) (aa (pv 1) (aa (pv 2) ae)))))) ae)))
  (ao (aP (PW.pt (me (az il (pv 7) bG (aI _)) (jm (PW.pt (ie (az gu (pv 4) bG (aI _)) (e7 (az lI (pv 7) (av aT (pv 4) ak (fun _ _=>rfl)) (aI _))))))))
  (ao (aB (i:=4) fZ.nd rfl (Or.inl rfl) (dF (aa (pv 7) (aa (pv 5) ae)))))
  aw)))
  aw)))
  (ao (au (pv 4))))),?_⟩
 have hbl:=aO prb
 refine ⟨_,rfl,a,rfl,⟨_,SqT.of ha⟩,nX (K:=K) (a:=a) (xs:=bs) (fun i σ H2=>∃ (v:V) (o5 o6 o7:Option V),σ=[some (.ref a),some (.ref r),some (.ref p),some (.ref n),some v,o5,o6,o7]∧Same H H2∧Best c before now H2 i v)
  ⟨.non,none,none,none,rfl,.refl H,.inl ⟨rfl,fun k b hk=>absurd hk (Nat.not_lt_zero k)⟩⟩ (fun i σ H2 _ ⟨_,_,_,_,_,s2,_⟩=>SqT.of (s2 _ _ ha)) ?_ ?_⟩
 ·rintro i y σ H2 T hi ⟨v,o5,o6,o7,rfl,s2,hbest⟩ hT
  obtain ⟨b,hb,⟨x,t,ls,rfl,hx,ht,prl⟩⟩:=bh prb hi
  have hic:i<c.length:=(List.getElem?_eq_some_iff.mp hb).1
  obtain ⟨rv,hrv,⟨ro,rfl,hro⟩⟩:=cI prr hb
  have s3:Same H2 (upd H2 T (.tup [.int (i:Int),.ref x])):=aq hT _
  have s23:=s2.trans s3
  have eT:(upd H2 T (.tup [.int (i:Int),.ref x])) T=some (.tup [.int (i:Int),.ref x]):=ah
  refine ⟨T,_,rfl,SqT.of eT,rfl,_,_,rfl,_,_,rfl,rfl,?_⟩
  have hbest3:=hbest.same s3
  generalize upd H2 T (.tup [.int (i:Int),.ref x])=H3 at s3 s23 eT hbest3 ⊢
  have en:=List.getElem?_eq_getElem (show i<now.length by omega)
  refine ⟨_,rfl,_,rfl,n,_,_,_,rfl,rfl,SqL.of (s23 _ _ hn),zh en,rfl,_,rfl,?_⟩
  cases ho:now[i]'(by omega) with
  | some u =>
   rw [ho] at en
   exact bg ⟨v,_,_,_,rfl,s23,hbest3.skip en⟩
  | none =>
   rw [ho] at en
   refine bc ?_
   obtain ⟨C,dx,hro',cl,na,mt⟩:=hro.same s23
   obtain ⟨g1,g8,gr,gl⟩:=fc.2 i b hb
   refine ⟨_,rfl,_,rfl,r,_,_,_,rfl,rfl,SqL.of (s23 _ _ hR),a9 hrv,C,ro,dx,_,rfl,hro',cl,mt,rfl,?_⟩
   refine ⟨_,rfl,x,_,_,_,rfl,rfl,SqT.of (s23 _ _ hx),rfl,t,rfl,⟨_,SqT.of (s23 _ _ ht)⟩,fun D hD=>?_⟩
   have hll:=aO prl
   refine bV (K:=K) (a:=t) (xs:=ls) (fun j ys H4=>Same H3 H4∧ys=((b.lis.take j).map (dZ before now)).map oV) ⟨aq hD _,rfl⟩ (fun j ys H4 _ ⟨z,_⟩=>SqT.of (z _ _ (s23 _ _ ht))) ?_ ?_
   ·rintro j y ys H4 hj ⟨s4,rfl⟩ hD4
    obtain ⟨l,hl,hla⟩:=bh prl hj
    have s04:=s23.trans s4
    obtain ⟨w1,w2⟩:=gl l (List.mem_of_getElem? hl)
    refine ⟨rfl,aW ?_⟩
    refine ⟨_,rfl,_,rfl,_,rfl,y,l,p,n,before,now,rfl,hla.mono (Same.tup s04),s04 _ _ hp,s04 _ _ hn,by omega,by omega,?_⟩
    refine ⟨_,hD4,?_,_,⟨s4.upd hD _,rfl⟩,?_⟩
    ·rw [List.length_map,List.length_map,List.length_take]
     exact aJ (by omega)
    ·rw [take_snoc hl,List.map_append,List.map_append]
     exact ah
   ·rintro ys H4 ⟨s4,rfl⟩ hD4
    rw [hll,List.take_length] at hD4
    have s04:=s23.trans s4
    refine ⟨ro,D,C,dx,wants b,b.lis.map (dZ before now),rfl,s4 _ _ hro',cl,na,hD4,by rw [List.length_map]; exact g8,jS g1 gr,fun H5 o s5 hd=>?_⟩
    have s35:=s4.trans s5
    have s05:=s23.trans s35
    have hbest5:=hbest3.same s35
    cases o with
    | none=>exact ⟨_,rfl,rfl,_,rfl,bg (bg ⟨v,_,_,_,rfl,s05,hbest5.late hb hd⟩)⟩
    | some u =>
     refine ⟨_,rfl,rfl,_,rfl,bc ?_⟩
     rcases hbest5 with ⟨rfl,hno⟩ | ⟨T2,beat,k,b2,rfl,hT2,h1,h2,h3,h4⟩
     ·refine ⟨_,rfl,rfl,_,rfl,bc (bc ?_)⟩
      refine ⟨_,rfl,_,rfl,(by show 2≤sizeLine; decide),fun l hl=>?_⟩
      refine ⟨_,_,_,_,rfl,s05.trans (aq hl _),Best.take (fun j b' z hj hb' hz hd'=>?_) ah hb en hd⟩
      cases cG (hno j b' hj hb' hz) hd'
     ·refine ⟨_,rfl,rfl,_,rfl,bg ?_⟩
      refine ⟨_,rfl,_,rfl,T2,_,_,_,rfl,rfl,SqT.of hT2,rfl,_,_,rfl,rfl,_,rfl,?_⟩
      refine cb (fun cc=>?_) (fun cc=>?_)
      ·have hlt:u<beat:=of_decide_eq_true cc
       refine ⟨_,rfl,_,rfl,(by show 2≤sizeLine; decide),fun l hl=>?_⟩
       refine ⟨_,_,_,_,rfl,s05.trans (aq hl _),Best.take (fun j b' z hj hb' hz hd'=>?_) ah hb en hd⟩
       have:=h4 j b' z hj hb' hz hd'
       omega
      ·have hge:¬ u<beat:=of_decide_eq_false (Bool.eq_false_iff.mpr cc)
       refine ⟨_,_,_,_,rfl,s05,.inr ⟨T2,beat,k,b2,rfl,hT2,h1,h2,h3,fun j b' z hj hb' hz hd'=>?_⟩⟩
       rcases Nat.lt_or_ge j i with c1 | c1
       ·exact h4 j b' z c1 hb' hz hd'
       ·obtain rfl:j=i:=by omega
        rw [hb] at hb'
        cases hb'
        have:=Option.some.inj (cG hd hd')
        omega
 ·rintro σ H2 ⟨v,o5,o6,o7,rfl,s2,hbest⟩
  rw [hbl] at hbest
  exact ⟨_,rfl,q H2 v s2 hbest⟩
end
end K81.S
namespace K81.S
open PySem L2
def A4:V→Bool
 | .non=>true
 | _=>false
theorem xH (now:List (Option Int)):(now.map oV).countP A4=now.countP (·.isNone):=by
 rw [List.countP_map]
 refine List.countP_congr fun o _=>?_
 cases o <;> rfl
theorem count_set {now:List (Option Int)} {k:Nat} {u:Int} (h:now[k]?=some none):(now.set k (some u)).countP (·.isNone)<now.countP (·.isNone):=by
 induction now generalizing k with
 | nil=>cases h
 | cons o r ih =>
  cases k with
  | zero =>
   have e:o=none:=by simpa using h
   subst e
   simp
  | succ k =>
   have:=ih (k:=k) (by simpa using h)
   simp only [List.set_cons_succ,List.countP_cons]
   omega
theorem zk (now:List (Option Int)) (k:Nat) (u:Int):(now.map oV).set k (.int u)=(now.set k (some u)).map oV:=by
 rw [List.map_set]
 rfl
def left (n:Addr) (H:Hp):Nat:=match H n with
 | some (.lst xs)=>xs.countP A4
 | _=>0
theorem je {n:Addr} {H:Hp} {now:List (Option Int)} (h:H n=some (.lst (now.map oV))):left n H=now.countP (·.isNone):=by
 unfold left
 rw [h]
 exact xH now
section
variable {P:Program} {w:World} {K:PySem.W.Frag} {mg:Str→Option Value} {base:Heap} {f:Addr} {fd:FuncData}
def jN (K:PySem.W.Frag) (ff:Addr):Sp:=fun vs H Q _=>∃ (ch:V) (c:List Bell) (r p:Addr) (before:List (Option Int)),vs=[ch,.ref r,.ref p]∧ChoirAt H ch c∧Fine c∧RulesAt K ff H r c∧H p=some (.lst (before.map oV))∧before.length=c.length∧
 ∀ (H':Hp) (n:Addr) (now:List (Option Int)),Same H H'→H n=none→H' n=some (.lst (now.map oV))→Fix c before now→Q (.ref n) H'
theorem ir:FnScope ["choir","rules","before","now","found"] ["choir","rules","before"] (ar lq):=⟨rfl,rfl,rfl,by decide +kernel,rfl,by decide +kernel,by decide +kernel⟩
theorem vA {ff:Addr} (F:Fun K "strokes_behind" "strokes_behind" lq f fd) (C_found:Cal P w K mg base 2 "next_found" ["choir","rules","before","now"] (m9 K ff)):FnOk P w K mg base CX0 3 f fd ["choir","rules","before"] (jN K ff):=by
 refine F.ok ir (fun vs H Q E h=>?_) (fun cdv A outer s H vs Q E hr h=>?_)
 ·obtain ⟨ch,c,r,p,before,rfl,_⟩:=h
  rfl
 obtain ⟨ch,c,r,p,before,rfl,hch,fc,hru,hp,lb,q⟩:=h
 obtain ⟨a,bs,rfl,ha,prb⟩:=id hch
 refine ⟨_,(af (da (i:=3) ["bell"] [] [] rfl ir.nd rfl (Or.inl rfl) (cD (pv 0)) (fun _ _ _ _ _=>(ay (i:=0) (show List.Nodup [("bell":Str)] by decide +kernel) rfl (Or.inl rfl))) (fun _ _ _ _ _=>bp) (fun _ _ _ _ _=>bG))
  (af (aB (i:=4) ir.nd rfl (Or.inl rfl) (aH C_found hr (by decide) rfl (aa (pv 0) (aa (pv 1) (aa (pv 2) (aa (pv 3) ae))))))
  (af (qS PassesOwn.never (az il (pv 4) bG (aI _))
  (af (j3 (av aT (pv 4) ak (fun _ _=>rfl)) (oI (pv 3) (av aT (pv 4) ak (fun _ _=>rfl)) set_list))
  (ao (aB (i:=4) ir.nd rfl (Or.inl rfl) (aH C_found hr (by decide) rfl (aa (pv 0) (aa (pv 1) (aa (pv 2) (aa (pv 3) ae)))))))))
  (ao (au (pv 3)))))),?_⟩
 have hbl:=aO prb
 refine ⟨_,rfl,a,rfl,⟨_,SqT.of ha⟩,fun n hn=>?_⟩
 refine bV (K:=K) (a:=a) (xs:=bs) (fun j ys H2=>Same H H2∧ys=((c.take j).map fun _=>none).map oV) ⟨aq hn _,rfl⟩ (fun j ys H2 _ ⟨z,_⟩=>SqT.of (z _ _ ha)) ?_ ?_
 ·rintro j y ys H2 hj ⟨s2,rfl⟩ hD
  obtain ⟨b,hb,_⟩:=bh prb hj
  have hj6:j<c.length:=(List.getElem?_eq_some_iff.mp hb).1
  have:=fc.1
  refine ⟨rfl,aW ?_⟩
  refine ⟨_,hD,?_,_,⟨s2.upd hn _,rfl⟩,?_⟩
  ·rw [List.length_map,List.length_map,List.length_take]
   exact aJ (by omega)
  ·rw [take_snoc hb,List.map_append,List.map_append]
   exact ah
 ·rintro ys H2 ⟨s2,rfl⟩ hD
  rw [hbl,List.take_length] at hD
  refine ⟨_,rfl,_,rfl,_,rfl,_,rfl,.ref a,c,r,p,n,before,c.map fun _=>none,rfl,hch.mono (Same.tup s2),fc,hru.same s2,s2 _ _ hp,hD,lb,List.length_map _,fun H3 v s3 hbest=>?_⟩
  refine qN (fun σ H4=>∃ (v:V) (now:List (Option Int)),σ=[some (.ref a),some (.ref r),some (.ref p),some (.ref n),some v]∧Same H H4∧H4 n=some (.lst (now.map oV))∧Going c before now∧Best c before now H4 c.length v) (fun _ H4=>left n H4) ⟨v,_,rfl,s2.trans s3,s3 _ _ hD,hX c before,hbest⟩ ?_ ?_
  ·rintro σ H4 ⟨v,now,rfl,s4,hn4,go,hbest⟩
   rcases hbest with ⟨rfl,hno⟩ | ⟨T,beat,k,b,rfl,hT,hb,hk,hd,hl⟩
   ·refine ⟨_,rfl,rfl,_,rfl,bg ?_⟩
    exact ⟨_,rfl,q H4 n now s4 hn hn4 (iu go fun k b hb hz=>hno k b (List.getElem?_eq_some_iff.mp hb).1 hb hz)⟩
   ·have hkc:k<c.length:=(List.getElem?_eq_some_iff.mp hb).1
    have hkn:k<now.length:=(List.getElem?_eq_some_iff.mp hk).1
    refine ⟨_,rfl,rfl,_,rfl,bc ?_⟩
    refine ⟨_,rfl,T,_,_,_,rfl,rfl,SqT.of hT,rfl,_,rfl,_,rfl,T,_,_,_,rfl,rfl,SqT.of hT,rfl,n,_,_,k,rfl,rfl,hn4,?_,?_⟩
    ·unfold ixN
     rw [if_pos (by omega),List.length_map,if_pos (by omega),Int.toNat_natCast]
    rw [zk]
    have s5:=s4.upd hn (.lst ((now.set k (some beat)).map oV))
    have hn5:=ah (H:=H4) (a:=n) (o:=.lst ((now.set k (some beat)).map oV))
    have go5:=lY fc.slow go hb hk hd fun j b' u hj hz hd'=>hl j b' u (List.getElem?_eq_some_iff.mp hj).1 hj hz hd'
    have l4:=je hn4
    generalize upd H4 n (.lst ((now.set k (some beat)).map oV))=H5 at s5 hn5 ⊢
    refine ⟨_,rfl,_,rfl,_,rfl,_,rfl,.ref a,c,r,p,n,before,now.set k (some beat),rfl,hch.mono (Same.tup s5),fc,hru.same s5,s5 _ _ hp,hn5,lb,by rw [List.length_set]; exact go.len,fun H6 v6 s6 hbest6=>?_⟩
    refine ⟨⟨v6,_,rfl,s5.trans s6,s6 _ _ hn5,go5,hbest6⟩,?_⟩
    show left n H6<left n H4
    rw [l4,je (s6 _ _ hn5)]
    exact count_set hk
  ·rintro σ H4 Q1 Q2 hq ⟨z1,e1,e2,z2,e3,h⟩
   exact ⟨z1,e1,e2,z2,e3,hq _ _ h⟩
end
end K81.S
namespace K81.S
open PySem L2
structure Rows (c:List Bell) (rows:List (List (Option Int))):Prop where
 first:∀ row,rows[0]?=some row→row=c.map fun b=>some b.start
 next:∀ (n:Nat) x y,rows[n]?=some x→rows[n+1]?=some y→Fix c x y
theorem Rows.len {c:List Bell} {rows:List (List (Option Int))} (h:Rows c rows):∀ (n:Nat) x,rows[n]?=some x→x.length=c.length
 | 0,x,e=>by rw [h.first x e,List.length_map]
 | n+1,x,e=>by
  have hn:n<rows.length:=by have:=(List.getElem?_eq_some_iff.mp e).1; omega
  exact (h.next n _ x (List.getElem?_eq_getElem hn) e).1
theorem Rows.unique {c:List Bell} (hc:gR c) {rows rows':List (List (Option Int))} (h:Rows c rows) (h':Rows c rows') (hl:rows.length=rows'.length):rows=rows':=by
 have all:∀ (n:Nat) x y,rows[n]?=some x→rows'[n]?=some y→x=y:=by
  intro n
  induction n with
  | zero=>intro x y e e'; rw [h.first x e,h'.first y e']
  | succ n ih =>
   intro x y e e'
   have hn:n<rows.length:=by have:=(List.getElem?_eq_some_iff.mp e).1; omega
   have hn':n<rows'.length:=by omega
   have a:=h.next n _ x (List.getElem?_eq_getElem hn) e
   have a':=h'.next n _ y (List.getElem?_eq_getElem hn') e'
   rw [ih _ _ (List.getElem?_eq_getElem hn) (List.getElem?_eq_getElem hn')] at a
   exact c9 hc a a'
 refine List.ext_getElem hl fun n h1 h2=>?_
 exact all n _ _ (List.getElem?_eq_getElem h1) (List.getElem?_eq_getElem h2)
theorem Rows.snoc {c:List Bell} {rows:List (List (Option Int))} {row:List (Option Int)} (h:Rows c rows) (h0:rows=[]→row=c.map fun b=>some b.start) (h1:∀ x,rows[rows.length - 1]?=some x→0<rows.length→Fix c x row):Rows c (rows++[row]) where
 first:=fun r e=>by
  by_cases hn:rows=[]
  ·subst hn
   have:row=r:=by simpa using e
   rw [← this]
   exact h0 rfl
  ·have hp:0<rows.length:=List.length_pos_iff.mpr hn
   rw [List.getElem?_append_left hp] at e
   exact h.first r e
 next:=fun n x y ex ey=>by
  have hlt:=(List.getElem?_eq_some_iff.mp ey).1
  rw [List.length_append] at hlt
  have hlt':n+1<rows.length+1:=hlt
  have hn:n<rows.length:=by omega
  rw [List.getElem?_append_left hn] at ex
  by_cases hn1:n+1<rows.length
  ·rw [List.getElem?_append_left hn1] at ey
   exact h.next n x y ex ey
  ·have e:n+1=rows.length:=by omega
   rw [e,List.getElem?_concat_length] at ey
   cases ey
   exact h1 x (by rw [← e]; exact ex) (by omega)
def RowAt (N:Addr→Prop) (H:Hp) (v:V) (row:List (Option Int)):Prop:=∃ a,v=.ref a∧N a∧H a=some (.lst (row.map oV))
section
variable {P:Program} {w:World} {K:PySem.W.Frag} {mg:Str→Option Value} {base:Heap} {f:Addr} {fd:FuncData}
def eX:Sp:=fun vs H Q _=>∃ (ch:V) (c:List Bell) (many:Nat),vs=[ch,.int many]∧ChoirAt H ch c∧Fine c∧many≤100000∧
 ∀ (H':Hp) (t:Addr) (told:List V) (rows:List (List (Option Int))),Same H H'→H t=none→H' t=some (.lst told)→Paired (RowAt (fun a=>H a=none∧a≠t) H') told rows→rows.length=many+1→Rows c rows→Q (.ref t) H'
theorem gG:FnScope ["choir","many","rules","told","n"] ["choir","many"] (ar jz):=⟨rfl,rfl,rfl,by decide +kernel,rfl,by decide +kernel,by decide +kernel⟩
theorem RowAt.same {N:Addr→Prop} {H H':Hp} {v:V} {row:List (Option Int)} (s:Same H H') (h:RowAt N H v row):RowAt N H' v row:=by
 obtain ⟨a,e,n,q⟩:=h
 exact ⟨a,e,n,s _ _ q⟩
theorem ye {n:Nat} (h:n≤100002):n<sizeLine:=Nat.lt_of_le_of_lt h (by decide)
theorem sj {ff:Addr} (F:Fun K "strokes" "strokes" jz f fd) (B:Blt mg) (C_rule_of_bell:Cal P w K mg base 6 "rule_of_bell" ["bell"] (g6 K ff)) (C_behind:Cal P w K mg base 3 "strokes_behind" ["choir","rules","before"] (jN K ff)):FnOk P w K mg base CX0 7 f fd ["choir","many"] eX:=by
 refine F.ok gG (fun vs H Q E h=>?_) (fun cdv A outer s H vs Q E hr h=>?_)
 ·obtain ⟨ch,c,many,rfl,_⟩:=h
  rfl
 obtain ⟨ch,c,many,rfl,hch,fc,hm,q⟩:=h
 obtain ⟨a,bs,rfl,ha,prb⟩:=id hch
 refine ⟨_,(af (da (i:=2) ["bell"] [] [] rfl gG.nd rfl (Or.inl rfl) (cD (pv 0)) (fun _ _ _ _ _=>(ay (i:=0) (show List.Nodup [("bell":Str)] by decide +kernel) rfl (Or.inl rfl))) (fun _ _ _ _ _=>bp) (fun _ _ _ _ _=>(aH C_rule_of_bell hr (by decide) rfl (aa (pv 0) ae))))
  (af (aB (i:=3) gG.nd rfl (Or.inl rfl) (bZ ae))
  (af (cO PassesOwn.never rfl (bU rfl B.range_ (aa (aV bP (pv 1) ak) ae)) (ay (i:=4) gG.nd rfl (Or.inl rfl))
  (ao (aP (az bN (pv 4) ak (aI _))
  (ao (bL (cw PySem.F.plainAttrs_list PySem.F.slot_list_append PySem.F.type_list_append cK (pv 3) (aa (bz ["bell"] [] [] rfl (cD (pv 0)) (fun _ _ _ _ _=>(ay (i:=0) (show List.Nodup [("bell":Str)] by decide +kernel) rfl (Or.inl rfl))) (fun _ _ _ _ _=>bp) (fun _ _ _ _ _=>(av (fJ (K:=K) rfl) (pv 0) ak (fun _ _=>rfl)))) ae))))
  (ao (bL (cw PySem.F.plainAttrs_list PySem.F.slot_list_append PySem.F.type_list_append cK (pv 3) (aa (aH C_behind hr (by decide) rfl (aa (pv 0) (aa (pv 2) (aa (av aE (pv 3) (aV eW (pv 4) ak) (fun _ _=>rfl)) ae)))) ae)))))))
  (ao (au (pv 3)))))),?_⟩
 have hbl:=aO prb
 have h6:=fc.1
 refine ⟨_,rfl,a,rfl,⟨_,SqT.of ha⟩,fun r hr0=>?_⟩
 refine bV (K:=K) (a:=a) (xs:=bs) (fun j ys H2=>Same H H2∧Paired (RuleV K ff H2) ys (c.take j)) ⟨aq hr0 _,.nil⟩ (fun j ys H2 _ ⟨z,_⟩=>SqT.of (z _ _ ha)) ?_ ?_
 ·rintro j y ys H2 hj ⟨s2,pr2⟩ hD
  obtain ⟨b,hb,hbv⟩:=bh prb hj
  have hj6:j<c.length:=(List.getElem?_eq_some_iff.mp hb).1
  refine ⟨rfl,aW ?_⟩
  refine ⟨_,rfl,y,b,rfl,hbv.mono (Same.tup s2),(fc.2 j b hb).2.2.1,fun x H3 s3 hx=>?_⟩
  have hD3:=s3 _ _ hD
  refine ⟨_,hD3,?_,_,⟨(s2.trans s3).upd hr0 _,?_⟩,ah⟩
  ·rw [aO pr2,List.length_take]
   exact aJ (by omega)
  ·have up:∀ (v:V) (b:Bell),RuleV K ff H3 v b→RuleV K ff (upd H3 r (.lst (ys++[.ref x]))) v b:=by
    rintro v b ⟨x,rfl,C,dx,hx,z⟩
    refine ⟨x,rfl,C,dx,?_,z⟩
    rw [aC (iH hx hD3 (by intro z; cases z))]
    exact hx
   rw [take_snoc hb]
   exact d9 (up _ _ ⟨x,rfl,hx⟩) (bE (fun _ _ z=>up _ _ (z.same s3)) pr2)
 ·rintro ys H2 ⟨s2,pr2⟩ hD
  rw [hbl,List.take_length] at pr2
  refine ⟨(by show 0≤sizeLine; decide),fun t ht=>?_⟩
  have nt:H t=none:=s2.free ht
  have hru2:RulesAt K ff H2 r c:=⟨ys,hD,pr2⟩
  have s3:Same H2 (upd H2 t (.lst [])):=aq ht _
  have hrt:r≠t:=aM hD ht
  refine ⟨_,rfl,_,_,rfl,rfl,((many+1:Nat):Int),?_,by omega,by omega,?_⟩
  ·rfl
  refine dh (lo:=0) (n:=(((many+1:Nat):Int)).toNat) (fun i σ H3=>∃ (told:List V) (rows:List (List (Option Int))) (o4:Option V),σ=[some (.ref a),some (.int many),some (.ref r),some (.ref t),o4]∧Same H H3∧RulesAt K ff H3 r c∧H3 t=some (.lst told)∧
    Paired (RowAt (fun a=>H a=none∧a≠t) H3) told rows∧rows.length=i∧Rows c rows)
   ⟨[],[],none,rfl,s2.trans s3,hru2.same s3,ah,.nil,rfl,⟨fun _ e=>(nomatch e),fun _ _ _ e=>(nomatch e)⟩⟩ ?_ ?_
  ·rintro i σ H3 hi ⟨told,rows,o4,rfl,s03,hru,ht3,prt,hri,hrows⟩
   have hti:=(aO prt).trans hri
   rw [Int.zero_add]
   have step:∀ (H4:Hp) (n:Addr) (now:List (Option Int)),Same H3 H4→H3 n=none→H4 n=some (.lst (now.map oV))→Rows c (rows++[now])→Same H (upd H4 t (.lst (told++[.ref n])))∧RulesAt K ff (upd H4 t (.lst (told++[.ref n]))) r c∧Paired (RowAt (fun a=>H a=none∧a≠t) (upd H4 t (.lst (told++[.ref n])))) (told++[.ref n]) (rows++[now]):=fun H4 n now s4 hn hn4 hrn=>by
    have hnt:n≠t:=fun e=>by rw [e,ht3] at hn; cases hn
    have ht4:=s4 _ _ ht3
    have up:∀ (v:V) (row:List (Option Int)),RowAt (fun a=>H a=none∧a≠t) H4 v row→RowAt (fun a=>H a=none∧a≠t) (upd H4 t (.lst (told++[.ref n]))) v row:=by
     rintro v row ⟨x,e,⟨x1,x2⟩,x3⟩
     exact ⟨x,e,⟨x1,x2⟩,by rw [aC x2]; exact x3⟩
    refine ⟨(s03.trans s4).upd nt _,?_,d9 (up _ _ ⟨n,rfl,⟨s03.free hn,hnt⟩,hn4⟩) (bE (fun _ _ z=>up _ _ (z.same s4)) prt)⟩
    obtain ⟨rs,e,pr⟩:=hru.same s4
    refine ⟨rs,by rw [aC hrt]; exact e,bE ?_ pr⟩
    rintro v b ⟨x,rfl,C,dx,hx,z⟩
    refine ⟨x,rfl,C,dx,?_,z⟩
    rw [aC (iH hx ht4 (by intro z; cases z))]
    exact hx
   refine ⟨_,rfl,rfl,_,rfl,?_⟩
   refine cb (fun cc=>?_) (fun cc=>?_)
   ·have hi0:i=0:=by
     have e:V.int (i:Int)=V.int 0:=of_decide_eq_true cc
     injection e with e
     omega
    refine ⟨_,rfl,.inl ⟨rfl,_,SqL.of ht3⟩,_,rfl,a,rfl,⟨_,SqT.of (s03 _ _ ha)⟩,fun D hD=>?_⟩
    refine bV (K:=K) (a:=a) (xs:=bs) (fun j ys H4=>Same H3 H4∧ys=((c.take j).map fun b=>some b.start).map oV) ⟨aq hD _,rfl⟩ (fun j ys H4 _ ⟨z,_⟩=>SqT.of ((s03.trans z) _ _ ha)) ?_ ?_
    ·rintro j y ys H4 hj ⟨s4,rfl⟩ hD4
     obtain ⟨b,hb,⟨x,tt,ls,rfl,hx,_⟩⟩:=bh prb hj
     have hj6:j<c.length:=(List.getElem?_eq_some_iff.mp hb).1
     refine ⟨rfl,aW ?_⟩
     refine ⟨_,rfl,x,_,_,_,rfl,rfl,SqT.of ((s03.trans s4) _ _ hx),rfl,_,hD4,?_,_,⟨s4.upd hD _,rfl⟩,?_⟩
     ·rw [List.length_map,List.length_map,List.length_take]
      exact aJ (by omega)
     ·rw [take_snoc hb,List.map_append,List.map_append]
      exact ah
    ·rintro ys H4 ⟨s4,rfl⟩ hD4
     rw [hbl,List.take_length] at hD4
     have hr0:rows=[]:=List.eq_nil_of_length_eq_zero (by omega)
     have hrn:Rows c (rows++[c.map fun b=>some b.start]):=hrows.snoc (fun _=>rfl) (fun x _ h=>by rw [hr0] at h; cases h)
     obtain ⟨z1,z2,z3⟩:=step H4 D _ s4 hD hD4 hrn
     exact ⟨t,_,_,rfl,rfl,s4 _ _ ht3,by rw [hti]; exact ye (by omega),_,_,_,rfl,z1,z2,ah,z3,by rw [List.length_append,hri]; rfl,hrn⟩
   ·have hi1:1≤i:=by
     rcases Nat.eq_zero_or_pos i with e | e
     ·exact absurd (by rw [e]; rfl) cc
     ·exact e
    have hv:=List.getElem?_eq_getElem (show i - 1<told.length by omega)
    obtain ⟨row,hrow,⟨p,ep,_,hp3⟩⟩:=bh prt hv
    have hat:atI told ((i:Int) - 1)=some (.ref p):=by
     have e:(i:Int) - 1=((i - 1:Nat):Int):=by omega
     rw [e,← ep]
     exact a9 hv
    refine ⟨_,rfl,.inl ⟨rfl,_,SqL.of ht3⟩,_,rfl,_,rfl,_,rfl,_,rfl,_,_,rfl,rfl,t,_,_,_,rfl,rfl,SqL.of ht3,hat,.ref a,c,r,p,row,rfl,hch.mono (Same.tup s03),fc,hru,hp3,hrows.len _ _ hrow,fun H4 n now s4 hn hn4 hfix=>?_⟩
    have hrn:Rows c (rows++[now]):=hrows.snoc (fun e=>by rw [e] at hri; exact absurd hri.symm (by show ¬ i=0; omega)) (fun x hx _=>by rw [hri,hrow] at hx; cases hx; exact hfix)
    obtain ⟨z1,z2,z3⟩:=step H4 n now s4 hn hn4 hrn
    exact ⟨t,_,_,rfl,rfl,s4 _ _ ht3,by rw [hti]; exact ye (by omega),_,_,_,rfl,z1,z2,ah,z3,by rw [List.length_append,hri]; rfl,hrn⟩
  ·rintro σ H3 ⟨told,rows,o4,rfl,s03,hru,ht3,prt,hri,hrows⟩
   exact ⟨_,rfl,q H3 t told rows s03 nt ht3 prt (by rw [hri]; omega) hrows⟩
end
end K81.S
namespace K81.S
open PySem L2
def LQ (l0 l1:Lis):Prop:=l0.whom=l1.whom∧l0.back=l1.back∧l0.beats≤l1.beats
def Dd (c0 c1:List Bell):Prop:=∀ (k:Nat) b1,c1[k]?=some b1→∃ b0,c0[k]?=some b0∧wants b0=wants b1∧Paired LQ b0.lis b1.lis
theorem jf {α β:Type} {F:α→β→Prop} {p:α→Bool} {q:β→Bool}:∀ {xs:List α} {ys:List β},Paired F xs ys→(∀ x y,x∈xs→y∈ys→F x y→q y=true→p x=true)→ys.countP q≤xs.countP p
 | _,_,.nil,_=>Nat.le_refl _
 | x::xs,y::ys,.cons r t,h=>by
  have ih:=jf t fun a b ha hb=>h a b (List.mem_cons_of_mem _ ha) (List.mem_cons_of_mem _ hb)
  rw [List.countP_cons,List.countP_cons]
  have h1:=h x y (by simp) (by simp) r
  by_cases hq:q y=true
  ·rw [if_pos hq,if_pos (h1 hq)]
   omega
  ·rw [if_neg hq]
   split <;> omega
theorem uu {α:Type} (l:List α) (f:α→Option Int):tot (l.map f)=l.countP (fun x=>(f x).isSome):=by
 unfold tot
 rw [List.countP_map]
 rfl
theorem ji {o:Option Int} {v:Int} (h:leO o v=true):∃ u,o=some u∧u≤v:=by
 cases o with
 | none=>cases h
 | some u=>exact ⟨u,rfl,of_decide_eq_true h⟩
theorem iz {before now:List (Option Int)} {l:Lis} {u:Int} (h:dZ before now l=some u):∃ w,(if l.back then before else now)[l.whom]?=some (some w)∧u=w+l.beats:=by
 unfold dZ at h
 cases e:(if l.back then before else now)[l.whom]? with
 | none=>rw [e] at h; cases h
 | some o =>
  rw [e] at h
  cases o with
  | none=>cases h
  | some w=>exact ⟨w,rfl,(Option.some.inj h).symm⟩
theorem t8 {before now:List (Option Int)} {l:Lis} {w:Int} (h:(if l.back then before else now)[l.whom]?=some (some w)):dZ before now l=some (w+l.beats):=by
 unfold dZ
 rw [h]
 rfl
theorem Ez {c0 c1:List Bell} (hc:gR c1) (qk:Dd c0 c1) {b0 b1 n0 n1:List (Option Int)} (h:∀ (k:Nat) u,b1[k]?=some (some u)→∃ u',b0[k]?=some (some u')∧u'≤u) (f0:Fix c0 b0 n0) (f1:Fix c1 b1 n1) :
  ∀ (k:Nat) v,n1[k]?=some (some v)→∃ v',n0[k]?=some (some v')∧v'≤v:=by
 obtain ⟨B,hB⟩:=low n1
 have all:∀ (n:Nat) (k:Nat) v,v<B+n→n1[k]?=some (some v)→∃ v',n0[k]?=some (some v')∧v'≤v:=by
  intro n
  induction n with
  | zero=>intro k v hv e; have:=hB v (List.mem_of_getElem? e); omega
  | succ n ih =>
   intro k v hv e
   have hk:k<c1.length:=by rw [← f1.1]; exact (List.getElem?_eq_some_iff.mp e).1
   have hb:=List.getElem?_eq_getElem hk
   obtain ⟨o,ho,hd⟩:=f1.2 k _ hb
   rw [e] at ho
   cases ho
   obtain ⟨bb,hb0,hw,hp⟩:=qk k _ hb
   obtain ⟨o',ho',hd'⟩:=f0.2 k _ hb0
   have cn:cnt (aU c1[k] b1 n1) v≤cnt (aU bb b0 n0) v:=by
    unfold aU
    rw [iA,iA]
    refine jf hp fun l0 l1 _ hl1 r hq=>?_
    obtain ⟨r1,r2,r3⟩:=r
    obtain ⟨u,eu,hu⟩:=ji hq
    obtain ⟨w,hw',ew⟩:=iz eu
    have hs:=hc k _ hb l1 hl1
    have:∃ w',(if l0.back then b0 else n0)[l0.whom]?=some (some w')∧w'≤w:=by
     rw [r2,r1]
     cases hbk:l1.back with
     | true=>rw [hbk] at hw'; exact h _ _ hw'
     | false=>rw [hbk] at hw'; exact ih l1.whom w (by omega) hw'
    obtain ⟨w',e',l'⟩:=this
    rw [t8 e']
    exact decide_eq_true (by omega)
   rw [hw] at hd'
   obtain ⟨d1,d2⟩:=hd
   cases o' with
   | none =>
    have h1:(tot (aU bb b0 n0):Int)<wants c1[k]:=hd'
    have:=kW (aU bb b0 n0) v
    omega
   | some v' =>
    refine ⟨v',ho',?_⟩
    refine Classical.byContradiction fun no=>?_
    have:=gU (aU bb b0 n0) (show v≤v' - 1 by omega)
    have:=hd'.2
    omega
 intro k v e
 exact all (v - B+1).toNat k v (by have:=hB v (List.mem_of_getElem? e); omega) e
theorem xb {c:List Bell} (hc:gR c) {b0 b1 n0 n1:List (Option Int)} (h:∀ (k:Nat) u,b1[k]?=some (some u)→∃ u',b0[k]?=some (some u')) (f0:Fix c b0 n0) (f1:Fix c b1 n1) :
  ∀ (k:Nat) v,n1[k]?=some (some v)→∃ v',n0[k]?=some (some v'):=by
 obtain ⟨B,hB⟩:=low n1
 have all:∀ (n:Nat) (k:Nat) v,v<B+n→n1[k]?=some (some v)→∃ v',n0[k]?=some (some v'):=by
  intro n
  induction n with
  | zero=>intro k v hv e; have:=hB v (List.mem_of_getElem? e); omega
  | succ n ih =>
   intro k v hv e
   have hk:k<c.length:=by rw [← f1.1]; exact (List.getElem?_eq_some_iff.mp e).1
   have hb:=List.getElem?_eq_getElem hk
   obtain ⟨o,ho,hd⟩:=f1.2 k _ hb
   rw [e] at ho
   cases ho
   obtain ⟨o',ho',hd'⟩:=f0.2 k _ hb
   cases o' with
   | some v'=>exact ⟨v',ho'⟩
   | none =>
    exfalso
    have h1:(tot (aU c[k] b0 n0):Int)<wants c[k]:=hd'
    have cn:cnt (aU c[k] b1 n1) v≤tot (aU c[k] b0 n0):=by
     unfold aU
     rw [iA,uu]
     refine List.countP_mono_left fun l hl hq=>?_
     obtain ⟨u,eu,hu⟩:=ji hq
     obtain ⟨w,hw',ew⟩:=iz eu
     have hs:=hc k _ hb l hl
     have:∃ w',(if l.back then b0 else n0)[l.whom]?=some (some w'):=by
      cases hbk:l.back with
      | true=>rw [hbk] at hw'; exact h _ _ hw'
      | false=>rw [hbk] at hw'; exact ih l.whom w (by omega) hw'
     obtain ⟨w',e'⟩:=this
     rw [t8 e']
     rfl
    have:=hd.1
    omega
 intro k v e
 exact all (v - B+1).toNat k v (by have:=hB v (List.mem_of_getElem? e); omega) e
def later (d:Int) (r:List (Option Int)):List (Option Int):=r.map (Option.map (·+d))
theorem lB {d:Int} {r:List (Option Int)} {k:Nat}:(later d r)[k]?=(r[k]?).map (Option.map (·+d)):=List.getElem?_map ..
theorem nI (xs:List (Option Int)) (d v:Int):cnt (later d xs) v=cnt xs (v - d):=by
 unfold later
 rw [iA]
 unfold cnt
 refine List.countP_congr fun o _=>?_
 cases o with
 | none=>exact Iff.rfl
 | some u =>
  show decide (u+d≤v)=true↔decide (u≤v - d)=true
  rw [decide_eq_true_iff,decide_eq_true_iff]
  omega
theorem vD (xs:List (Option Int)) (d:Int):tot (later d xs)=tot xs:=by
 unfold later
 rw [uu]
 unfold tot
 refine List.countP_congr fun o _=>?_
 cases o <;> exact Iff.rfl
theorem rE (b:Bell) (d:Int) (b0 n0:List (Option Int)):aU b (later d b0) (later d n0)=later d (aU b b0 n0):=by
 unfold aU later
 rw [List.map_map]
 refine List.map_congr_left fun l _=>?_
 show dZ (later d b0) (later d n0) l=(dZ b0 n0 l).map (·+d)
 unfold dZ
 have j:∀ o:Option (Option Int),Option.map (·+l.beats) (Option.map (Option.map (·+d)) o).join=Option.map (·+d) (Option.map (·+l.beats) o.join):=fun o=>by
  cases o with
  | none=>rfl
  | some o =>
   cases o with
   | none=>rfl
   | some u =>
    show some (u+d+l.beats)=some (u+l.beats+d)
    rw [Int.add_right_comm]
 cases l.back
 ·simp only [Bool.false_eq_true,if_false,lB]
  exact j _
 ·simp only [if_true,lB]
  exact j _
theorem vo {xs:List (Option Int)} {n d:Int} {o:Option Int} (h:Due xs n o):Due (later d xs) n (o.map (·+d)):=by
 cases o with
 | none=>show (tot (later d xs):Int)<n; rw [vD]; exact h
 | some v =>
  refine ⟨?_,?_⟩
  ·rw [nI,show v+d - d=v by omega]; exact h.1
  ·rw [nI,show v+d - 1 - d=v - 1 by omega]; exact h.2
theorem uO {c:List Bell} {b0 n0:List (Option Int)} (d:Int) (f:Fix c b0 n0):Fix c (later d b0) (later d n0):=by
 refine ⟨by unfold later; rw [List.length_map]; exact f.1,fun k b hb=>?_⟩
 obtain ⟨o,ho,hd⟩:=f.2 k b hb
 refine ⟨o.map (·+d),by rw [lB,ho]; rfl,?_⟩
 rw [rE]
 exact vo hd
structure Btw (lo hi:Int) (r r':List (Option Int)):Prop where
 len:r.length=r'.length
 le:∀ (k:Nat) v,r'[k]?=some (some v)→∃ u,r[k]?=some (some u)∧u+lo≤v
 ge:∀ (k:Nat) u,r[k]?=some (some u)→∃ v,r'[k]?=some (some v)∧v≤u+hi
end K81.S
namespace L2
open PySem PySem.Spec PyProof.Rows
theorem zz {X:Cx} {K:PySem.W.Frag} {es:List Expr} {k:Nat} {t:TGs} {n:Nat} {pos:Pos} (hK:X.K=K) (hc:X.calm=true) (h:PGs X es t) (hn:(assignEach es X.env).length=n:=by rfl) (hst:(assignEach es X.env).findIdx? (·.1)=none:=by rfl):PG X (.Tuple es k pos) (Du K n t):=hK▸eR hc h hn hst
end L2
namespace K81.S
open PySem L2
abbrev starts (c:List Bell):List (Option Int):=c.map fun b=>some b.start
def cX (c:List Bell) (now:List (Option Int)) (j:Nat):List Str:=(((c.zip now).take j).filter fun z=>z.2.isNone).map (·.1.name)
abbrev a8 (c:List Bell) (now:List (Option Int)):List Str:=cX c now c.length
theorem zo {c:List Bell} {now:List (Option Int)} {j:Nat} {b:Bell} {o:Option Int} (h1:c[j]?=some b) (h2:now[j]?=some o):(c.zip now)[j]?=some (b,o):=by
 rw [List.getElem?_zip_eq_some]
 exact ⟨h1,h2⟩
theorem eJ {c:List Bell} {now:List (Option Int)} {j:Nat} {b:Bell} {o:Option Int} (h1:c[j]?=some b) (h2:now[j]?=some o):cX c now (j+1)=cX c now j++(if o.isNone=true then [b.name] else []):=by
 unfold cX
 rw [take_snoc (zo h1 h2),List.filter_append,List.map_append]
 congr 1
 cases o <;> rfl
theorem fI (c:List Bell) (now:List (Option Int)) (j:Nat):(cX c now j).length≤c.length:=by
 unfold cX
 rw [List.length_map]
 refine Nat.le_trans (List.length_filter_le _ _) ?_
 rw [List.length_take,List.length_zip]
 omega
section
variable {P:Program} {w:World} {K:PySem.W.Frag} {mg:Str→Option Value} {base:Heap} {f:Addr} {fd:FuncData}
def gA:Sp:=fun vs H Q _=>∃ (ch:V) (c:List Bell),vs=[ch]∧ChoirAt H ch c∧Fine c∧∀ (H':Hp) (l:Addr) (now:List (Option Int)),Same H H'→H l=none→H' l=some (.lst ((a8 c now).map V.str))→Fix c (starts c) now→Q (.ref l) H'
theorem sP:FnScope ["choir"] ["choir"] (ar jD):=⟨rfl,rfl,rfl,by decide +kernel,rfl,by decide +kernel,by decide +kernel⟩
theorem sk (F:Fun K "waiting" "waiting" jD f fd) (B:Blt mg) (C_strokes:Cal P w K mg base 7 "strokes" ["choir","many"] eX):FnOk P w K mg base CX0 8 f fd ["choir"] gA:=by
 refine F.ok sP (fun vs H Q E h=>?_) (fun cdv A outer s H vs Q E hr h=>?_)
 ·obtain ⟨ch,c,rfl,_⟩:=h
  rfl
 obtain ⟨ch,c,rfl,hch,fc,q⟩:=h
 refine ⟨_,(ao (au (bz ["bell","beat"] [] [] rfl (CF true false rfl B.zip_ (aa (pv 0) (aa (av aE (aH C_strokes hr (by decide) rfl (aa (pv 0) (aa ak ae))) ak (fun _ _=>rfl)) ae))) (fun _ _ _ _ _=>(zz (n:=2) (K:=K) rfl rfl (aZ (ay (i:=0) (show List.Nodup [("bell":Str),("beat":Str)] by decide +kernel) rfl (Or.inl rfl)) (aZ (ay (i:=1) (show List.Nodup [("bell":Str),("beat":Str)] by decide +kernel) rfl (Or.inl rfl)) dy)))) (fun _ _ _ _ _=>(pC (az gu (pv 1) bG (aI _)))) (fun _ _ _ _ _=>(av (fJ (K:=K) rfl) (pv 0) ak (fun _ _=>rfl)))))),?_⟩
 refine ⟨_,rfl,_,rfl,ch,c,1,rfl,hch,fc,by omega,fun H1 t told rows s1 ht ht1 prt hlr hrows=>?_⟩
 have h0:=List.getElem?_eq_getElem (show 0<rows.length by omega)
 have h1:=List.getElem?_eq_getElem (show 1<rows.length by omega)
 obtain ⟨v1,hv1,p1,rfl,⟨np1,npt⟩,hp1⟩:=cI prt h1
 have fx:=hrows.next 0 _ _ h0 h1
 rw [hrows.first _ h0] at fx
 generalize rows[1]=now at h1 hp1 fx
 obtain ⟨x,bs,rfl,hx1,prb⟩:=hch.mono (Same.tup s1)
 refine ⟨t,_,_,_,rfl,rfl,SqL.of ht1,a9 (j:=1) hv1,x,p1,rfl,⟨_,SqT.of hx1⟩,⟨_,SqL.of hp1⟩,fun D hD=>?_⟩
 have hbl:=aO prb
 have hnl:=fx.1
 have h6:=fc.1
 refine zi (K:=K) (t1:=true) (t2:=false) (a:=x) (b:=p1) (xs:=bs) (ys:=now.map oV) (fun j zs H2=>Same H1 H2∧zs=(cX c now j).map V.str) ⟨aq hD _,rfl⟩ (fun j zs H2 _ ⟨z,_⟩=>⟨SqT.of (z _ _ hx1),SqL.of (z _ _ hp1)⟩) ?_ ?_
 ·rintro j y y' zs H2 T hj hj' ⟨s2,rfl⟩ hD2 hT
  obtain ⟨b,hb,⟨z,tt,ls,rfl,hz,_⟩⟩:=bh prb hj
  obtain ⟨o,rfl,ho⟩:=C4 hj'
  have s3:=aq hT (.tup [.ref z,oV o])
  have eT:(upd H2 T (.tup [.ref z,oV o])) T=some (.tup [.ref z,oV o]):=ah
  refine ⟨T,_,rfl,SqT.of eT,rfl,_,_,rfl,_,_,rfl,rfl,?_⟩
  have hD3:=s3 _ _ hD2
  have s13:=s2.trans s3
  generalize upd H2 T (.tup [.ref z,oV o])=H3 at s3 eT hD3 s13 ⊢
  refine ⟨rfl,_,rfl,rfl,_,rfl,?_⟩
  cases o with
  | some u =>
   refine bg ⟨_,⟨s13,rfl⟩,?_⟩
   rw [eJ hb ho]
   show H3 D=some (HO.lst ((cX c now j++[]).map V.str))
   rw [List.append_nil]
   exact hD3
  | none =>
   refine bc ⟨_,rfl,z,_,_,_,rfl,rfl,SqT.of (s13 _ _ hz),rfl,_,hD3,?_,_,⟨s13.upd hD _,rfl⟩,?_⟩
   ·rw [List.length_map]
    have:=fI c now j
    exact aJ (by omega)
   ·rw [eJ hb ho,List.map_append]
    exact ah
 ·rintro zs H2 ⟨s2,rfl⟩ hD2
  rw [List.length_map,hnl,hbl,Nat.min_self] at hD2
  exact q H2 D now (s1.trans s2) (s1.free hD) hD2 fx
end
end K81.S
namespace K81.S
open PySem L2
theorem high (l:List (Option Int)):∃ B:Int,∀ v,some v∈l→v≤B:=by
 induction l with
 | nil=>exact ⟨0,fun v h=>by cases h⟩
 | cons o r ih =>
  obtain ⟨B,hB⟩:=ih
  cases o with
  | none=>exact ⟨B,fun v h=>by
    rcases List.mem_cons.mp h with z | z
    ·cases z
    ·exact hB v z⟩
  | some d=>exact ⟨max B d,fun v h=>by
    rcases List.mem_cons.mp h with z | z
    ·have:=Option.some.inj z
     omega
    ·have:=hB v z
     omega⟩
theorem sm (bs:List (Option Int)) {n:Int} (hn:1≤n):∃ o,Due bs n o:=by
 by_cases ht:(tot bs:Int)<n
 ·exact ⟨none,ht⟩
 obtain ⟨B,hB⟩:=low bs
 obtain ⟨T,hT⟩:=high bs
 have c0:cnt bs (B - 1)=0:=List.countP_eq_zero.mpr fun o ho z=>by
  cases o with
  | none=>cases z
  | some d =>
   have h1:d≤B - 1:=of_decide_eq_true z
   have:=hB d ho
   omega
 have c1:cnt bs T=tot bs:=by
  refine Nat.le_antisymm (kW bs T) (List.countP_mono_left fun o ho z=>?_)
  cases o with
  | none=>cases z
  | some d=>exact decide_eq_true (hT d ho)
 have go:∀ m:Nat,n≤(cnt bs (B - 1+m):Int)→∃ v,Due bs n (some v):=by
  intro m
  induction m with
  | zero=>intro h; rw [show B - 1+((0:Nat):Int)=B - 1 by omega,c0] at h; omega
  | succ m ih =>
   intro h
   by_cases h':n≤(cnt bs (B - 1+m):Int)
   ·exact ih h'
   ·exact ⟨B - 1+(m+1:Nat),h,by rw [show B - 1+((m+1:Nat):Int) - 1=B - 1+m by omega]; omega⟩
 obtain ⟨v,hv⟩:=go (T - B+1).toNat (by
  have:=gU bs (show T≤B - 1+((T - B+1).toNat:Int) by omega)
  omega)
 exact ⟨some v,hv⟩
def xK (c:List Bell):Prop:=∀ (k:Nat) b,c[k]?=some b→1≤wants b
theorem qE {p:Nat→Int→Prop} (hu:∀ k v v',p k v→p k v'→v=v'):∀ m:Nat,(∃ k v,k<m∧p k v)→∃ k v,k<m∧p k v∧∀ k' v',k'<m→p k' v'→v≤v'
 | 0,⟨_,_,h,_⟩=>absurd h (Nat.not_lt_zero _)
 | m+1,h=>by
  by_cases h1:∃ k v,k<m∧p k v
  ·obtain ⟨k,v,hk,hp,hl⟩:=qE hu m h1
   by_cases h2:∃ v',p m v'∧v'<v
   ·obtain ⟨v',hv',hlt⟩:=h2
    refine ⟨m,v',by omega,hv',fun k2 v2 hk2 hp2=>?_⟩
    rcases Nat.lt_or_ge k2 m with z | z
    ·have:=hl k2 v2 z hp2; omega
    ·have e:k2=m:=by omega
     subst e
     rw [hu k2 v' v2 hv' hp2]
     exact Int.le_refl _
   ·refine ⟨k,v,by omega,hp,fun k2 v2 hk2 hp2=>?_⟩
    rcases Nat.lt_or_ge k2 m with z | z
    ·exact hl k2 v2 z hp2
    ·have e:k2=m:=by omega
     subst e
     exact Int.not_lt.mp fun z=>h2 ⟨v2,hp2,z⟩
  ·obtain ⟨k,v,hk,hp⟩:=h
   have e:k=m:=by
    rcases Nat.lt_or_ge k m with z | z
    ·exact absurd ⟨k,v,z,hp⟩ h1
    ·omega
   subst e
   refine ⟨k,v,by omega,hp,fun k2 v2 hk2 hp2=>?_⟩
   rcases Nat.lt_or_ge k2 k with z | z
   ·exact absurd ⟨k2,v2,z,hp2⟩ h1
   ·have e:k2=k:=by omega
    subst e
    rw [hu k2 v v2 hp hp2]
    exact Int.le_refl _
theorem vm {now:List (Option Int)} {k:Nat} {v:Int} (h:now[k]?=some none):(now.set k (some v)).countP (fun o=>o.isNone)+1=now.countP (fun o=>o.isNone):=by
 induction now generalizing k with
 | nil=>cases h
 | cons o r ih =>
  cases k with
  | zero =>
   have e:o=none:=by simpa using h
   subst e
   rw [List.set_cons_zero,List.countP_cons,List.countP_cons]
   rfl
  | succ k =>
   have:=ih (k:=k) (by simpa using h)
   rw [List.set_cons_succ,List.countP_cons,List.countP_cons]
   omega
theorem r0 {c:List Bell} (hc:gR c) (hw:xK c) (before:List (Option Int)):∃ now,Fix c before now:=by
 have go:∀ (m:Nat) (now:List (Option Int)),now.countP (fun o=>o.isNone)=m→Going c before now→∃ now,Fix c before now:=by
  intro m
  induction m with
  | zero =>
   intro now h0 g
   refine ⟨now,iu g fun k b _ hn=>?_⟩
   exact absurd rfl (List.countP_eq_zero.mp h0 none (List.mem_of_getElem? hn))
  | succ m ih =>
   intro now hm g
   let p:Nat→Int→Prop:=fun k v=>∃ b,c[k]?=some b∧now[k]?=some none∧Due (aU b before now) (wants b) (some v)
   by_cases hp:∃ k v,k<c.length∧p k v
   ·obtain ⟨k,v,hk,⟨b,hb,hn,hd⟩,hl⟩:=qE (p:=p) (fun k v v' ⟨b,hb,_,h1⟩ ⟨b',hb',_,h2⟩=>by
     rw [hb] at hb'
     cases hb'
     exact Option.some.inj (cG h1 h2)) c.length hp
    refine ih (now.set k (some v)) ?_ (lY hc g hb hn hd fun j b' v' hj hjn hd'=>hl j v' (List.getElem?_eq_some_iff.mp hj).1 ⟨b',hj,hjn,hd'⟩)
    have:=vm (v:=v) hn
    omega
   ·refine ⟨now,iu g fun k b hb hn=>?_⟩
    obtain ⟨o,ho⟩:=sm (aU b before now) (hw k b hb)
    cases o with
    | none=>exact ho
    | some v=>exact absurd ⟨k,v,(List.getElem?_eq_some_iff.mp hb).1,b,hb,hn,ho⟩ hp
 exact go _ _ rfl (hX c before)
def NW (c:List Bell):Prop:=∃ rank:Nat→Nat,∀ (k:Nat) b,c[k]?=some b→1≤wants b∧wants b≤b.lis.length∧∀ l∈b.lis,l.whom<c.length∧1≤l.beats∧(l.back=false→rank l.whom<rank k)
theorem all_some:∀ {l:List (Option Int)},(∀ k,k<l.length→∃ v,l[k]?=some (some v))→∃ r:List Int,l=r.map some
 | [],_=>⟨[],rfl⟩
 | o::l,h=>by
  obtain ⟨v,hv⟩:=h 0 (by simp)
  have e:o=some v:=by simpa using hv
  obtain ⟨r,hr⟩:=all_some (l:=l) fun k hk=>by
   obtain ⟨u,hu⟩:=h (k+1) (by simpa using hk)
   exact ⟨u,by simpa using hu⟩
  exact ⟨v::r,by rw [e,hr]; rfl⟩
theorem xW {r:List Int} {k:Nat} (h:k<r.length):∃ v,(r.map some)[k]?=some (some v):=⟨r[k],by rw [List.getElem?_map,List.getElem?_eq_getElem h]; rfl⟩
structure SeqR (c:List Bell) (R:Nat→List Int):Prop where
 first:R 0=c.map (·.start)
 next:∀ n,Fix c ((R n).map some) ((R (n+1)).map some)
theorem SeqR.len {c:List Bell} {R:Nat→List Int} (h:SeqR c R) (n:Nat):(R n).length=c.length:=by
 cases n with
 | zero=>rw [h.first,List.length_map]
 | succ n=>have:=(h.next n).1; rwa [List.length_map] at this
theorem xl {c:List Bell} (hc:gR c) {R:Nat→List Int} (h:SeqR c R) {rows:List (List (Option Int))} (hr:Rows c rows):∀ (n:Nat) row,rows[n]?=some row→row=(R n).map some:=by
 intro n
 induction n with
 | zero =>
  intro row e
  rw [hr.first row e,h.first,List.map_map]
  rfl
 | succ n ih =>
  intro row e
  have hn:n<rows.length:=by have:=(List.getElem?_eq_some_iff.mp e).1; omega
  have e0:=List.getElem?_eq_getElem hn
  have f:=hr.next n _ row e0 e
  rw [ih _ e0] at f
  exact c9 hc f (h.next n)
def Sh (R:Nat→List Int) (f l:Nat) (d:Int):Prop:=R l=(R f).map (·+d)
theorem Sh.trans {R:Nat→List Int} {a b e:Nat} {x y:Int} (h:Sh R a b x) (h':Sh R b e y):Sh R a e (x+y):=by
 unfold Sh at h h' ⊢
 rw [h',h,List.map_map]
 exact List.map_congr_left fun v _=>by show v+x+y=v+(x+y); omega
theorem Sh.refl (R:Nat→List Int) (a:Nat):Sh R a a 0:=by
 unfold Sh
 have e:(fun v:Int=>v+0)=id:=funext fun v=>Int.add_zero v
 rw [e,List.map_id]
theorem Sh.neg {R:Nat→List Int} {a b:Nat} {x:Int} (h:Sh R a b x):Sh R b a (-x):=by
 unfold Sh at h ⊢
 rw [h,List.map_map]
 have e:((fun v:Int=>v+-x) ∘ fun v=>v+x)=id:=funext fun v=>by show v+x+-x=v; omega
 rw [e,List.map_id]
theorem nP (r:List Int) (d:Int):later d (r.map some)=(r.map (·+d)).map some:=by
 unfold later
 rw [List.map_map,List.map_map]
 rfl
theorem jr {x y:List Int} (h:x.map some=y.map some):x=y:=List.map_inj_right (fun _ _ e=>Option.some.inj e) |>.mp h
theorem Sh.on {c:List Bell} (hc:gR c) {R:Nat→List Int} (s:SeqR c R) {f l:Nat} {d:Int} (h:Sh R f l d):Sh R (f+1) (l+1) d:=by
 have f1:=uO d (s.next f)
 rw [nP,nP] at f1
 have f2:=s.next l
 rw [show R l=(R f).map (·+d) from h] at f2
 exact jr (c9 hc f2 f1)
theorem Sh.far {c:List Bell} (hc:gR c) {R:Nat→List Int} (s:SeqR c R) {f l:Nat} {d:Int} (h:Sh R f l d):∀ t,Sh R (f+t) (l+t) d
 | 0=>h
 | t+1=>(Sh.far hc s h t).on hc s
theorem Sh.times {c:List Bell} (hc:gR c) {R:Nat→List Int} (s:SeqR c R) {f p:Nat} {d:Int} (h:Sh R f (f+p) d):∀ t:Nat,Sh R f (f+t * p) (t * d)
 | 0=>by
  rw [Nat.zero_mul,show ((0:Nat):Int) * d=0 by simp]
  exact Sh.refl R f
 | t+1=>by
  have a:=Sh.times hc s h t
  have b:=Sh.far hc s h (t * p)
  have e:=a.trans b
  rw [show f+p+t * p=f+(t+1) * p by rw [Nat.succ_mul]; omega,show (t:Int) * d+d=((t+1:Nat):Int) * d by rw [Int.natCast_add,Int.add_mul]; simp] at e
  exact e
theorem Sh.unique {c:List Bell} (h1:1≤c.length) {R:Nat→List Int} (s:SeqR c R) {f l:Nat} {d d':Int} (h:Sh R f l d) (h':Sh R f l d'):d=d':=by
 have hl:0<(R f).length:=by rw [s.len]; omega
 unfold Sh at h h'
 rw [h] at h'
 have:=congrArg (fun x=>x[0]?) h'
 simp only [List.getElem?_map,List.getElem?_eq_getElem hl,Option.map_some] at this
 have:=Option.some.inj this
 omega
theorem DH {c:List Bell} (h:NW c) {r r':List Int} (f:Fix c (r.map some) (r'.map some)) {m:Int} (hm:∀ x∈r,m≤x):∀ x∈r',m+1≤x:=by
 obtain ⟨rank,h⟩:=h
 obtain ⟨B,hB⟩:=low (r'.map some)
 have hB':∀ x∈r',B≤x:=fun x hx=>hB x (List.mem_map.mpr ⟨x,hx,rfl⟩)
 have go:∀ (n:Nat) x,x∈r'→x<B+n→m+1≤x:=by
  intro n
  induction n with
  | zero=>intro x hx hl; have:=hB' x hx; omega
  | succ n ih =>
   intro x hx hl
   obtain ⟨k,hk,e⟩:=List.getElem_of_mem hx
   have hkc:k<c.length:=by have:=f.1; rw [List.length_map] at this; omega
   have eb:=List.getElem?_eq_getElem hkc
   obtain ⟨o,ho,hd⟩:=f.2 k _ eb
   rw [List.getElem?_map,List.getElem?_eq_getElem hk,e] at ho
   cases ho
   obtain ⟨w1,w2,w3⟩:=h k _ eb
   have hp:0<cnt (aU c[k] (r.map some) (r'.map some)) x:=by have:=hd.1; omega
   unfold cnt at hp
   rw [List.countP_pos_iff] at hp
   obtain ⟨o,hmem,ho⟩:=hp
   obtain ⟨l,hl',rfl⟩:=List.mem_map.mp hmem
   obtain ⟨u,eu,hu⟩:=ji ho
   obtain ⟨w,hw,ew⟩:=iz eu
   obtain ⟨l1,l2,l3⟩:=w3 l hl'
   cases hbk:l.back with
   | true =>
    rw [hbk] at hw
    have hw':(r.map some)[l.whom]?=some (some w):=hw
    obtain ⟨w',hw1,hw2⟩:=List.mem_map.mp (List.mem_of_getElem? hw')
    cases hw2
    have:=hm w hw1
    omega
   | false =>
    rw [hbk] at hw
    have hw':(r'.map some)[l.whom]?=some (some w):=hw
    obtain ⟨w',hw1,hw2⟩:=List.mem_map.mp (List.mem_of_getElem? hw')
    cases hw2
    have:=ih w hw1 (by omega)
    omega
 intro x hx
 exact go (x - B+1).toNat x hx (by have:=hB' x hx; omega)
def xF (R:Nat→List Int) (f l:Nat):Prop:=∀ d,¬ Sh R f l d
def dz (R:Nat→List Int) (most:Nat):Option (Nat×Nat×Int)→Prop
 | none=>∀ f l,f<l→l≤most→xF R f l
 | some (f,p,d)=>1≤p∧f+p≤most∧Sh R f (f+p) d∧(∀ f' l,f'<f→f'<l→l≤most→xF R f' l)∧∀ l,f<l→l<f+p→xF R f l
theorem jx {c:List Bell} (hc:gR c) {R:Nat→List Int} (s:SeqR c R) {f p f' p':Nat} {d d':Int} (h:Sh R f (f+p) d) (h':Sh R f' (f'+p') d') (p1:1≤p') (hf:f'≤f):Sh R f' (f'+p) d:=by
 have a:=Sh.times hc s h' f
 have hle:f≤f'+f * p':=by
  have:f * 1≤f * p':=Nat.mul_le_mul_left f p1
  omega
 have b:=Sh.far hc s h (f'+f * p' - f)
 rw [show f+(f'+f * p' - f)=f'+f * p' by omega,show f+p+(f'+f * p' - f)=f'+f * p'+p by omega] at b
 have e:=(Sh.far hc s a p).neg
 rw [show f'+f * p'+p=f'+f * p'+p from rfl] at e
 have r:=(a.trans b).trans e
 rw [show (f:Int) * d'+d+-((f:Int) * d')=d by omega] at r
 exact r
theorem rS {c:List Bell} (hc:gR c) (h1:1≤c.length) {R:Nat→List Int} (s:SeqR c R) {most more f p:Nat} {d:Int} (hm:most≤more) (h:dz R most (some (f,p,d))) {o:Option (Nat×Nat×Int)} (h':dz R more o):o=some (f,p,d):=by
 obtain ⟨p1,fp,sh,no1,no2⟩:=h
 cases o with
 | none=>exact absurd sh (h' f (f+p) (by omega) (by omega) d)
 | some z =>
  obtain ⟨f',p',d'⟩:=z
  obtain ⟨p1',fp',sh',no1',no2'⟩:=h'
  have e1:f'=f:=by
   rcases Nat.lt_trichotomy f' f with z | z | z
   ·exact absurd (jx hc s sh sh' p1' (by omega)) (no1 f' (f'+p) z (by omega) (by omega) d)
   ·exact z
   ·exact absurd sh (no1' f (f+p) z (by omega) (by omega) d)
  subst e1
  have e2:p'=p:=by
   rcases Nat.lt_trichotomy p' p with z | z | z
   ·exact absurd sh' (no2 (f'+p') (by omega) (by omega) d')
   ·exact z
   ·exact absurd sh (no2' (f'+p) (by omega) (by omega) d)
  subst e2
  rw [Sh.unique h1 s sh' sh]
end K81.S
namespace K81.S
open PySem L2
end K81.S
namespace K81.S
open PySem L2
theorem Bz {bs:List (Option Int)} {n v:Int} (h:Due bs n (some v)):some v∈bs:=by
 obtain ⟨h1,h2⟩:=h
 refine Classical.byContradiction fun no=>?_
 have:cnt bs v≤cnt bs (v - 1):=List.countP_mono_left fun o ho e=>by
  obtain ⟨u,rfl,hu⟩:=ji e
  have ne:u≠v:=fun z=>no (z▸ho)
  exact decide_eq_true (by omega)
 omega
theorem lK {u v:Int} (h:u<v):∀ {bs:List (Option Int)},some v∈bs→cnt bs u+1≤cnt bs v
 | [],hv=>(nomatch hv)
 | o::r,hv=>by
  have e:∀ x:Int,cnt (o::r) x=cnt r x+if leO o x=true then 1 else 0:=fun x=>List.countP_cons ..
  rw [e u,e v]
  rcases List.mem_cons.mp hv with hv | hv
  ·have a1:leO o v=true:=by rw [← hv]; exact decide_eq_true (Int.le_refl v)
   have a2:¬ leO o u=true:=by
    rw [← hv]
    intro z
    have:=of_decide_eq_true z
    omega
   rw [if_pos a1,if_neg a2]
   have:=gU r (show u≤v by omega)
   omega
  ·have ih:=lK h hv
   by_cases a:leO o u=true
   ·rw [if_pos a,if_pos (qA (by omega) a)]
    omega
   ·rw [if_neg a]
    omega
theorem rm {c:List Bell} {before now:List (Option Int)} (f:Fix c before now) {v:Int} (hv:some v∈now):∃ (b:Bell) (l:Lis) (w:Int),b∈c∧l∈b.lis∧(if l.back then before else now)[l.whom]?=some (some w)∧v=w+l.beats:=by
 obtain ⟨k,hk⟩:=List.getElem?_of_mem hv
 have hkc:k<c.length:=by
  rw [← f.1]
  exact (List.getElem?_eq_some_iff.mp hk).1
 have hb:=List.getElem?_eq_getElem hkc
 obtain ⟨o,ho,hd⟩:=f.2 k _ hb
 rw [hk] at ho
 cases ho
 obtain ⟨l,hl,e⟩:=List.mem_map.mp (Bz hd)
 obtain ⟨w,h1,h2⟩:=iz e
 exact ⟨_,l,w,List.getElem_mem hkc,hl,h1,h2⟩
theorem rn {c:List Bell} {before now:List (Option Int)} (f:Fix c before now) {M:Int} (hM:∀ u,some u∈before→u≤M) (hb:∀ b∈c,∀ l∈b.lis,1≤l.beats∧l.beats≤1000):∀ v,some v∈now→v≤M+1000 * (c.length:Int):=by
 have P:∀ (j:Nat) v,some v∈now→M+1000 * (j:Int)<v→j+1≤cnt now v:=by
  intro j
  induction j with
  | zero=>intro v hv _; have:=lK (u:=v - 1) (by omega) hv; omega
  | succ j ih =>
   intro v hv hlt
   obtain ⟨b,l,w,h1,h2,h3,h4⟩:=rm f hv
   have h5:=hb b h1 l h2
   cases e:l.back with
   | true =>
    rw [e] at h3
    have:=hM w (List.mem_of_getElem? h3)
    omega
   | false =>
    rw [e] at h3
    have i1:=ih w (List.mem_of_getElem? h3) (by omega)
    have i2:=lK (u:=w) (v:=v) (by omega) hv
    omega
 intro v hv
 refine Classical.byContradiction fun no=>?_
 have a:=P c.length v hv (by omega)
 have b:cnt now v≤now.length:=List.countP_le_length
 have d:=f.1
 omega
theorem oZ {c:List Bell} {before now:List (Option Int)} (f:Fix c before now) {L:Int} (hL:∀ u,some u∈before→L≤u) (hb:∀ b∈c,∀ l∈b.lis,1≤l.beats∧l.beats≤1000):∀ v,some v∈now→L≤v:=by
 obtain ⟨B,hB⟩:=low now
 have P:∀ (n:Nat) v,some v∈now→v<B+(n:Int)→L≤v:=by
  intro n
  induction n with
  | zero=>intro v hv h; have:=hB v hv; omega
  | succ n ih =>
   intro v hv h
   obtain ⟨b,l,w,h1,h2,h3,h4⟩:=rm f hv
   have h5:=hb b h1 l h2
   cases e:l.back with
   | true =>
    rw [e] at h3
    have:=hL w (List.mem_of_getElem? h3)
    omega
   | false =>
    rw [e] at h3
    have:=ih w (List.mem_of_getElem? h3) (by omega)
    omega
 intro v hv
 exact P (v - B+1).toNat v hv (by omega)
theorem iX {c:List Bell} {rows:List (List (Option Int))} (h:Rows c rows) (c6:c.length≤6) (hs:∀ b∈c,0≤b.start∧b.start≤1000) (hb:∀ b∈c,∀ l∈b.lis,1≤l.beats∧l.beats≤1000):∀ (n:Nat) row,rows[n]?=some row→∀ v,some v∈row→0≤v∧v≤1000+6000 * (n:Int)
 | 0,row,e,v,hv=>by
  rw [h.first row e] at hv
  obtain ⟨b,hm,q⟩:=List.mem_map.mp hv
  have:=hs b hm
  have e2:=Option.some.inj q
  omega
 | n+1,row,e,v,hv=>by
  have hn:n<rows.length:=by
   have:=(List.getElem?_eq_some_iff.mp e).1
   omega
  have hr:=List.getElem?_eq_getElem hn
  have f:=h.next n _ row hr e
  have ih:=iX h c6 hs hb n _ hr
  have a:=oZ f (L:=0) (fun u hu=>(ih u hu).1) hb v hv
  have b:=rn f (M:=1000+6000 * (n:Int)) (fun u hu=>(ih u hu).2) hb v hv
  omega
theorem eN {n:Int} (h:n.natAbs<2 ^ 64):n.natAbs.log2<1920:=by
 by_cases e:n.natAbs=0
 ·rw [e]
  decide
 ·exact Nat.lt_of_lt_of_le (Nat.log2_lt e |>.mpr h) (by decide)
end K81.S
namespace K81.S
open PySem L2
def shp (r:List Int):List Int:=r.map (· - r.headD 0)
theorem t9 {x y:List Int} (hx:x≠[]) (hl:x.length=y.length):shp y=shp x↔y=x.map (·+(y.headD 0 - x.headD 0)):=by
 constructor
 ·intro h
  have e:y=(shp y).map (·+y.headD 0):=by
   unfold shp
   rw [List.map_map]
   have:((fun v:Int=>v+y.headD 0) ∘ fun v=>v - y.headD 0)=id:=funext fun v=>by show v - y.headD 0+y.headD 0=v; omega
   rw [this,List.map_id]
  refine e.trans ?_
  rw [h]
  unfold shp
  rw [List.map_map]
  exact List.map_congr_left fun v _=>by show v - x.headD 0+y.headD 0=v+(y.headD 0 - x.headD 0); omega
 ·intro h
  unfold shp
  generalize y.headD 0=y0 at h ⊢
  rw [h,List.map_map]
  exact List.map_congr_left fun v _=>by show v+(y0 - x.headD 0) - y0=v - x.headD 0; omega
theorem Ax {R:Nat→List Int} {f l:Nat} {d:Int} (hn:R f≠[]) (h:Sh R f l d):d=(R l).headD 0 - (R f).headD 0:=by
 unfold Sh at h
 cases e:R f with
 | nil=>exact absurd e hn
 | cons v r =>
  rw [h,e]
  show d=v+d - v
  omega
theorem mP:∀ xs ys:List Int,eqL (xs.map V.int) (ys.map V.int)=decide (xs=ys)
 | [],[]=>rfl
 | [],_::_=>rfl
 | _::_,[]=>rfl
 | x::xs,y::ys=>by
  show ((x == y) && eqL (xs.map V.int) (ys.map V.int))=decide (x::xs=y::ys)
  rw [mP xs ys,Bool.eq_iff_iff]
  simp
theorem nW (xs:List Int):(xs.map V.int).all et=true:=by
 rw [List.all_eq_true]
 intro x hx
 obtain ⟨i,_,rfl⟩:=List.mem_map.mp hx
 rfl
theorem lV (r:List Int):(r.map some).map oV=r.map V.int:=by
 rw [List.map_map]
 rfl
theorem lE {r:List Int} (h:r≠[]):atI (r.map V.int) 0=some (.int (r.headD 0)):=by
 cases r with
 | nil=>exact absurd rfl h
 | cons v r=>exact a9 (j:=0) rfl
def Bj:Option (Nat×Nat×Int)→List V
 | none=>[.str "none"]
 | some (f,p,d)=>[.str "round",.int f,.int p,.int d]
theorem wJ {c:List Bell} {now:List (Option Int)} (hl:now.length=c.length) (h:a8 c now=[]):∀ k,k<c.length→∃ v,now[k]?=some (some v):=by
 intro k hk
 have e1:=List.getElem?_eq_getElem hk
 have e2:=List.getElem?_eq_getElem (show k<now.length by omega)
 cases o:now[k]'(by omega) with
 | some v=>rw [o] at e2; exact ⟨v,e2⟩
 | none =>
  exfalso
  rw [o] at e2
  have hz:(c.zip now)[k]?=some (c[k],none):=zo e1 e2
  have hm:(c[k],(none:Option Int))∈((c.zip now).take c.length).filter (fun z=>z.2.isNone):=List.mem_filter.mpr ⟨List.mem_of_getElem? (by rw [List.getElem?_take,if_pos hk]; exact hz),rfl⟩
  have:c[k].name∈a8 c now:=List.mem_map.mpr ⟨_,hm,rfl⟩
  rw [h] at this
  cases this
theorem w5 {c:List Bell} (fc:Fine c) {now:List (Option Int)} (fx:Fix c (starts c) now) (wn:a8 c now=[]):∃ R,SeqR c R:=by
 have hw:xK c:=fun k b hb=>jS (fc.2 k b hb).1 (fc.2 k b hb).2.2.1
 have full:=wJ fx.1 wn
 have step:∀ r:{ r:List Int // r.length=c.length },∃ r':{ r:List Int // r.length=c.length },Fix c (r.1.map some) (r'.1.map some):=fun r=>by
  obtain ⟨now',f'⟩:=r0 fc.slow hw (r.1.map some)
  obtain ⟨r',hr'⟩:=all_some (l:=now') fun k hk=>by
   have hkc:k<c.length:=by rw [← f'.1]; exact hk
   obtain ⟨v,hv⟩:=full k hkc
   exact xb fc.slow (b0:=r.1.map some) (b1:=starts c) (fun k u hu=>by
    have hk':k<c.length:=by have:=(List.getElem?_eq_some_iff.mp hu).1; rw [List.length_map] at this; exact this
    exact xW (by rw [r.2]; exact hk')) f' fx k v hv
  subst hr'
  exact ⟨⟨r',by have:=f'.1; rwa [List.length_map] at this⟩,f'⟩
 let S:Nat→{ r:List Int // r.length=c.length }:=fun n=>Nat.rec ⟨c.map (·.start),List.length_map _⟩ (fun _ r=>Classical.choose (step r)) n
 exact ⟨fun n=>(S n).1,rfl,fun n=>Classical.choose_spec (step (S n))⟩
def qX (c:List Bell):Prop:=∀ now,Fix c (starts c) now→a8 c now=[]
theorem Ct {c:List Bell} (fc:Fine c) {now:List (Option Int)} (fx:Fix c (starts c) now) (h:a8 c now=[]):qX c:=fun now' fx'=>by
 rw [c9 fc.slow fx' fx]
 exact h
section
variable {P:Program} {w:World} {K:PySem.W.Frag} {mg:Str→Option Value} {base:Heap} {f:Addr} {fd:FuncData}
def j0:Sp:=fun vs H Q _=>∃ (ch:V) (c:List Bell),vs=[ch]∧ChoirAt H ch c∧Fine c∧qX c∧∀ (H':Hp),Same H H'→Q .non H'
theorem nK:FnScope ["choir","names"] ["choir"] (ar dO):=⟨rfl,rfl,rfl,by decide +kernel,rfl,by decide +kernel,by decide +kernel⟩
theorem v9 (F:Fun K "refuse_waiting" "refuse_waiting" dO f fd) (B:Blt mg) (C_waiting:Cal P w K mg base 8 "waiting" ["choir"] gA):FnOk P w K mg base CX0 9 f fd ["choir"] j0:=by
 refine F.ok nK (fun vs H Q E h=>?_) (fun cdv A outer s H vs Q E hr h=>?_)
 ·obtain ⟨ch,c,rfl,_⟩:=h
  rfl
 obtain ⟨ch,c,rfl,hch,fc,ag,q⟩:=h
 refine ⟨_,(af (aB (i:=1) nK.nd rfl (Or.inl rfl) (aH C_waiting hr (by decide) rfl (aa (pv 0) ae)))
  (ao (aP (az y7 (ax aL rfl B.len_ PySem.boot_len (aa (pv 1) ae)) ak (aI _))
  bf
  aw))),?_⟩
 refine ⟨_,rfl,ch,c,rfl,hch,fc,fun H1 l now s1 hl hl1 fx=>?_⟩
 rw [ag now fx] at hl1
 refine ⟨_,rfl,l,_,rfl,.inl (SqL.of hl1),_,_,rfl,rfl,_,rfl,bg (q H1 s1)⟩
def mQ:Sp:=fun vs H Q _=>∃ (ch:V) (c:List Bell) (most:Nat) (R:Nat→List Int),vs=[ch,.int most]∧ChoirAt H ch c∧Fine c∧1≤c.length∧most≤1000∧qX c∧SeqR c R∧∀ (H':Hp) (x:Addr) o,Same H H'→H x=none→dz R most o→H' x=some (.tup (Bj o))→Q (.ref x) H'
theorem hV:FnScope ["choir","most","told","shapes","first","later"] ["choir","most"] (ar iO):=⟨rfl,rfl,rfl,by decide +kernel,rfl,by decide +kernel,by decide +kernel⟩
theorem yG (F:Fun K "round_of" "round_of" iO f fd) (B:Blt mg) (C_refuse:Cal P w K mg base 9 "refuse_waiting" ["choir"] j0) (C_strokes:Cal P w K mg base 7 "strokes" ["choir","many"] eX):FnOk P w K mg base CX0 10 f fd ["choir","most"] mQ:=by
 refine F.ok hV (fun vs H Q E h=>?_) (fun cdv A outer s H vs Q E hr h=>?_)
 ·obtain ⟨ch,c,most,R,rfl,_⟩:=h
  rfl
 obtain ⟨ch,c,most,R,rfl,hch,fc,c1,hm,ag,sq,q⟩:=h
 refine ⟨_,(af (bL (aH C_refuse hr (by decide) rfl (aa (pv 0) ae)))
  (af (aB (i:=2) hV.nd rfl (Or.inl rfl) (aH C_strokes hr (by decide) rfl (aa (pv 0) (aa (pv 1) ae))))
  (af (da (i:=3) ["beats"] [] [] rfl hV.nd rfl (Or.inl rfl) (gP (pv 2)) (fun _ _ _ _ _=>(ay (i:=0) (show List.Nodup [("beats":Str)] by decide +kernel) rfl (Or.inr rfl))) (fun _ _ _ _ _=>bp) (fun _ _ _ _ _=>(bz ["beat"] ["beats"] [0] rfl (w6 (K:=K) rfl (pv 0)) (fun _ _ _ _ _=>(ay (i:=0) (show List.Nodup [("beat":Str),("beats":Str)] by decide +kernel) rfl (Or.inl rfl))) (fun _ _ _ _ _=>bp) (fun _ _ _ _ _=>(aV eW (pv 0) (av (nj (K:=K) rfl) (pv 1) ak (fun _ _=>rfl)))))))
  (af (cO PassesOwn.never rfl (bU rfl B.range_ (aa (ax aL rfl B.len_ PySem.boot_len (aa (pv 2) ae)) ae)) (ay (i:=4) hV.nd rfl (Or.inl rfl))
  (ao (cO PassesOwn.never rfl (wx rfl B.range_ (aa (aV bP (pv 4) ak) (aa (ax aL rfl B.len_ PySem.boot_len (aa (pv 2) ae)) ae))) (ay (i:=5) hV.nd rfl (Or.inl rfl))
  (ao (aP (az (CB hr.units0) (av aE (pv 3) (pv 5) (fun _ _=>rfl)) (av aE (pv 3) (pv 4) (fun _ _=>rfl)) (aI _))
  (ao (au (dF (aa aG (aa (pv 4) (aa (aV eW (pv 5) (pv 4)) (aa (aV eW (av aE (av aE (pv 2) (pv 5) (fun _ _=>rfl)) ak (fun _ _=>rfl)) (av aE (av aE (pv 2) (pv 4) (fun _ _=>rfl)) ak (fun _ _=>rfl))) ae)))))))
  aw)))))
  (ao (au (dF (aa aG ae)))))))),?_⟩
 refine ⟨_,rfl,ch,c,rfl,hch,fc,ag,fun H1 s1=>?_⟩
 refine ⟨_,rfl,_,rfl,ch,c,most,rfl,hch.mono (Same.tup s1),fc,by omega,fun H2 t told rows s2 ht1 ht2 prt hlr hrows=>?_⟩
 have s02:=s1.trans s2
 have htl:=(aO prt).trans hlr
 have rne:∀ n,R n≠[]:=fun n e=>by
  have h1:=sq.len n
  rw [e] at h1
  have h2:=c1
  rw [← h1] at h2
  exact absurd h2 (by show ¬ 1≤0; omega)
 have rowOf:∀ (n:Nat) v,told[n]?=some v→∃ x,v=.ref x∧H2 x=some (.lst ((R n).map V.int)):=fun n v hv=>by
  obtain ⟨row,hrow,x,rfl,_,hx⟩:=bh prt hv
  rw [xl fc.slow sq hrows n row hrow,lV] at hx
  exact ⟨x,rfl,hx⟩
 clear prt ht1
 refine ⟨_,rfl,t,rfl,⟨_,SqL.of ht2⟩,fun D hD=>?_⟩
 refine dH (K:=K) (a:=t) (xs:=told) (fun j ys H3=>Same H2 H3∧ys.length=j∧∀ (n:Nat) v,ys[n]?=some v→∃ x,v=.ref x∧x≠D∧H3 x=some (.lst ((shp (R n)).map V.int))) ⟨aq hD _,rfl,fun _ _ e=>(nomatch e)⟩ (fun j ys H3 _ ⟨z,_⟩=>SqL.of (z _ _ ht2)) ?_ ?_
 ·rintro j y ys H3 hj ⟨s3,hyl,hys⟩ hD3
  obtain ⟨x,rfl,hx⟩:=rowOf j y hj
  have hjm:j<told.length:=(List.getElem?_eq_some_iff.mp hj).1
  have hx3:=s3 _ _ hx
  refine ⟨rfl,aW ?_⟩
  refine ⟨_,rfl,x,rfl,⟨_,SqL.of hx3⟩,fun D2 hD2=>?_⟩
  have nD:D2≠D:=fun e=>by rw [e,hD3] at hD2; cases hD2
  refine dH (K:=K) (a:=x) (xs:=(R j).map V.int) (fun i zs H4=>Same H3 H4∧zs=(((R j).take i).map (· - (R j).headD 0)).map V.int) ⟨aq hD2 _,rfl⟩ (fun i zs H4 _ ⟨z,_⟩=>SqL.of (z _ _ hx3)) ?_ ?_
  ·rintro i y zs H4 hi ⟨s4,rfl⟩ hD4
   rw [List.getElem?_map] at hi
   obtain ⟨u,hu,rfl⟩:=Option.map_eq_some_iff.mp hi
   have hi6:i<(R j).length:=(List.getElem?_eq_some_iff.mp hu).1
   have h6:=fc.1
   rw [sq.len] at hi6
   refine ⟨rfl,aW ?_⟩
   refine ⟨_,rfl,_,rfl,x,_,_,_,rfl,rfl,SqL.of (s4 _ _ hx3),lE (rne j),_,_,rfl,rfl,_,hD4,?_,_,⟨s4.upd hD2 _,rfl⟩,?_⟩
   ·rw [List.length_map,List.length_map,List.length_take]
    exact aJ (by omega)
   ·rw [take_snoc hu,List.map_append,List.map_append]
    exact ah
  ·rintro zs H4 ⟨s4,rfl⟩ hD4
   rw [List.length_map,List.take_length] at hD4
   have hD34:=s4 _ _ hD3
   refine ⟨_,hD34,by rw [hyl]; exact aJ (by omega),_,⟨(s3.trans s4).upd hD _,by rw [List.length_append,hyl]; rfl,fun n v hv=>?_⟩,ah⟩
   by_cases hn:n<ys.length
   ·rw [List.getElem?_append_left hn] at hv
    obtain ⟨x',rfl,nx,hx'⟩:=hys n v hv
    exact ⟨x',rfl,nx,by rw [aC nx]; exact s4 _ _ hx'⟩
   ·have hlt:=(List.getElem?_eq_some_iff.mp hv).1
    rw [List.length_append] at hlt
    have hlt':n<ys.length+1:=hlt
    have en:n=ys.length:=by omega
    rw [en,List.getElem?_concat_length] at hv
    cases hv
    refine ⟨D2,rfl,nD,?_⟩
    rw [aC nD,en,hyl]
    exact hD4
 rintro ys H3 ⟨s3,hyl,hys⟩ hD3
 have s03:=s02.trans s3
 have ht3:=s3 _ _ ht2
 clear hD
 have shapeAt:∀ n,n≤most→∃ x,atI ys (n:Int)=some (.ref x)∧H3 x=some (.lst ((shp (R n)).map V.int)):=fun n hn=>by
  have e:=List.getElem?_eq_getElem (show n<ys.length by omega)
  obtain ⟨x,hv,_,hx⟩:=hys n _ e
  exact ⟨x,by rw [← hv]; exact a9 e,hx⟩
 have toldAt:∀ n,n≤most→∃ x,atI told (n:Int)=some (.ref x)∧H3 x=some (.lst ((R n).map V.int)):=fun n hn=>by
  have e:=List.getElem?_eq_getElem (show n<told.length by omega)
  obtain ⟨x,hv,hx⟩:=rowOf n _ e
  exact ⟨x,by rw [← hv]; exact a9 e,s3 _ _ hx⟩
 refine ⟨_,rfl,t,_,rfl,.inl (SqL.of ht3),(told.length:Int),rfl,by omega,by omega,?_⟩
 refine dh (lo:=0) (n:=((told.length:Nat):Int).toNat) (fun i σ H4=>∃ (o4 o5:Option V),σ=[some ch,some (.int most),some (.ref t),some (.ref D),o4,o5]∧H4=H3∧∀ f',f'<i→∀ l,f'<l→l≤most→xF R f' l)
  ⟨none,none,rfl,rfl,fun _ h=>absurd h (Nat.not_lt_zero _)⟩ ?_ ?_
 ·rintro i σ H4 hi ⟨o4,o5,rfl,rfl,no⟩
  rw [Int.zero_add]
  have him:i≤most:=by omega
  refine ⟨_,rfl,_,_,rfl,rfl,_,rfl,t,_,rfl,.inl (SqL.of ht3),((i:Int)+1),(told.length:Int),rfl,⟨by omega,by omega,by omega,by omega⟩,?_⟩
  refine dh (lo:=(i:Int)+1) (n:=((told.length:Int) - ((i:Int)+1)).toNat) (fun j σ H5=>∃ (o5:Option V),σ=[some ch,some (.int most),some (.ref t),some (.ref D),some (.int i),o5]∧H5=H4∧∀ l,i<l→l<i+1+j→xF R i l)
   ⟨_,rfl,rfl,fun l h1 h2=>by omega⟩ ?_ ?_
  ·rintro j σ H5 hj ⟨o5,rfl,rfl,no2⟩
   have hl:i+1+j≤most:=by omega
   have el:(i:Int)+1+(j:Int)=((i+1+j:Nat):Int):=by omega
   rw [el]
   obtain ⟨x1,a1,k1⟩:=shapeAt (i+1+j) hl
   obtain ⟨x2,a2,k2⟩:=shapeAt i him
   refine ⟨_,rfl,_,rfl,D,_,_,_,rfl,rfl,SqL.of hD3,a1,_,rfl,_,rfl,D,_,_,_,rfl,rfl,SqL.of hD3,a2,x1,x2,_,_,rfl,rfl,SqL.of k1,SqL.of k2,nW _,nW _,_,rfl,?_⟩
   have lens:(R i).length=(R (i+1+j)).length:=by rw [sq.len,sq.len]
   refine cb (fun cc=>?_) (fun cc=>?_)
   ·have cc':eqL ((shp (R (i+1+j))).map V.int) ((shp (R i)).map V.int)=true:=cc
    rw [mP] at cc'
    have sh:Sh R i (i+1+j) ((R (i+1+j)).headD 0 - (R i).headD 0):=(t9 (rne i) lens).mp (of_decide_eq_true cc')
    obtain ⟨y1,b1,m1⟩:=toldAt (i+1+j) hl
    obtain ⟨y2,b2,m2⟩:=toldAt i him
    refine ⟨_,rfl,_,rfl,_,rfl,_,_,rfl,rfl,_,rfl,_,rfl,t,_,_,_,rfl,rfl,SqL.of ht3,b1,y1,_,_,_,rfl,rfl,SqL.of m1,lE (rne _),_,rfl,_,rfl,t,_,_,_,rfl,rfl,SqL.of ht3,b2,y2,_,_,_,rfl,rfl,SqL.of m2,lE (rne _),_,_,rfl,rfl,(by show 4≤sizeLine; decide),fun T hT=>?_⟩
    refine q _ T (some (i,1+j,(R (i+1+j)).headD 0 - (R i).headD 0)) (s03.trans (aq hT _)) (s03.free hT) ⟨by omega,by omega,by rw [show i+(1+j)=i+1+j by omega]; exact sh,fun f' l h1 h2 h3=>no f' h1 l h2 h3,fun l h1 h2=>no2 l h1 (by omega)⟩ ?_
    have ep:((i+1+j:Nat):Int) - (i:Int)=((1+j:Nat):Int):=by omega
    rw [ah]
    dsimp only
    rw [ep]
    rfl
   ·refine ⟨_,rfl,rfl,fun l h1 h2=>?_⟩
    by_cases e:l=i+1+j
    ·subst e
     intro d sh
     refine cc ?_
     show eqL ((shp (R (i+1+j))).map V.int) ((shp (R i)).map V.int)=true
     rw [mP]
     refine decide_eq_true ((t9 (rne i) lens).mpr ?_)
     have hd:=Ax (rne i) sh
     rw [← hd]
     exact sh
    ·exact no2 l h1 (by omega)
  ·rintro σ H5 ⟨o5,rfl,rfl,no2⟩
   refine ⟨_,_,rfl,rfl,fun f' h1 l h2 h3=>?_⟩
   by_cases e:f'=i
   ·subst e
    exact no2 l h2 (by omega)
   ·exact no f' (by omega) l h2 h3
 ·rintro σ H4 ⟨o4,o5,rfl,rfl,no⟩
  refine ⟨(by show 1≤sizeLine; decide),fun T hT=>?_⟩
  exact q _ T none (s03.trans (aq hT _)) (s03.free hT) (fun f' l h1 h2=>no f' (by omega) l h1 h2) ah
def Ey (H:Hp) (t:Addr) (n:Nat) (R:Nat→List Int):Prop:=∃ told:List V,H t=some (.lst told)∧told.length=n∧∀ (k:Nat) v,told[k]?=some v→∃ x,v=.ref x∧H x=some (.lst ((R k).map V.int))
def word:Option (Nat×Nat×Int)→Str
 | none=>"none"
 | some _=>"round"
end
end K81.S
namespace K81.S
open PySem L2
section
variable {P:Program} {w:World} {K:PySem.W.Frag} {mg:Str→Option Value} {base:Heap} {f:Addr} {fd:FuncData}
def mh:Sp:=fun vs H Q _=>∃ (v:V) (b:Bell),vs=[v]∧BellAt H v b∧Q (.int (wants b)) H
theorem yu:FnScope ["_law_bell_here"] ["_law_bell_here"] (ar pI):=⟨rfl,rfl,rfl,by decide +kernel,rfl,by decide +kernel,by decide +kernel⟩
theorem yh (F:Fun K "_law_wants" "_law_wants" pI f fd) (B:Blt mg):FnOk P w K mg base CX0 1 f fd ["_law_bell_here"] mh:=by
 refine F.ok yu (fun vs H Q E h=>?_) (fun cdv A outer s H vs Q E hr h=>?_)
 ·obtain ⟨v,b,rfl,_⟩:=h
  rfl
 obtain ⟨v,b,rfl,⟨a,t,ls,rfl,ha,ht,pr⟩,q⟩:=h
 refine ⟨_,(af (aP (az bN (av aT (pv 0) ak (fun _ _=>rfl)) aG (aI _))
  (ao (au (ax aL rfl B.len_ PySem.boot_len (aa (av aT (pv 0) ak (fun _ _=>rfl)) ae))))
  aw)
  (af (aP (az bN (av aT (pv 0) ak (fun _ _=>rfl)) aG (aI _))
  (ao (au ak))
  aw)
  (ao (au (av aT (pv 0) ak (fun _ _=>rfl)))))),?_⟩
 have hx:=SqT.of (K:=K) ha
 have hl:=aO pr
 unfold wants at q
 cases hr:b.rule with
 | all =>
  rw [hr] at q hx
  refine ⟨_,rfl,a,_,_,_,rfl,rfl,hx,rfl,rfl,_,rfl,?_⟩
  refine cb (fun _=>?_) (fun c=>absurd (decide_eq_true rfl) c)
  refine ⟨_,rfl,a,_,_,_,rfl,rfl,hx,rfl,t,_,rfl,.inr (SqT.of ht),?_⟩
  rw [hl]
  exact q
 | any =>
  rw [hr] at q hx
  refine ⟨_,rfl,a,_,_,_,rfl,rfl,hx,rfl,rfl,_,rfl,?_⟩
  refine cb (fun c=>absurd (of_decide_eq_true c) gq) (fun _=>?_)
  refine ⟨_,rfl,a,_,_,_,rfl,rfl,hx,rfl,rfl,_,rfl,?_⟩
  refine cb (fun _=>?_) (fun c=>absurd (decide_eq_true rfl) c)
  exact q
 | num n =>
  rw [hr] at q hx
  refine ⟨_,rfl,a,_,_,_,rfl,rfl,hx,rfl,rfl,_,rfl,?_⟩
  refine bg ?_
  refine ⟨_,rfl,a,_,_,_,rfl,rfl,hx,rfl,rfl,_,rfl,?_⟩
  refine bg ?_
  exact ⟨_,rfl,a,_,_,_,rfl,rfl,hx,rfl,q⟩
end
end K81.S
namespace K81.S
open PySem L2
theorem Best.keep {c:List Bell} {before now:List (Option Int)} {H:Hp} {i:Nat} {b:Bell} {u:Int} {T:Addr} {beat:Int} {k:Nat} {b1:Bell} (hT:H T=some (.tup [.int beat,.int (k:Int)])) (h1:c[k]?=some b1) (h2:now[k]?=some none) (h3:Due (aU b1 before now) (wants b1) (some beat))
  (h4:∀ (j:Nat) b' u,j<i→c[j]?=some b'→now[j]?=some none→Due (aU b' before now) (wants b') (some u)→beat≤u) (hb:c[i]?=some b) (hd:Due (aU b before now) (wants b) (some u)) (hu:beat≤u):Best c before now H (i+1) (.ref T):=by
 refine .inr ⟨T,beat,k,b1,rfl,hT,h1,h2,h3,fun j b' v hj hb' hz hd'=>?_⟩
 rcases Nat.lt_or_ge j i with c1 | c1
 ·exact h4 j b' v c1 hb' hz hd'
 ·obtain rfl:j=i:=by omega
  rw [hb] at hb'
  cases hb'
  have:=Option.some.inj (cG hd hd')
  omega
theorem oO {bs:List (Option Int)} {k:Nat} {o:Option Int} (h:bs[k]?=some o):atI (bs.map oV) (k:Int)=some (oV o):=a9 (by rw [List.getElem?_map,h]; rfl)
def Di:Option (Option V)→Nat
 | some (some (.bl true))=>1
 | _=>0
section
variable {P:Program} {w:World} {K:PySem.W.Frag} {mg:Str→Option Value} {base:Heap} {f:Addr} {fd:FuncData}
def hJ:Sp:=fun vs H Q _=>∃ (ch:V) (c:List Bell) (p:Addr) (before:List (Option Int)),vs=[ch,.ref p]∧ChoirAt H ch c∧Fine c∧H p=some (.lst (before.map oV))∧before.length=c.length∧
 ∀ (H':Hp) (n:Addr) (now:List (Option Int)),Same H H'→H n=none→H' n=some (.lst (now.map oV))→Fix c before now→Q (.ref n) H'
theorem cf:FnScope ["_law_choir_here","_law_ahead","_law_row","_law_turned","_law_best","_law_k","_law_known","_law_whom","_law_beats","_law_back","_law_fell","_law_beat_here"] ["_law_choir_here","_law_ahead"] (ar rY):=⟨rfl,rfl,rfl,by decide +kernel,rfl,by decide +kernel,by decide +kernel⟩
theorem y3 (F:Fun K "_law_next" "_law_next" rY f fd) (B:Blt mg) (C_wants:Cal P w K mg base 1 "_law_wants" ["_law_bell_here"] mh):FnOk P w K mg base CX0 2 f fd ["_law_choir_here","_law_ahead"] hJ:=by
 refine F.ok cf (fun vs H Q E h=>?_) (fun cdv A outer s H vs Q E hr h=>?_)
 ·obtain ⟨ch,c,p,before,rfl,_⟩:=h
  rfl
 obtain ⟨ch,c,p,before,rfl,hch,fc,hp,lb,q⟩:=h
 obtain ⟨a,bs,rfl,ha,prb⟩:=id hch
 have hbl:=aO prb
 have c6:=fc.1
 refine ⟨_,(af (da (i:=2) ["_law_bell_here"] [] [] rfl cf.nd rfl (Or.inl rfl) (cD (pv 0)) (fun _ _ _ _ _=>(ay (i:=0) (show List.Nodup [("_law_bell_here":Str)] by decide +kernel) rfl (Or.inl rfl))) (fun _ _ _ _ _=>bp) (fun _ _ _ _ _=>bG))
  (af (aB (i:=3) cf.nd rfl (Or.inl rfl) dj)
  (af (qS PassesOwn.never (bD (pv 3))
  (af (aB (i:=4) cf.nd rfl (Or.inl rfl) bG)
  (af (cO PassesOwn.never rfl (bU rfl B.range_ (aa (ax aL rfl B.len_ PySem.boot_len (aa (pv 0) ae)) ae)) (ay (i:=5) cf.nd rfl (Or.inl rfl))
  (af (aB (i:=6) cf.nd rfl (Or.inl rfl) (bZ ae))
  (af (cO PassesOwn.never rfl (cD (av aT (av aT (pv 0) (pv 5) (fun _ _=>rfl)) ak (fun _ _=>rfl))) (eR rfl (aZ (ay (i:=7) cf.nd rfl (Or.inl rfl)) (aZ (ay (i:=8) cf.nd rfl (Or.inl rfl)) (aZ (ay (i:=9) cf.nd rfl (Or.inl rfl)) dy))))
  (af (aB (i:=10) cf.nd rfl (Or.inl rfl) (av aE (bZ (aa (av aE (pv 2) (pv 7) (fun _ _=>rfl)) (aa (av aE (pv 1) (pv 7) (fun _ _=>rfl)) ae))) (pv 9) (fun _ _=>rfl)))
  (ao (aP (az il (pv 10) bG (aI _))
  (ao (bL (cw PySem.F.plainAttrs_list PySem.F.slot_list_append PySem.F.type_list_append cK (pv 6) (aa (aV bP (pv 10) (pv 8)) ae))))
  aw))))
  (ao (aP (PW.pt (me (az gu (av aE (pv 2) (pv 5) (fun _ _=>rfl)) bG (aI _)) (jm (az Bd (ax aL rfl B.len_ PySem.boot_len (aa (pv 6) ae)) (aH C_wants hr (by decide) rfl (aa (av aT (pv 0) (pv 5) (fun _ _=>rfl)) ae)) (aI _)))))
  (af (aB (i:=11) cf.nd rfl (Or.inl rfl) (av aE (ax kE rfl B.sorted_ PyProof.Rows.boot_sorted (aa (pv 6) ae)) (aV eW (aH C_wants hr (by decide) rfl (aa (av aT (pv 0) (pv 5) (fun _ _=>rfl)) ae)) ak) (fun _ _=>rfl)))
  (ao (aP (PW.pt (ie (az gu (pv 4) bG (aI _)) (e7 (az lI (pv 11) (av aT (pv 4) ak (fun _ _=>rfl)) (aI _)))))
  (ao (aB (i:=4) cf.nd rfl (Or.inl rfl) (dF (aa (pv 11) (aa (pv 5) ae)))))
  aw)))
  aw)))))
  (af (aB (i:=3) cf.nd rfl (Or.inl rfl) (cU il (pv 4) bG (aI _)))
  (ao (aP (bD (pv 3))
  (ao (j3 (av aT (pv 4) ak (fun _ _=>rfl)) (oI (pv 2) (av aT (pv 4) ak (fun _ _=>rfl)) set_list)))
  aw))))))
  (ao (au (pv 2)))))),?_⟩
 refine ⟨_,rfl,a,rfl,⟨_,SqT.of ha⟩,fun n hn=>?_⟩
 refine bV (K:=K) (a:=a) (xs:=bs) (fun j ys H2=>Same H H2∧ys=((c.take j).map fun _=>(none:Option Int)).map oV) ⟨aq hn _,rfl⟩ (fun j ys H2 _ ⟨z,_⟩=>SqT.of (z _ _ ha)) ?_ ?_
 ·rintro j y ys H2 hj ⟨s2,rfl⟩ hD
  obtain ⟨b,hb,_⟩:=bh prb hj
  have hj6:j<c.length:=(List.getElem?_eq_some_iff.mp hb).1
  refine ⟨rfl,aW ?_⟩
  refine ⟨_,hD,?_,_,⟨s2.upd hn _,rfl⟩,?_⟩
  ·rw [List.length_map,List.length_map,List.length_take]
   exact aJ (by omega)
  ·rw [take_snoc hb,List.map_append,List.map_append]
   exact ah
 rintro ys H2 ⟨s2,rfl⟩ hD
 rw [hbl,List.take_length] at hD
 refine qN (fun σ H4=>∃ (now:List (Option Int)) (tn:Bool) (o4 o5 o6 o7 o8 o9 o10 o11:Option V),σ=[some (.ref a),some (.ref p),some (.ref n),some (.bl tn),o4,o5,o6,o7,o8,o9,o10,o11]∧Same H H4∧H4 n=some (.lst (now.map oV))∧Going c before now∧(tn=false→∀ (k:Nat) b,c[k]?=some b→now[k]?=some none→Due (aU b before now) (wants b) none))
  (fun σ H4=>left n H4+Di (σ[3]?)) ⟨_,true,none,none,none,none,none,none,none,none,rfl,s2,hD,hX c before,fun h=>(nomatch h)⟩ ?_ ?_
 ·rintro σ H4 ⟨now,tn,o4,o5,o6,o7,o8,o9,o10,o11,rfl,s4,hn4,go,ended⟩
  have lnow:=go.len
  cases tn with
  | false =>
   refine ⟨_,rfl,_,rfl,bg ?_⟩
   exact ⟨_,rfl,q H4 n now s4 hn hn4 (iu go (ended rfl))⟩
  | true =>
   refine ⟨_,rfl,_,rfl,bc ?_⟩
   have ha4:=s4 _ _ ha
   have hp4:=s4 _ _ hp
   refine ⟨_,rfl,a,_,rfl,.inr (SqT.of ha4),_,rfl,by omega,by omega,?_⟩
   refine dh (lo:=0) (n:=((bs.length:Nat):Int).toNat) (fun i σ H5=>∃ (v:V) (o5 o6 o7 o8 o9 o10 o11:Option V),σ=[some (.ref a),some (.ref p),some (.ref n),some (.bl true),some v,o5,o6,o7,o8,o9,o10,o11]∧Same H4 H5∧Best c before now H5 i v)
    ⟨.non,o5,o6,o7,o8,o9,o10,o11,rfl,.refl H4,.inl ⟨rfl,fun k b h=>absurd h (Nat.not_lt_zero _)⟩⟩ ?_ ?_
   ·rintro i σ H5 hi ⟨v,o5,o6,o7,o8,o9,o10,o11,rfl,s5,best⟩
    rw [Int.zero_add]
    have hic:i<c.length:=by omega
    have hb:=List.getElem?_eq_getElem hic
    generalize c[i]=b at hb
    obtain ⟨bv,ebv,hbv⟩:=cI prb hb
    obtain ⟨g1,g2,g3,g4⟩:=fc.2 i b hb
    have hw1:=jS g1 g3
    obtain ⟨ba,t,ls,rfl,hba,ht,pr⟩:=id hbv
    have hll:=aO pr
    refine ⟨(by show 0≤sizeLine; decide),fun D hD=>?_⟩
    have s6:=aq hD (.lst [])
    have hD6:(upd H5 D (.lst [])) D=some (.lst []):=ah
    generalize upd H5 D (.lst [])=H6 at s6 hD6 ⊢
    have s46:=s5.trans s6
    have s06:=s4.trans s46
    refine ⟨_,rfl,_,rfl,a,_,_,_,rfl,rfl,SqT.of (s06 _ _ ha),a9 ebv,ba,_,_,_,rfl,rfl,SqT.of (s06 _ _ hba),rfl,t,rfl,⟨_,SqT.of (s06 _ _ ht)⟩,?_⟩
    refine pK (K:=K) (a:=t) (xs:=ls) (fun j σ H7=>∃ (o7 o8 o9 o10:Option V),σ=[some (.ref a),some (.ref p),some (.ref n),some (.bl true),some v,some (.int (i:Int)),some (.ref D),o7,o8,o9,o10,o11]∧Same H5 H7∧H7 D=some (.lst ((bO ((b.lis.take j).map (dZ before now))).map V.int)))
     ⟨o7,o8,o9,o10,rfl,s6,hD6⟩ (fun j σ H7 _ ⟨_,_,_,_,_,z,_⟩=>SqT.of ((s4.trans (s5.trans z)) _ _ ht)) ?_ ?_
    ·rintro j y σ H7 hj ⟨o7,o8,o9,o10,rfl,s7,hD7⟩
     obtain ⟨l,hl,x,rfl,hx⟩:=bh pr hj
     have hj8:j<b.lis.length:=(List.getElem?_eq_some_iff.mp hl).1
     have hwm:=(g4 l (List.mem_of_getElem? hl)).1
     have s07:=s4.trans (s5.trans s7)
     have s47:=s5.trans s7
     refine ⟨x,_,rfl,SqT.of (s07 _ _ hx),rfl,_,_,rfl,_,_,rfl,_,_,rfl,rfl,?_⟩
     have e1:=List.getElem?_eq_getElem (show l.whom<before.length by omega)
     have e2:=List.getElem?_eq_getElem (show l.whom<now.length by omega)
     have hpk:∃ o:Option Int,atI [oV (now[l.whom]'(by omega)),oV (before[l.whom]'(by omega))] (if l.back then 1 else 0)=some (oV o)∧dZ before now l=o.map (·+l.beats):=by
      cases hb:l.back with
      | true=>exact ⟨_,rfl,by unfold dZ; rw [hb,if_pos rfl,e1]; rfl⟩
      | false=>exact ⟨_,rfl,by unfold dZ; rw [hb,if_neg (by decide),e2]; rfl⟩
     obtain ⟨o,k1,k4⟩:=hpk
     refine ⟨_,rfl,_,rfl,n,_,_,_,rfl,rfl,SqL.of (s47 _ _ hn4),oO e2,_,rfl,_,rfl,p,_,_,_,rfl,rfl,SqL.of (s47 _ _ hp4),oO e1,(by show 2≤sizeLine; decide),fun l1 hl1=>?_⟩
     have s8:=aq hl1 (.lst [oV (now[l.whom]'(by omega)),oV (before[l.whom]'(by omega))])
     refine ⟨_,rfl,l1,_,_,_,rfl,rfl,SqL.of ah,k1,?_⟩
     refine ⟨_,rfl,rfl,_,rfl,?_⟩
     have hD8:=s8 _ _ hD7
     have s58:=s7.trans s8
     cases o with
     | none =>
      refine bg ⟨_,_,_,_,rfl,s58,?_⟩
      rw [take_snoc hl,List.map_append,List.map_cons,List.map_nil,k4]
      show _=some (HO.lst ((bO (_++[none])).map V.int))
      rw [kg]
      exact hD8
     | some u =>
      refine bc ⟨_,rfl,.inl ⟨rfl,_,SqL.of hD8⟩,_,rfl,_,rfl,_,_,rfl,rfl,D,_,_,rfl,rfl,hD8,?_,_,_,_,_,rfl,s58.upd hD _,?_⟩
      ·rw [List.length_map]
       have:=iw ((b.lis.take j).map (dZ before now))
       rw [List.length_map,List.length_take] at this
       exact aJ (by omega)
      ·rw [take_snoc hl,List.map_append,List.map_cons,List.map_nil,k4]
       show _=some (HO.lst ((bO (_++[some (u+l.beats)])).map V.int))
       rw [kj,List.map_append]
       exact ah
    rintro σ H7 ⟨o7,o8,o9,o10,rfl,s7,hD7⟩
    rw [hll,List.take_length] at hD7
    have s47:=s5.trans s7
    have s07:=s4.trans s47
    have hcl:(bO (b.lis.map (dZ before now))).length≤8:=by
     have:=iw (b.lis.map (dZ before now))
     rw [List.length_map] at this
     omega
    have eo:=List.getElem?_eq_getElem (show i<now.length by omega)
    generalize now[i]'(by omega)=o at eo
    have best7:=best.same s7
    refine ⟨_,rfl,_,rfl,n,_,_,_,rfl,rfl,SqL.of (s47 _ _ hn4),oO eo,rfl,_,rfl,?_⟩
    cases o with
    | some u=>exact bg (bg ⟨v,_,_,_,_,_,_,_,rfl,s47,best7.skip eo⟩)
    | none =>
     refine bc ⟨_,rfl,D,_,rfl,.inl (SqL.of hD7),_,rfl,_,rfl,a,_,_,_,rfl,rfl,SqT.of (s07 _ _ ha),a9 ebv,_,b,rfl,hbv.mono (Same.tup s07),_,_,rfl,rfl,_,rfl,?_⟩
     refine cb (fun cc=>?_) (fun cc=>?_)
     ·have c':wants b≤((((bO (b.lis.map (dZ before now))).map V.int).length:Nat):Int):=of_decide_eq_true cc
      rw [List.length_map] at c'
      refine ⟨_,rfl,D,_,rfl,SqL.of hD7,by omega,fun l ns hl pm od=>?_⟩
      have s8:=aq hl (.lst (ns.map V.int))
      have s08:=s07.trans s8
      have hln:=pm.length_eq
      have hk:(wants b - 1).toNat<ns.length:=by omega
      have en:wants b - 1=(((wants b - 1).toNat:Nat):Int):=by omega
      have hv:ns[(wants b - 1).toNat]?=some ns[(wants b - 1).toNat]:=List.getElem?_eq_getElem hk
      have hat:atI (ns.map V.int) (wants b - 1)=some (.int ns[(wants b - 1).toNat]):=by
       have:=tw hv
       rw [← en] at this
       exact this
      have due:=ql pm od hw1 hv
      refine ⟨_,rfl,_,rfl,a,_,_,_,rfl,rfl,SqT.of (s08 _ _ ha),a9 ebv,_,b,rfl,hbv.mono (Same.tup s08),_,_,rfl,rfl,l,_,_,_,rfl,rfl,SqL.of ah,hat,?_⟩
      generalize ns[(wants b - 1).toNat]=beat at due
      have best8:=best7.same s8
      have s48:=s47.trans s8
      rcases best8 with ⟨rfl,hno⟩ | ⟨T,bt,k,b1,rfl,hT,h1,h2,h3,h4⟩
      ·refine ⟨_,rfl,rfl,_,rfl,bc (bc ?_)⟩
       refine ⟨_,rfl,_,rfl,(by show 2≤sizeLine; decide),fun T hT=>?_⟩
       refine ⟨.ref T,_,_,_,_,_,_,_,rfl,s48.trans (aq hT _),Best.take (fun j b' v hj hb' hz hd'=>?_) ah hb eo due⟩
       cases cG (hno j b' hj hb' hz) hd'
      ·refine ⟨_,rfl,rfl,_,rfl,bg ?_⟩
       refine ⟨_,rfl,_,rfl,T,_,_,_,rfl,rfl,SqT.of hT,rfl,_,_,rfl,rfl,_,rfl,cb (fun cc=>?_) (fun cc=>?_)⟩
       ·have lt:beat<bt:=of_decide_eq_true cc
        refine ⟨_,rfl,_,rfl,(by show 2≤sizeLine; decide),fun T' hT'=>?_⟩
        refine ⟨.ref T',_,_,_,_,_,_,_,rfl,s48.trans (aq hT' _),Best.take (fun j b' v hj hb' hz hd'=>?_) ah hb eo due⟩
        have:=h4 j b' v hj hb' hz hd'
        omega
       ·have ge:¬ beat<bt:=fun z=>cc (decide_eq_true z)
        exact ⟨.ref T,_,_,_,_,_,_,_,rfl,s48,Best.keep hT h1 h2 h3 h4 hb due (by omega)⟩
     ·have c':¬ wants b≤((((bO (b.lis.map (dZ before now))).map V.int).length:Nat):Int):=fun z=>cc (decide_eq_true z)
      rw [List.length_map] at c'
      exact ⟨v,_,_,_,_,_,_,_,rfl,s47,best7.late hb (qx (bs:=b.lis.map (dZ before now)) (.refl _) (by omega))⟩
   ·rintro σ H5 ⟨v,o5,o6,o7,o8,o9,o10,o11,rfl,s5,best⟩
    rw [Int.toNat_natCast,hbl] at best
    have s05:=s4.trans s5
    have hn5:=s5 _ _ hn4
    have l4:=je hn4
    rcases best with ⟨rfl,hno⟩ | ⟨T,beat,k,b,rfl,hT,hb,hk,hd,hl⟩
    ·refine ⟨_,rfl,rfl,?_⟩
     refine ⟨_,rfl,_,rfl,bg ?_⟩
     refine ⟨⟨now,false,_,_,_,_,_,_,_,_,rfl,s05,hn5,go,fun _ k b hb hz=>hno k b (List.getElem?_eq_some_iff.mp hb).1 hb hz⟩,?_⟩
     show left n H5+0<left n H4+1
     rw [l4,je hn5]
     omega
    ·have hkc:k<c.length:=(List.getElem?_eq_some_iff.mp hb).1
     have hkn:k<now.length:=(List.getElem?_eq_some_iff.mp hk).1
     refine ⟨_,rfl,rfl,?_⟩
     refine ⟨_,rfl,_,rfl,bc ?_⟩
     refine ⟨_,rfl,T,_,_,_,rfl,rfl,SqT.of hT,rfl,_,rfl,_,rfl,T,_,_,_,rfl,rfl,SqT.of hT,rfl,n,_,_,k,rfl,rfl,hn5,?_,?_⟩
     ·unfold ixN
      rw [if_pos (by omega),List.length_map,if_pos (by omega),Int.toNat_natCast]
     rw [zk]
     have hn6:=ah (H:=H5) (a:=n) (o:=.lst ((now.set k (some beat)).map oV))
     have go6:=lY fc.slow go hb hk hd fun j b' u hj hz hd'=>hl j b' u (List.getElem?_eq_some_iff.mp hj).1 hj hz hd'
     refine ⟨⟨now.set k (some beat),true,_,_,_,_,_,_,_,_,rfl,s05.upd hn _,hn6,go6,fun h=>(nomatch h)⟩,?_⟩
     show left n (upd H5 n (.lst ((now.set k (some beat)).map oV)))+1<left n H4+1
     rw [l4,je hn6]
     have:=count_set (u:=beat) hk
     omega
 ·rintro σ H4 Q1 Q2 hq ⟨z1,e1,z2,e2,h⟩
  exact ⟨z1,e1,z2,e2,hq _ _ h⟩
def hE:Sp:=fun vs H Q _=>∃ (ch:V) (c:List Bell),vs=[ch]∧ChoirAt H ch c∧Fine c∧∀ (H':Hp) (l:Addr) (now:List (Option Int)),Same H H'→H l=none→H' l=some (.lst ((a8 c now).map V.str))→Fix c (starts c) now→Q (.ref l) H'
theorem km:FnScope ["_law_choir_here","_law_row"] ["_law_choir_here"] (ar iZ):=⟨rfl,rfl,rfl,by decide +kernel,rfl,by decide +kernel,by decide +kernel⟩
theorem qb (F:Fun K "_law_waiting" "_law_waiting" iZ f fd) (B:Blt mg) (C_next:Cal P w K mg base 2 "_law_next" ["_law_choir_here","_law_ahead"] hJ):FnOk P w K mg base CX0 3 f fd ["_law_choir_here"] hE:=by
 refine F.ok km (fun vs H Q E h=>?_) (fun cdv A outer s H vs Q E hr h=>?_)
 ·obtain ⟨ch,c,rfl,_⟩:=h
  rfl
 obtain ⟨ch,c,rfl,hch,fc,q⟩:=h
 obtain ⟨a,bs,rfl,ha,prb⟩:=id hch
 have hbl:=aO prb
 have c6:=fc.1
 refine ⟨_,(af (aB (i:=1) km.nd rfl (Or.inr rfl) (aH C_next hr (by decide) rfl (aa (pv 0) (aa (bz ["_law_bell_here"] [] [] rfl (cD (pv 0)) (fun _ _ _ _ _=>(ay (i:=0) (show List.Nodup [("_law_bell_here":Str)] by decide +kernel) rfl (Or.inl rfl))) (fun _ _ _ _ _=>bp) (fun _ _ _ _ _=>(av (fJ (K:=K) rfl) (pv 0) ak (fun _ _=>rfl)))) ae))))
  (ao (au (bz ["_law_k"] ["_law_choir_here","_law_row"] [0,1] rfl (bU rfl B.range_ (aa (ax aL rfl B.len_ PySem.boot_len (aa (pv 0) ae)) ae)) (fun _ _ _ _ _=>(ay (i:=0) (show List.Nodup [("_law_k":Str),("_law_choir_here":Str),("_law_row":Str)] by decide +kernel) rfl (Or.inl rfl))) (fun _ _ _ _ _=>(pC (az gu (av (nj (K:=K) rfl) (pv 2) (pv 0) (fun _ _=>rfl)) bG (aI _)))) (fun _ _ _ _ _=>(av (fJ (K:=K) rfl) (av (fJ (K:=K) rfl) (pv 1) (pv 0) (fun _ _=>rfl)) ak (fun _ _=>rfl))))))),?_⟩
 refine ⟨_,rfl,_,rfl,a,rfl,⟨_,SqT.of ha⟩,fun D hD=>?_⟩
 refine bV (K:=K) (a:=a) (xs:=bs) (fun j ys H2=>Same H H2∧ys=(starts (c.take j)).map oV) ⟨aq hD _,rfl⟩ (fun j ys H2 _ ⟨z,_⟩=>SqT.of (z _ _ ha)) ?_ ?_
 ·rintro j y ys H2 hj ⟨s2,rfl⟩ hD2
  obtain ⟨b,hb,ba,tt,ls,rfl,hba,_⟩:=bh prb hj
  have hj6:j<c.length:=(List.getElem?_eq_some_iff.mp hb).1
  refine ⟨rfl,aW ?_⟩
  refine ⟨_,rfl,ba,_,_,_,rfl,rfl,SqT.of (s2 _ _ hba),rfl,?_⟩
  refine ⟨_,hD2,?_,_,⟨s2.upd hD _,?_⟩,ah⟩
  ·rw [List.length_map,List.length_map,List.length_take]
   exact aJ (by omega)
  ·rw [take_snoc hb]
   unfold starts
   rw [List.map_append,List.map_append]
   rfl
 rintro ys H2 ⟨s2,rfl⟩ hD2
 rw [hbl,List.take_length] at hD2
 refine ⟨.ref a,c,D,starts c,rfl,hch.mono (Same.tup s2),fc,hD2,List.length_map _,fun H3 n now s3 n0 hn3 fx=>?_⟩
 have s03:=s2.trans s3
 have lnow:=fx.1
 refine ⟨_,rfl,a,_,rfl,.inr (SqT.of (s03 _ _ ha)),_,rfl,by omega,by omega,fun D2 hD2=>?_⟩
 refine fh (lo:=0) (n:=((bs.length:Nat):Int).toNat) (fun j ys H4=>Same H3 H4∧ys=(cX c now j).map V.str) ⟨aq hD2 _,rfl⟩ ?_ ?_
 ·rintro j ys H4 hj ⟨s4,rfl⟩ hD4
  rw [Int.zero_add]
  have hb:=List.getElem?_eq_getElem (show j<c.length by omega)
  generalize c[j]'(by omega)=b at hb
  have ho:=List.getElem?_eq_getElem (show j<now.length by omega)
  generalize now[j]'(by omega)=o at ho
  obtain ⟨bv,ebv,ba,tt,ls,rfl,hba,_⟩:=cI prb hb
  refine ⟨rfl,_,rfl,_,rfl,n,_,_,_,rfl,rfl,SqL.of (s4 _ _ hn3),oO ho,rfl,_,rfl,?_⟩
  cases o with
  | some u =>
   refine bg ⟨_,⟨s4,rfl⟩,?_⟩
   rw [eJ hb ho]
   show H4 D2=some (HO.lst ((cX c now j++[]).map V.str))
   rw [List.append_nil]
   exact hD4
  | none =>
   refine bc ⟨_,rfl,_,rfl,a,_,_,_,rfl,rfl,SqT.of ((s03.trans s4) _ _ ha),a9 ebv,ba,_,_,_,rfl,rfl,SqT.of ((s03.trans s4) _ _ hba),rfl,_,hD4,?_,_,⟨s4.upd hD2 _,rfl⟩,?_⟩
   ·rw [List.length_map]
    have:=fI c now j
    exact aJ (by omega)
   ·rw [eJ hb ho,List.map_append]
    exact ah
 ·rintro ys H4 ⟨s4,rfl⟩ hD4
  rw [Int.toNat_natCast,hbl] at hD4
  exact q H4 D2 now (s03.trans s4) (s03.free hD2) hD4 fx
end
end K81.S
namespace L2
open PySem PySem.Spec PyProof.Rows
theorem tm {X:Cx} {K:PySem.W.Frag} (hK:X.K=K) (hc:X.calm=true):cT X (.builtin "min") (fun xs H Q=>∃ (p:Addr) (ns:List Int),xs=[.ref p]∧SqL K H p (ns.map V.int)∧0<ns.length∧∀ M,M∈ns→(∀ a,a∈ns→M≤a)→Q (.int M) H):=hK▸jT hc
end L2
namespace K81.S
open PySem L2
def mn:List Int→Int
 | []=>0
 | [x]=>x
 | x::y::r=>min x (mn (y::r))
theorem k6:∀ {r:List Int},r≠[]→mn r∈r
 | [],h=>absurd rfl h
 | [x],_=>List.mem_singleton.mpr rfl
 | x::y::r,_=>by
  have:=k6 (r:=y::r) (by simp)
  show min x (mn (y::r))∈x::y::r
  by_cases h:x≤mn (y::r)
  ·rw [Int.min_eq_left h]; exact List.mem_cons_self
  ·rw [Int.min_eq_right (by omega)]; exact List.mem_cons_of_mem _ this
theorem uI:∀ {r:List Int} {a:Int},a∈r→mn r≤a
 | [],_,h=>(nomatch h)
 | [x],a,h=>by rw [List.mem_singleton.mp h]; exact Int.le_refl _
 | x::y::r,a,h=>by
  show min x (mn (y::r))≤a
  rcases List.mem_cons.mp h with rfl | h
  ·exact Int.min_le_left _ _
  ·exact Int.le_trans (Int.min_le_right _ _) (uI h)
theorem tZ {r:List Int} {M:Int} (h1:M∈r) (h2:∀ a,a∈r→M≤a):M=mn r:=by
 have a:=h2 _ (k6 (r:=r) (fun e=>by rw [e] at h1; cases h1))
 have b:=uI h1
 omega
theorem Cp {r:List Int} (h:r≠[]) (d:Int):mn (r.map (·+d))=mn r+d:=by
 refine (tZ (List.mem_map.mpr ⟨mn r,k6 h,rfl⟩) fun a ha=>?_).symm
 obtain ⟨b,hb,rfl⟩:=List.mem_map.mp ha
 have:=uI hb
 show mn r+d≤b+d
 omega
def nrm (r:List Int):List Int:=r.map (· - mn r)
theorem Cz {R:Nat→List Int} {f l:Nat} (hf:R f≠[]) (h:nrm (R l)=nrm (R f)):Sh R f l (mn (R l) - mn (R f)):=by
 have e:∀ r:List Int,r=(nrm r).map (·+mn r):=fun r=>by
  unfold nrm
  rw [List.map_map]
  have:((fun v:Int=>v+mn r) ∘ fun v=>v - mn r)=id:=funext fun v=>by show v - mn r+mn r=v; omega
  rw [this,List.map_id]
 unfold Sh
 refine (e (R l)).trans ?_
 rw [h]
 unfold nrm
 rw [List.map_map]
 exact List.map_congr_left fun v _=>by show v - mn (R f)+mn (R l)=v+(mn (R l) - mn (R f)); omega
theorem sf {R:Nat→List Int} {f l:Nat} {d:Int} (hf:R f≠[]) (h:Sh R f l d):nrm (R l)=nrm (R f):=by
 unfold Sh at h
 unfold nrm
 rw [h,Cp hf,List.map_map]
 exact List.map_congr_left fun v _=>by show v+d - (mn (R f)+d)=v - mn (R f); omega
def Br (R:Nat→List Int) (n:Nat):Prop:=∀ i j,i<j→j<n→nrm (R j)≠nrm (R i)
theorem tI {c:List Bell} (hc:gR c) {R:Nat→List Int} (s:SeqR c R) (hne:∀ n,R n≠[]) {n f most:Nat} (hd:Br R n) (hf:f<n) (hn:n≤most) (e:nrm (R n)=nrm (R f)):dz R most (some (f,n - f,mn (R n) - mn (R f))):=by
 have sh:=Cz (hne f) e
 rw [show n=f+(n - f) by omega] at sh
 have e2:f+(n - f)=n:=by omega
 refine ⟨by omega,by omega,?_,fun f' l h1 h2 _ d' h'=>?_,fun l h1 h2 d' h'=>?_⟩
 ·rw [e2] at sh ⊢
  exact sh
 ·have sh':Sh R f' (f'+(l - f')) d':=by rw [show f'+(l - f')=l by omega]; exact h'
  have b:=jx hc s sh sh' (by omega) (by omega)
  exact hd f' (f'+(n - f)) (by omega) (by omega) (sf (hne f') b)
 ·exact hd f l h1 (by omega) (sf (hne f) h')
theorem uN {R:Nat→List Int} (hne:∀ n,R n≠[]) {most:Nat} (hd:Br R (most+1)):dz R most none:=fun f l h1 h2 d h=>hd f l h1 (by omega) (sf (hne f) h)
def keyOf (r:List Int):List Key:=(nrm r).map Sum.inl
theorem nY {x y:List Int} (h:keyOf x=keyOf y):nrm x=nrm y:=(List.map_inj_right (fun _ _ e=>Sum.inl.inj e)).mp h
theorem Af (r:List Int):(keyOf r).map kV=(nrm r).map V.int:=by unfold keyOf; rw [List.map_map]; rfl
theorem ux:∀ {kvs:List (List Key×V)} {i:Nat} {k:List Key} {v:V},kvs[i]?=some (k,v)→(∀ j,j<i→∀ z,kvs[j]?=some z→z.1≠k)→cm kvs k=some v
 | [],_,_,_,h,_=>by cases h
 | p::r,0,k,v,h,_=>by
  have e:p=(k,v):=Option.some.inj h
  rw [e]
  exact cq rfl
 | p::r,i+1,k,v,h,no=>by
  have ne:=no 0 (by omega) p rfl
  have ih:=ux (kvs:=r) (i:=i) h fun j hj z hz=>no (j+1) (by omega) z hz
  unfold cm at ih ⊢
  rw [List.find?_cons,decide_eq_false ne]
  exact ih
theorem ua:∀ {kvs:List (List Key×V)} {k:List Key},(∀ z∈kvs,z.1≠k)→cm kvs k=none
 | [],_,_=>rfl
 | p::r,k,h=>by
  have ih:=ua (kvs:=r) fun z hz=>h z (List.mem_cons_of_mem _ hz)
  unfold cm at ih ⊢
  rw [List.find?_cons,decide_eq_false (h p List.mem_cons_self)]
  exact ih
theorem zN {kvs:List (List Key×V)} {k:List Key} {v:V} (h:∀ z∈kvs,z.1≠k):putK kvs k v=kvs++[(k,v)]:=by
 unfold putK
 rw [if_neg]
 intro z
 obtain ⟨x,hx,e⟩:=List.any_eq_true.mp z
 exact h x hx (of_decide_eq_true e)
def Known (R:Nat→List Int) (n:Nat) (H:Hp) (kvs:List (List Key×V)):Prop:=kvs.length=n∧∀ i,i<n→∃ a,kvs[i]?=some (keyOf (R i),.ref a)∧H a=some (.tup [.int (i:Int),.int (mn (R i))])
theorem Known.mem {R:Nat→List Int} {n:Nat} {H:Hp} {kvs:List (List Key×V)} (h:Known R n H kvs) {z:List Key×V} (hz:z∈kvs):∃ i,i<n∧z.1=keyOf (R i):=by
 obtain ⟨i,hi⟩:=List.getElem?_of_mem hz
 have hn:i<n:=by rw [← h.1]; exact (List.getElem?_eq_some_iff.mp hi).1
 obtain ⟨a,ha,_⟩:=h.2 i hn
 rw [ha] at hi
 cases hi
 exact ⟨i,hn,rfl⟩
section
variable {P:Program} {w:World} {K:PySem.W.Frag} {mg:Str→Option Value} {base:Heap} {f:Addr} {fd:FuncData}
def BR:Option (Nat×Nat×Int)→Hp→V→Prop
 | none,_,v=>v=.non
 | some (f,p,d),H,v=>∃ x,v=.ref x∧H x=some (.tup [.int (f:Int),.int (p:Int),.int d])
def ke:Sp:=fun vs H Q _=>∃ (ch:V) (c:List Bell) (most:Nat) (R:Nat→List Int),vs=[ch,.int (most:Int)]∧ChoirAt H ch c∧Fine c∧1≤c.length∧most≤1000∧SeqR c R∧∀ o,dz R most o→∀ H' v,Same H H'→BR o H' v→Q v H'
theorem dm:FnScope ["_law_choir_here","_law_most","_law_row","_law_known","_law_n","_law_here","_law_first","_law_beat_here"] ["_law_choir_here","_law_most"] (ar oK):=⟨rfl,rfl,rfl,by decide +kernel,rfl,by decide +kernel,by decide +kernel⟩
theorem vh (F:Fun K "_law_round" "_law_round" oK f fd) (B:Blt mg) (C_next:Cal P w K mg base 2 "_law_next" ["_law_choir_here","_law_ahead"] hJ):FnOk P w K mg base CX0 3 f fd ["_law_choir_here","_law_most"] ke:=by
 refine F.ok dm (fun vs H Q E h=>?_) (fun cdv A outer s H vs Q E hr h=>?_)
 ·obtain ⟨ch,c,most,R,rfl,_⟩:=h
  rfl
 obtain ⟨ch,c,most,R,rfl,hch,fc,c1,hm,sq,q⟩:=h
 have rne:∀ n,R n≠[]:=fun n e=>by
  have h1:=sq.len n
  rw [e] at h1
  have:c.length=0:=h1.symm
  omega
 have c6:=fc.1
 refine ⟨_,(af (aB (i:=2) dm.nd rfl (Or.inr rfl) (bz ["_law_bell_here"] [] [] rfl (cD (pv 0)) (fun _ _ _ _ _=>(ay (i:=0) (show List.Nodup [("_law_bell_here":Str)] by decide +kernel) rfl (Or.inl rfl))) (fun _ _ _ _ _=>bp) (fun _ _ _ _ _=>(av (fJ (K:=K) rfl) (pv 0) ak (fun _ _=>rfl)))))
  (af (aB (i:=3) dm.nd rfl (Or.inl rfl) wX)
  (af (cO PassesOwn.never rfl (bU rfl B.range_ (aa (aV bP (pv 1) ak) ae)) (ay (i:=4) dm.nd rfl (Or.inl rfl))
  (af (aB (i:=5) dm.nd rfl (Or.inl rfl) (aX cP rfl B.tuple_ PyProof.Rows.boot_tuple (aa (bz ["_law_beat_here"] ["_law_row"] [2] rfl (gP (pv 2)) (fun _ _ _ _ _=>(ay (i:=0) (show List.Nodup [("_law_beat_here":Str),("_law_row":Str)] by decide +kernel) rfl (Or.inl rfl))) (fun _ _ _ _ _=>bp) (fun _ _ _ _ _=>(aV eW (pv 0) (ax (tm (K:=K) rfl rfl) rfl B.min_ PyProof.Rows.boot_min (aa (pv 1) ae))))) ae)))
  (af (aP (tG (Bn (oj hr) (pv 5) (pv 3)))
  (af (j3 (uk (oj hr) (pv 3) (pv 5) (fun _ _=>rfl)) (eR rfl (aZ (ay (i:=6) dm.nd rfl (Or.inl rfl)) (aZ (ay (i:=7) dm.nd rfl (Or.inl rfl)) dy))))
  (ao (au (dF (aa (pv 6) (aa (aV eW (pv 4) (pv 6)) (aa (aV eW (ax (jT rfl) rfl B.min_ PyProof.Rows.boot_min (aa (pv 2) ae)) (pv 7)) ae)))))))
  aw)
  (af (ur (oj hr) (pv 3) (pv 5) (dF (aa (pv 4) (aa (ax (jT rfl) rfl B.min_ PyProof.Rows.boot_min (aa (pv 2) ae)) ae))) rfl)
  (ao (aB (i:=2) dm.nd rfl (Or.inr rfl) (aH C_next hr (by decide) rfl (aa (pv 0) (aa (pv 2) ae)))))))))
  (ao (au bG))))),?_⟩
 obtain ⟨ca,bs,rfl,hca,prb⟩:=id hch
 have lb:=aO prb
 refine ⟨_,rfl,ca,rfl,⟨_,SqT.of hca⟩,fun D hD=>?_⟩
 refine bV (K:=K) (a:=ca) (xs:=bs) (fun j ys H1=>Same H H1∧ys=((c.take j).map (·.start)).map V.int) ⟨aq hD _,rfl⟩ (fun j ys H1 _ ⟨z,_⟩=>SqT.of (z _ _ hca)) ?_ ?_
 ·rintro j y ys H1 hj ⟨s1,rfl⟩ hD1
  obtain ⟨b,hb,⟨x,tt,ls,rfl,hx,_⟩⟩:=bh prb hj
  have hj6:j<c.length:=(List.getElem?_eq_some_iff.mp hb).1
  refine ⟨rfl,aW ?_⟩
  refine ⟨_,rfl,x,_,_,_,rfl,rfl,SqT.of (s1 _ _ hx),rfl,_,hD1,?_,_,⟨s1.upd hD _,rfl⟩,?_⟩
  ·rw [List.length_map,List.length_map,List.length_take]
   exact aJ (by omega)
  ·rw [take_snoc hb,List.map_append,List.map_append]
   exact ah
 rintro ys H1 ⟨s1,rfl⟩ hD1
 rw [lb,List.take_length,← sq.first] at hD1
 intro kd hkd
 have s2:=aq hkd (.dT [])
 have s02:=s1.trans s2
 have nkd:H kd=none:=s1.free hkd
 have hkd2:(upd H1 kd (.dT [])) kd=some (.dT []):=ah
 have hD2:=s2 _ _ hD1
 generalize upd H1 kd (.dT [])=H2 at s2 s02 hkd2 hD2 ⊢
 refine ⟨_,rfl,_,_,rfl,rfl,((most+1:Nat):Int),rfl,by omega,by omega,?_⟩
 rw [Int.toNat_natCast]
 refine dh (lo:=0) (n:=most+1) (fun i σ H3=>∃ (o4 o5 o6 o7:Option V) (ra:Addr) (kvs:List (List Key×V)),σ=[some (.ref ca),some (.int (most:Int)),some (.ref ra),some (.ref kd),o4,o5,o6,o7]∧Same H H3∧H3 ra=some (.lst ((R i).map V.int))∧H3 kd=some (.dT kvs)∧Known R i H3 kvs∧Br R i)
  ⟨none,none,none,none,D,[],rfl,s02,hD2,hkd2,⟨rfl,fun i hi=>absurd hi (Nat.not_lt_zero i)⟩,fun i j _ hj=>absurd hj (Nat.not_lt_zero j)⟩ ?_ ?_
 ·rintro i σ H3 hi ⟨o4,o5,o6,o7,ra,kvs,rfl,s3,hra,hk3,kn,ds⟩
  rw [Int.zero_add]
  have rl:(R i).length=c.length:=sq.len i
  have pos:0<(R i).length:=by omega
  refine ⟨_,rfl,ra,rfl,⟨_,SqL.of hra⟩,fun D2 hd2=>?_⟩
  refine dH (K:=K) (a:=ra) (xs:=(R i).map V.int) (fun j ys H4=>Same H3 H4∧ys=(((R i).take j).map (· - mn (R i))).map V.int) ⟨aq hd2 _,rfl⟩ (fun j ys H4 _ ⟨z,_⟩=>SqL.of (z _ _ hra)) ?_ ?_
  ·rintro j y ys H4 hj ⟨s4,rfl⟩ hd4
   rw [List.getElem?_map] at hj
   obtain ⟨v,hv,rfl⟩:=Option.map_eq_some_iff.mp hj
   have hj6:j<(R i).length:=(List.getElem?_eq_some_iff.mp hv).1
   refine ⟨rfl,aW ?_⟩
   refine ⟨_,rfl,_,rfl,ra,R i,rfl,SqL.of (s4 _ _ hra),pos,fun M M1 M2=>?_⟩
   obtain rfl:=tZ M1 M2
   refine ⟨_,_,rfl,rfl,_,hd4,?_,_,⟨s4.upd hd2 _,rfl⟩,?_⟩
   ·rw [List.length_map,List.length_map,List.length_take]
    exact aJ (by omega)
   ·rw [take_snoc hv,List.map_append,List.map_append]
    exact ah
  rintro ys H4 ⟨s4,rfl⟩ hd4
  rw [List.length_map,List.take_length] at hd4
  refine ⟨D2,_,rfl,.inl ⟨SqL.of hd4,fun tp htp=>?_⟩⟩
  have s5:=s4.trans (aq htp (.tup ((nrm (R i)).map V.int)))
  have htp5:(upd H4 tp (.tup ((nrm (R i)).map V.int))) tp=some (.tup ((keyOf (R i)).map kV)):=by rw [Af]; exact ah
  have hk5:=s5 _ _ hk3
  have hra5:=s5 _ _ hra
  have s05:=s3.trans s5
  show _
  generalize eH5:upd H4 tp (.tup ((nrm (R i)).map V.int))=H5 at s5 htp5 hk5 hra5 s05
  have eH5':upd H4 tp (.tup (((R i).map (· - mn (R i))).map V.int))=H5:=eH5
  rw [eH5']
  have kn5:Known R i H5 kvs:=⟨kn.1,fun j hj=>by
   obtain ⟨a,h1,h2⟩:=kn.2 j hj
   exact ⟨a,h1,s5 _ _ h2⟩⟩
  refine ⟨_,rfl,_,rfl,kd,_,rfl,.t hk5 htp5,_,rfl,?_⟩
  by_cases old:∃ j,j<i∧nrm (R i)=nrm (R j)
  ·obtain ⟨j,hj,ej⟩:=old
   obtain ⟨aj,hkj,haj⟩:=kn5.2 j hj
   have ek:keyOf (R i)=keyOf (R j):=by unfold keyOf; rw [ej]
   have hv:cm kvs (keyOf (R i))=some (.ref aj):=by
    rw [ek]
    refine ux hkj fun j' hj' z hz e=>?_
    obtain ⟨a',ha',_⟩:=kn5.2 j' (by omega)
    rw [ha'] at hz
    cases hz
    exact ds j' j hj' hj (nY e.symm)
   rw [hv]
   refine bc ?_
   refine ⟨_,rfl,_,rfl,kd,.ref aj,rfl,?_,aj,_,rfl,SqT.of haj,rfl,_,_,rfl,_,_,rfl,rfl,?_⟩
   ·have:=DGet.t hk5 htp5
    rw [hv] at this
    exact this
   refine ⟨_,rfl,_,rfl,_,rfl,_,_,rfl,rfl,_,rfl,ra,R i,rfl,SqL.of hra5,pos,fun M M1 M2=>?_⟩
   obtain rfl:=tZ M1 M2
   refine ⟨_,rfl,_,_,rfl,rfl,(by show 3≤sizeLine; decide),fun x hx=>?_⟩
   refine q _ (tI fc.slow sq rne ds hj (by omega) ej) _ (.ref x) (s05.trans (aq hx _)) ⟨x,rfl,?_⟩
   rw [ah]
   show some (HO.tup [V.int (j:Int),V.int ((i:Int) - (j:Int)),V.int (mn (R i) - mn (R j))])=some (HO.tup [V.int (j:Int),V.int (((i - j:Nat)):Int),V.int (mn (R i) - mn (R j))])
   rw [show (((i - j:Nat)):Int)=(i:Int) - (j:Int) by omega]
  ·have new:∀ z∈kvs,z.1≠keyOf (R i):=fun z hz e=>by
    obtain ⟨j,hj,ej⟩:=kn5.mem hz
    exact old ⟨j,hj,nY (e.symm.trans ej)⟩
   rw [ua new]
   refine bg ?_
   refine ⟨_,rfl,_,rfl,ra,R i,rfl,SqL.of hra5,pos,fun M M1 M2=>?_⟩
   obtain rfl:=tZ M1 M2
   refine ⟨(by show 2≤sizeLine; decide),fun pa hpa=>?_⟩
   have s6:=aq hpa (.tup [.int (i:Int),.int (mn (R i))])
   have hpa6:(upd H5 pa (.tup [.int (i:Int),.int (mn (R i))])) pa=some (.tup [.int (i:Int),.int (mn (R i))]):=ah
   have hk6:=s6 _ _ hk5
   have hra6:=s6 _ _ hra5
   have htp6:=s6 _ _ htp5
   have s06:=s05.trans s6
   have kn6:∀ j,j<i→∃ a,kvs[j]?=some (keyOf (R j),.ref a)∧(upd H5 pa (.tup [.int (i:Int),.int (mn (R i))])) a=some (.tup [.int (j:Int),.int (mn (R j))]):=fun j hj=>by
    obtain ⟨a,h1,h2⟩:=kn5.2 j hj
    exact ⟨a,h1,s6 _ _ h2⟩
   generalize upd H5 pa (.tup [.int (i:Int),.int (mn (R i))])=H6 at s6 hpa6 hk6 hra6 htp6 s06 kn6 ⊢
   refine ⟨_,rfl,_,rfl,kd,_,rfl,.t hk6 htp6 (by rw [kn.1]; exact aJ (by omega)),?_⟩
   rw [zN new]
   have nek:∀ {x:Addr} {o:HO},H6 x=some o→(∀ z,o≠.dT z)→x≠kd:=fun {x o} hx no e=>by
    rw [e,hk6] at hx
    exact no _ (Option.some.inj hx).symm
   have b7:∀ x o,x≠kd→H6 x=some o→(upd H6 kd (.dT (kvs++[(keyOf (R i),.ref pa)]))) x=some o:=fun x o n h=>by rw [aC n]; exact h
   have hk7:(upd H6 kd (.dT (kvs++[(keyOf (R i),.ref pa)]))) kd=some (.dT (kvs++[(keyOf (R i),.ref pa)])):=ah
   have s07:Same H (upd H6 kd (.dT (kvs++[(keyOf (R i),.ref pa)]))):=s06.upd nkd _
   have hra7:=b7 _ _ (nek hra6 (fun z e=>by cases e)) hra6
   have kn7:Known R (i+1) (upd H6 kd (.dT (kvs++[(keyOf (R i),.ref pa)]))) (kvs++[(keyOf (R i),.ref pa)]):=by
    refine ⟨by rw [List.length_append,kn.1]; rfl,fun j hj=>?_⟩
    rcases Nat.lt_succ_iff_lt_or_eq.mp hj with h | rfl
    ·obtain ⟨a,h1,h2⟩:=kn6 j h
     exact ⟨a,by rw [List.getElem?_append_left (by rw [kn.1]; exact h)]; exact h1,b7 _ _ (nek h2 (fun z e=>by cases e)) h2⟩
    ·refine ⟨pa,?_,b7 _ _ (nek hpa6 (fun z e=>by cases e)) hpa6⟩
     rw [← kn.1,List.getElem?_concat_length]
   generalize upd H6 kd (.dT (kvs++[(keyOf (R i),.ref pa)]))=H7 at b7 hk7 s07 hra7 kn7 ⊢
   refine ⟨_,rfl,_,rfl,.ref ca,c,ra,(R i).map some,rfl,hch.mono (Same.tup s07),fc,by rw [lV]; exact hra7,by rw [List.length_map]; exact rl,fun H8 n now s8 n0 hn8 fx=>?_⟩
   have en:now=(R (i+1)).map some:=c9 fc.slow fx (sq.next i)
   rw [en,lV] at hn8
   refine ⟨_,_,_,_,n,_,rfl,s07.trans s8,hn8,s8 _ _ hk7,⟨kn7.1,fun j hj=>?_⟩,fun a b hab hb=>?_⟩
   ·obtain ⟨a,h1,h2⟩:=kn7.2 j hj
    exact ⟨a,h1,s8 _ _ h2⟩
   ·rcases Nat.lt_succ_iff_lt_or_eq.mp hb with h | rfl
    ·exact ds a b hab h
    ·exact fun e=>old ⟨a,hab,e⟩
 ·rintro σ H3 ⟨o4,o5,o6,o7,ra,kvs,rfl,s3,hra,hk3,kn,ds⟩
  exact q none (uN rne ds) H3 .non s3 rfl
end
end K81.S
namespace K81.S
open PySem L2
def sN:List (Str×Str):=[("drop","c"),("show","c"),("stroke","cbn"),("waits","c"),("pace","cb"),("ring","cb"),("round","cn"),("alike","ccnb"),("slow","cbnn"),("join","ccc")]
def jR:List (Key×V):=sN.map fun z=>((Sum.inr z.1:Key),V.str z.2)
theorem Bi:("n":Str)=⟨#[110]⟩:=by decide +kernel
section
variable {P:Program} {w:World} {K:PySem.W.Frag} {mg:Str→Option Value} {base:Heap} {f:Addr} {fd:FuncData}
def mw:Sp:=fun vs H Q _=>∃ (ch:V) (c:List Bell) (i:Nat) (b:Bell),vs=[ch,.str b.name]∧ChoirAt H ch c∧c.length≤6∧c[i]?=some b∧(c.map (·.name)).Nodup∧∀ H',Same H H'→Q (.int (i:Int)) H'
theorem lQ:FnScope ["choir","name","number","bell"] ["choir","name"] (ar iR):=⟨rfl,rfl,rfl,by decide +kernel,rfl,by decide +kernel,by decide +kernel⟩
theorem xS (F:Fun K "place_of" "place_of" iR f fd) (B:Blt mg):FnOk P w K mg base CX0 1 f fd ["choir","name"] mw:=by
 refine F.ok lQ (fun vs H Q E h=>?_) (fun cdv A outer s H vs Q E hr h=>?_)
 ·obtain ⟨ch,c,i,b,rfl,_⟩:=h
  rfl
 obtain ⟨ch,c,i0,b0,rfl,⟨a,bs,rfl,ha,prb⟩,h6,hi0,nd,q⟩:=h
 refine ⟨_,(af (cO PassesOwn.never rfl (p7 rfl B.enumerate_ (aa (pv 0) ae)) (eR rfl (aZ (ay (i:=2) lQ.nd rfl (Or.inl rfl)) (aZ (ay (i:=3) lQ.nd rfl (Or.inl rfl)) dy)))
  (ao (aP (az bN (av aT (pv 3) ak (fun _ _=>rfl)) (pv 1) (aI _))
  (ao (au (pv 2)))
  aw)))
  bf),?_⟩
 have hbl:=aO prb
 have at0:(c.map (·.name))[i0]?=some b0.name:=by rw [List.getElem?_map,hi0]; rfl
 refine ⟨_,rfl,a,rfl,⟨_,SqT.of ha⟩,nX (K:=K) (a:=a) (xs:=bs) (fun i σ H2=>∃ (o2 o3:Option V),σ=[some (.ref a),some (.str b0.name),o2,o3]∧Same H H2∧∀ (j:Nat) b',j<i→c[j]?=some b'→b'.name≠b0.name)
  ⟨none,none,rfl,.refl H,fun j b' hj=>absurd hj (Nat.not_lt_zero j)⟩ (fun i σ H2 _ ⟨_,_,_,s2,_⟩=>SqT.of (s2 _ _ ha)) ?_ ?_⟩
 ·rintro i y σ H2 T hi ⟨o2,o3,rfl,s2,no⟩ hT
  obtain ⟨b,hb,⟨x,t,ls,rfl,hx,ht,prl⟩⟩:=bh prb hi
  have s3:Same H2 (upd H2 T (.tup [.int (i:Int),.ref x])):=aq hT _
  have s23:=s2.trans s3
  have eT:(upd H2 T (.tup [.int (i:Int),.ref x])) T=some (.tup [.int (i:Int),.ref x]):=ah
  refine ⟨T,_,rfl,SqT.of eT,rfl,_,_,rfl,_,_,rfl,rfl,?_⟩
  refine ⟨_,rfl,x,_,_,_,rfl,rfl,SqT.of (s23 _ _ hx),rfl,?_⟩
  refine ⟨_,rfl,rfl,_,rfl,?_⟩
  refine cb (fun cc=>?_) (fun cc=>?_)
  ·have e:V.str b.name=V.str b0.name:=of_decide_eq_true cc
   injection e with e
   have ai:(c.map (·.name))[i]?=some b0.name:=by rw [List.getElem?_map,hb,← e]; rfl
   have ei:i=i0:=(List.getElem?_inj (List.getElem?_eq_some_iff.mp ai).1 nd).mp (ai.trans at0.symm)
   subst ei
   exact ⟨_,rfl,q _ s23⟩
  ·refine ⟨_,_,rfl,s23,fun j b' hj hb'=>?_⟩
   rcases Nat.lt_succ_iff_lt_or_eq.mp hj with hlt | rfl
   ·exact no j b' hlt hb'
   ·rw [hb] at hb'
    cases hb'
    exact fun e=>cc (decide_eq_true (congrArg V.str e))
 ·rintro σ H2 ⟨o2,o3,rfl,s2,no⟩
  exact absurd rfl (no i0 b0 (by rw [hbl]; exact (List.getElem?_eq_some_iff.mp hi0).1) hi0)
def pQ:Sp:=fun vs H Q _=>∃ (l:Addr) (ws:List Str) (h0 fm:Str),vs=[.ref l]∧H l=some (.lst (ws.map V.str))∧ws[0]?=some h0∧cm jR (Sum.inr h0)=some (.str fm)∧h0≠"alike"∧Q (.str fm) H
theorem uL:FnScope ["words","form"] ["words"] (ar jG):=⟨rfl,rfl,rfl,by decide +kernel,rfl,by decide +kernel,by decide +kernel⟩
theorem eK {ws:List Str} {h0:Str} (h:ws[0]?=some h0):atI (ws.map V.str) 0=some (.str h0):=a9 (j:=0) (by rw [List.getElem?_map,h]; rfl)
theorem zF {aF:Addr} (F:Fun K "form_of" "form_of" jG f fd) (mF:mg "FORMS"=some (.ref aF)) (kF:rX P w K aF jR):FnOk P w K mg base CX0 1 f fd ["words"] pQ:=by
 refine F.ok uL (fun vs H Q E h=>?_) (fun cdv A outer s H vs Q E hr h=>?_)
 ·obtain ⟨l,ws,h0,fm,rfl,_⟩:=h
  rfl
 obtain ⟨l,ws,h0,fm,rfl,hl,e0,hv,na,q⟩:=h
 refine ⟨_,(af (aP (tG (uS kF (av aE (pv 0) ak (fun _ _=>rfl)) (cB (v:=.ref aF) rfl mF rfl)))
  bf
  aw)
  (af (aB (i:=1) uL.nd rfl (Or.inl rfl) (Ai kF (cB (v:=.ref aF) rfl mF rfl) (av aE (pv 0) ak (fun _ _=>rfl)) (fun _ _=>rfl)))
  (af (aP (az bN (av aE (pv 0) ak (fun _ _=>rfl)) aG (aI _))
  bf
  aw)
  (ao (au (pv 1)))))),?_⟩
 have T0:SqL K H l (ws.map V.str):=SqL.of hl
 refine ⟨_,rfl,l,_,_,_,rfl,rfl,T0,eK e0,Sum.inr h0,rfl,rfl,_,rfl,?_⟩
 rw [hv]
 refine bg ?_
 refine ⟨_,rfl,l,_,_,_,rfl,rfl,T0,eK e0,Sum.inr h0,_,rfl,rfl,hv,?_⟩
 refine ⟨_,rfl,l,_,_,_,rfl,rfl,T0,eK e0,rfl,_,rfl,?_⟩
 rw [decide_eq_false (show ¬ (V.str h0=V.str "alike") from fun z=>na (by injection z))]
 exact bg ⟨_,rfl,q⟩
def uv (fm:Str) (ws:List Str):Prop:=ws.length=fm.length+1∧fm.cps.all (·<128)=true∧∀ (i:Nat) c z,fm.cps[i]?=some c→ws[i+1]?=some z→z.length≤1000∧(c=110→eC z 4=true)∧(c≠110→bJ z=true)
def tD:Sp:=fun vs H Q _=>∃ (l:Addr) (ws:List Str) (h0 fm:Str),vs=[.ref l]∧H l=some (.lst (ws.map V.str))∧ws[0]?=some h0∧cm jR (Sum.inr h0)=some (.str fm)∧h0≠"alike"∧uv fm ws∧ws.length≤100∧∀ H',Same H H'→Q .non H'
theorem lS:FnScope ["words","form","sort","word","good"] ["words"] (ar cC):=⟨rfl,rfl,rfl,by decide +kernel,rfl,by decide +kernel,by decide +kernel⟩
theorem Ae (ws:List Str) (h:1≤ws.length):gS (ws.map V.str) (some 1) none=(ws.drop 1).map V.str:=by
 unfold gS
 rw [show (1:Int)=((1:Nat):Int) from rfl,HT.jy,HT.f9,List.length_map,Nat.min_eq_left h,← List.map_drop]
 exact List.take_of_length_le (by rw [List.length_map,List.length_drop]; omega)
theorem BD {tM:Tok} (F:Fun K "refuse_wrong_words" "refuse_wrong_words" cC f fd) (B:Blt mg) (mM:mg "MOST_FIGURES_desk"=some (.int 4 tM)) (C_form:Cal P w K mg base 1 "form_of" ["words"] pQ) (C_writ:Cal P w K mg base 1 "is_written_whole" ["text","most_figures"] kQ) (C_word:Cal P w K mg base 1 "is_word" ["thing"] i4) :
  FnOk P w K mg base CX0 2 f fd ["words"] tD:=by
 refine F.ok lS (fun vs H Q E h=>?_) (fun cdv A outer s H vs Q E hr h=>?_)
 ·obtain ⟨l,ws,h0,fm,rfl,_⟩:=h
  rfl
 obtain ⟨l,ws,h0,fm,rfl,hl,e0,hv,na,⟨wl,asc,wok⟩,w100,q⟩:=h
 refine ⟨_,(af (aB (i:=1) lS.nd rfl (Or.inl rfl) (aH C_form hr (by decide) rfl (aa (pv 0) ae)))
  (af (aP (az iI (aV eW (ax aL rfl B.len_ PySem.boot_len (aa (pv 0) ae)) ak) (ax eG rfl B.len_ PySem.boot_len (aa (pv 1) ae)) (aI _))
  bf
  aw)
  (ao (cO PassesOwn.never rfl (zZ rfl B.zip_ (aa (pv 1) (aa (d7 kR (pv 0) (fD ak) fz) ae))) (eR rfl (aZ (ay (i:=2) lS.nd rfl (Or.inl rfl)) (aZ (ay (i:=3) lS.nd rfl (Or.inl rfl)) dy)))
  (af (aB (i:=4) lS.nd rfl (Or.inl rfl) (fo (az bN (pv 2) aG (aI _)) (aH C_writ hr (by decide) rfl (aa (pv 3) (aa (cB (v:=.int 4) rfl mM ⟨tM,rfl⟩) ae))) (aH C_word hr (by decide) rfl (aa (pv 3) ae))))
  (ao (aP (bQ (bD (pv 4)))
  bf
  aw))))))),?_⟩
 refine ⟨_,rfl,l,ws,h0,fm,rfl,hl,e0,hv,na,?_⟩
 have fl:fm.length≤100:=by omega
 refine ⟨_,rfl,l,_,rfl,.inl (SqL.of hl),_,_,rfl,rfl,_,rfl,fm,rfl,(by rw [sizeLine_eq]; omega),rfl,_,rfl,cb (fun cc=>?_) (fun _=>?_)⟩
 ·have ec:((((ws.map V.str).length:Nat):Int) - 1)=((fm.length:Nat):Int):=by rw [List.length_map]; omega
  have c2:(!decide (V.int ((((ws.map V.str).length:Nat):Int) - 1)=V.int ((fm.length:Nat):Int)))=true:=cc
  rw [ec] at c2
  simp at c2
 refine ⟨_,rfl,_,rfl,_,rfl,l,_,rfl,SqL.of hl,fun p hp=>?_⟩
 rw [Ae ws (by omega)]
 have s1:=aq hp (.lst ((ws.drop 1).map V.str))
 have hp1:(upd H p (.lst ((ws.drop 1).map V.str))) p=some (.lst ((ws.drop 1).map V.str)):=ah
 generalize upd H p (.lst ((ws.drop 1).map V.str))=H1 at s1 hp1 ⊢
 have tl:=bj fm
 have zs:fm.cps.size=((ws.drop 1).map V.str).length:=by
  rw [List.length_map,List.length_drop,wl]
  show fm.length=_
  omega
 refine ⟨fm,p,rfl,asc,⟨_,SqL.of hp1⟩,yK (K:=K) (z:=fm) (b:=p) (ys:=(ws.drop 1).map V.str) (fun i σ H2=>∃ (o2 o3 o4:Option V),σ=[some (.ref l),some (.str fm),o2,o3,o4]∧Same H1 H2)
  ⟨none,none,none,rfl,.refl H1⟩ zs (fun i σ H2 _ ⟨_,_,_,_,z⟩=>SqL.of (z _ _ hp1)) ?_ ?_⟩
 ·rintro i c y σ H2 T hc hy ⟨o2,o3,o4,rfl,s2⟩ hT
  rw [List.getElem?_map,List.getElem?_drop] at hy
  obtain ⟨z,hz,rfl⟩:=Option.map_eq_some_iff.mp hy
  rw [Nat.add_comm] at hz
  obtain ⟨z1000,zn,zw⟩:=wok i c z hc hz
  have s3:=aq hT (.tup [sgn c,.str z])
  have eT:(upd H2 T (.tup [sgn c,.str z])) T=some (.tup [sgn c,.str z]):=ah
  generalize upd H2 T (.tup [sgn c,.str z])=H3 at s3 eT ⊢
  have s13:=s2.trans s3
  refine ⟨T,_,rfl,SqT.of eT,rfl,_,_,rfl,_,_,rfl,rfl,?_⟩
  refine ⟨_,rfl,rfl,_,rfl,cb (fun cc=>?_) (fun cc=>?_)⟩
  ·have e:V.str ⟨#[c]⟩=V.str "n":=of_decide_eq_true cc
   injection e with e
   rw [Bi] at e
   have ec:c=110:=by
    have:=congrArg (fun x:Str=>x.cps.toList) e
    exact List.head_eq_of_cons_eq this
   refine ⟨_,rfl,z,4,rfl,z1000,fun H4 s4=>?_⟩
   rw [zn ec]
   exact ⟨_,rfl,_,rfl,bg ⟨_,_,_,rfl,s13.trans s4⟩⟩
  ·have ec:c≠110:=fun e=>cc (decide_eq_true (by rw [e,Bi]; rfl))
   refine ⟨_,rfl,.str z,.str z,rfl,⟨rfl,z1000⟩,fun H4 s4=>?_⟩
   have ew:nZ (.str z)=true:=zw ec
   rw [ew]
   exact ⟨_,rfl,_,rfl,bg ⟨_,_,_,rfl,s13.trans s4⟩⟩
 ·rintro σ H2 ⟨o2,o3,o4,rfl,s2⟩
  exact q H2 (s1.trans s2)
def ip:Sp:=fun vs H Q _=>∃ n lo hi:Int,vs=[.int n,.int lo,.int hi]∧lo≤n∧n≤hi∧Q .non H
theorem vH:FnScope ["number","least","most"] ["number","least","most"] (ar eh):=⟨rfl,rfl,rfl,by decide +kernel,rfl,by decide +kernel,by decide +kernel⟩
theorem vM (F:Fun K "refuse_beyond" "refuse_beyond" eh f fd) (C_within:Cal P w K mg base 2 "is_whole_within" ["thing","least","most"] fV):FnOk P w K mg base CX0 3 f fd ["number","least","most"] ip:=by
 refine F.ok vH (fun vs H Q E h=>?_) (fun cdv A outer s H vs Q E hr h=>?_)
 ·obtain ⟨n,lo,hi,rfl,_⟩:=h
  rfl
 obtain ⟨n,lo,hi,rfl,h1,h2,q⟩:=h
 refine ⟨_,(ao (aP (bQ (bD (aH C_within hr (by decide) rfl (aa (pv 0) (aa (pv 1) (aa (pv 2) ae))))))
  bf
  aw)),?_⟩
 refine ⟨_,rfl,_,rfl,_,rfl,.int n,.int n,lo,hi,rfl,rfl,?_⟩
 rw [lh h1 h2]
 exact ⟨_,rfl,bg q⟩
end
end K81.S
namespace K81.S
open PySem L2
def n9:Option Int→Str
 | none=>"never"
 | some v=>aK v
def om (ws:List Str):Str:=if ws=[] then "none" else Txt.join " " ws
def zM:Option (Nat×Nat×Int)→Str
 | none=>"none"
 | some (f,p,d)=>Txt.join " " [aK (f:Int),aK (p:Int),aK d]
def fQ (c:List Bell) (n i:Nat) (o:Option Int):Prop:=∃ rows row,Rows c rows∧rows.length=n+1∧rows[n]?=some row∧row[i]?=some o
theorem qe {c:List Bell} (hc:gR c) {n i:Nat} {o o':Option Int} (h:fQ c n i o) (h':fQ c n i o'):o=o':=by
 obtain ⟨rows,row,h1,h2,h3,h4⟩:=h
 obtain ⟨rows',row',g1,g2,g3,g4⟩:=h'
 rw [Rows.unique hc h1 g1 (by omega)] at h3
 rw [h3] at g3
 cases g3
 exact Option.some.inj (h4.symm.trans g4)
theorem fX {c:List Bell} (g:GoodC c):Fine c:=⟨g.c6,fun k b hb=>by
 have h:=g.gb b (List.mem_of_getElem? hb)
 have:=h.n6
 exact ⟨h.n1,by omega,h.r,fun l hl=>⟨(h.l l hl).1,(h.l l hl).2.1⟩⟩⟩
theorem iW {c:List Bell} (g:GoodC c):∀ b∈c,0≤b.start∧b.start≤1000:=fun b hb=>⟨(g.gb b hb).s0,(g.gb b hb).s1⟩
theorem eU {c:List Bell} (g:GoodC c):∀ b∈c,∀ l∈b.lis,1≤l.beats∧l.beats≤1000:=fun b hb l hl=>⟨((g.gb b hb).l l hl).2.1,((g.gb b hb).l l hl).2.2.1⟩
theorem jV {c:List Bell} {R:Nat→List Int} (g:GoodC c) (s:SeqR c R):∀ (n:Nat) v,v∈R n→0≤v∧v≤1000+6000 * (n:Int)
 | 0,v,hv=>by
  rw [s.1] at hv
  obtain ⟨b,hb,rfl⟩:=List.mem_map.mp hv
  have:=iW g b hb
  omega
 | n+1,v,hv=>by
  have f:=s.2 n
  have c6:=g.c6
  have ih:∀ u,some u∈(R n).map some→0≤u∧u≤1000+6000 * (n:Int):=fun u hu=>by
   obtain ⟨w,hw,e⟩:=List.mem_map.mp hu
   have:=jV g s n w hw
   have:=Option.some.inj e
   omega
  have a:=oZ f (L:=0) (fun u hu=>(ih u hu).1) (eU g) v (List.mem_map.mpr ⟨v,hv,rfl⟩)
  have b:=rn f (M:=1000+6000 * (n:Int)) (fun u hu=>(ih u hu).2) (eU g) v (List.mem_map.mpr ⟨v,hv,rfl⟩)
  omega
theorem dC {sep:Str} {ss:List Str} (hs:sep.length≤5) (hl:ss.length≤100) (h:∀ z∈ss,z.length≤1000):JoinOk sep ss=true:=by
 have h2:=StrLaws.sumLen_le _ h
 refine PyProof.Rows.joinOk_of ?_
 have:ss.length * sep.length≤100 * 5:=Nat.mul_le_mul hl hs
 have:ss.length * 1000≤100 * 1000:=Nat.mul_le_mul_right 1000 hl
 omega
theorem iE:(" ":Str).length=1:=by decide +kernel
theorem dM {n:Int} (h0:0≤n) (h1:n<2 ^ 64):(aK n).length≤1000:=by
 have e:n=((n.toNat:Nat):Int):=by omega
 rw [e,← bj,ib]
 unfold dg
 rw [List.length_map]
 have:(Nat.toDigitsCore 10 (n.toNat+1) n.toNat []).length≤0+20:=PySem.digitsCore_len_pow 10 (by decide) 20 (n.toNat+1) n.toNat [] (by decide) (by omega)
 show (Nat.toDigitsCore 10 (n.toNat+1) n.toNat []).length≤1000
 omega
theorem kr {c:List Bell} {R:Nat→List Int} (g:GoodC c) (s:SeqR c R) {f p:Nat} {d:Int} (h:Sh R f (f+p) d) (hm:f+p≤1000):0≤d∧d<2 ^ 64:=by
 have ne:R f≠[]:=fun e=>by
  have h1:=s.len f
  rw [e] at h1
  have h2:=g.c1
  have h3:c.length=0:=h1.symm
  omega
 have low:∀ t:Nat,∀ x∈R (f+t),mn (R f)≤x:=by
  intro t
  induction t with
  | zero=>exact fun x hx=>uI hx
  | succ t ih =>
   intro x hx
   exact oZ (s.2 (f+t)) (L:=mn (R f)) (fun u hu=>by
    obtain ⟨w,hw,e⟩:=List.mem_map.mp hu
    have:=ih w hw
    have:=Option.some.inj e
    omega) (eU g) x (List.mem_map.mpr ⟨x,hx,rfl⟩)
 have hin:mn (R f)+d∈R (f+p):=by
  rw [h]
  exact List.mem_map.mpr ⟨_,k6 ne,rfl⟩
 have a:=low p _ hin
 have b:=jV g s (f+p) _ hin
 have e:=jV g s f _ (k6 ne)
 omega
theorem vB {K:PySem.W.Frag} {H:Hp} {x y:Addr} {o:Option (Nat×Nat×Int)} (hne:x≠y) (hx:H x=some (.tup (Bj o))) (hy:H y=some (.tup [.str "none"])):EqH K H 1 (.ref x) (.ref y) o.isNone:=by
 cases o with
 | none =>
  have h:=EqH.tup (K:=K) (H:=H) (n:=0) (fun _=>true) hne (SqT.of hx) (SqT.of hy) fun i u v eu ev=>by
   cases i with
   | succ i=>cases ev
   | zero =>
    have e1:V.str "none"=u:=Option.some.inj eu
    have e2:V.str "none"=v:=Option.some.inj ev
    subst e1 e2
    have:=EqH.flat (K:=K) (H:=H) (n:=0) (x:=.str "none") (y:=.str "none") rfl rfl
    rw [show eqV (.str "none") (.str "none")=true by decide +kernel] at this
    exact this
  exact h
 | some z =>
  obtain ⟨f,p,d⟩:=z
  have hn:eqV (.str "round") (.str "none")=false:=by decide +kernel
  have h:=EqH.tup (K:=K) (H:=H) (n:=0) (fun _=>false) hne (SqT.of hx) (SqT.of hy) fun i u v eu ev=>by
   cases i with
   | succ i=>cases ev
   | zero =>
    have e1:V.str "round"=u:=Option.some.inj eu
    have e2:V.str "none"=v:=Option.some.inj ev
    subst e1 e2
    have:=EqH.flat (K:=K) (H:=H) (n:=0) (x:=.str "round") (y:=.str "none") rfl rfl
    rw [hn] at this
    exact this
  exact h
section
variable {P:Program} {w:World} {K:PySem.W.Frag} {mg:Str→Option Value} {base:Heap} {f:Addr} {fd:FuncData}
def iM:Sp:=fun vs H Q _=>∃ (ch:V) (c:List Bell) (i n:Nat),vs=[ch,.int (i:Int),.int (n:Int)]∧ChoirAt H ch c∧GoodC c∧i<c.length∧n≤2000∧∀ (H':Hp) (o:Option Int),Same H H'→fQ c n i o→Q (.str (n9 o)) H'
theorem mm:FnScope ["choir","bell","n","beat"] ["choir","bell","n"] (ar fO):=⟨rfl,rfl,rfl,by decide +kernel,rfl,by decide +kernel,by decide +kernel⟩
theorem sT {tS:Tok} (F:Fun K "tell_stroke" "tell_stroke" fO f fd) (B:Blt mg) (mS:mg "MOST_STROKES"=some (.int 2000 tS)) (C_beyond:Cal P w K mg base 3 "refuse_beyond_desk" ["number","least","most"] ip) (C_strokes:Cal P w K mg base 7 "strokes" ["choir","many"] eX):FnOk P w K mg base CX0 8 f fd ["choir","bell","n"] iM:=by
 refine F.ok mm (fun vs H Q E h=>?_) (fun cdv A outer s H vs Q E hr h=>?_)
 ·obtain ⟨ch,c,i,n,rfl,_⟩:=h
  rfl
 obtain ⟨ch,c,i,n,rfl,hch,g,hi,hn,q⟩:=h
 refine ⟨_,(af (bL (aH C_beyond hr (by decide) rfl (aa (pv 2) (aa ak (aa (cB (v:=.int 2000) rfl mS ⟨tS,rfl⟩) ae)))))
  (af (aB (i:=3) mm.nd rfl (Or.inl rfl) (av aE (av aE (aH C_strokes hr (by decide) rfl (aa (pv 0) (aa (pv 2) ae))) (pv 2) (fun _ _=>rfl)) (pv 1) (fun _ _=>rfl)))
  (ao (au (fo (az gu (pv 3) bG (aI _)) aG (aX cx rfl B.str_ PyProof.Rows.boot_str (aa (pv 3) ae))))))),?_⟩
 refine ⟨_,rfl,n,0,2000,rfl,by omega,by omega,?_⟩
 refine ⟨_,rfl,_,rfl,ch,c,n,rfl,hch,fX g,by omega,fun H1 t told rows s1 t0 ht prt hlr hrows=>?_⟩
 obtain ⟨row,hrow⟩:∃ row,rows[n]?=some row:=⟨_,List.getElem?_eq_getElem (show n<rows.length by omega)⟩
 obtain ⟨v,hv,x,rfl,_,hx⟩:=cI prt hrow
 have hlen:=hrows.len n _ hrow
 obtain ⟨o,hcell⟩:∃ o,row[i]?=some o:=⟨_,List.getElem?_eq_getElem (show i<row.length by omega)⟩
 refine ⟨_,rfl,t,_,_,_,rfl,rfl,SqL.of ht,a9 hv,_,rfl,x,_,_,_,rfl,rfl,SqL.of hx,a9 (by rw [List.getElem?_map,hcell]; rfl),?_⟩
 refine ⟨_,rfl,rfl,_,rfl,?_⟩
 have hs:fQ c n i o:=⟨rows,row,hrows,hlr,hrow,hcell⟩
 cases o with
 | none=>exact bc (q H1 none s1 hs)
 | some u =>
  have b:=iX hrows g.c6 (iW g) (eU g) n row hrow u (List.mem_of_getElem? hcell)
  exact bg ⟨_,rfl,.inr (.inr ⟨u,rfl,eN (by omega),q H1 (some u) s1 hs⟩)⟩
def jM:Sp:=fun vs H Q _=>∃ (ch:V) (c:List Bell),vs=[ch]∧ChoirAt H ch c∧GoodC c∧∀ (H':Hp) (now:List (Option Int)),Same H H'→Fix c (starts c) now→Q (.str (om (a8 c now))) H'
theorem oh:FnScope ["choir","names"] ["choir"] (ar gN):=⟨rfl,rfl,rfl,by decide +kernel,rfl,by decide +kernel,by decide +kernel⟩
theorem qc {c:List Bell} {now:List (Option Int)} {z:Str} (h:z∈a8 c now):∃ b∈c,b.name=z:=by
 obtain ⟨x,hx,rfl⟩:=List.mem_map.mp h
 have h1:=List.mem_of_mem_take (List.mem_filter.mp hx).1
 exact ⟨x.1,(List.of_mem_zip h1).1,rfl⟩
theorem qC {c:List Bell} (g:GoodC c) (now:List (Option Int)):JoinOk " " (a8 c now)=true:=dC (by rw [iE]; decide) (by show (cX c now c.length).length≤100; have:=fI c now c.length; have:=g.c6; omega) fun z hz=>by
 obtain ⟨b,hb,rfl⟩:=qc hz
 have:=g.len b hb
 omega
theorem vL (F:Fun K "tell_waits" "tell_waits" gN f fd) (B:Blt mg) (C_waiting:Cal P w K mg base 8 "waiting" ["choir"] gA):FnOk P w K mg base CX0 9 f fd ["choir"] jM:=by
 refine F.ok oh (fun vs H Q E h=>?_) (fun cdv A outer s H vs Q E hr h=>?_)
 ·obtain ⟨ch,c,rfl,_⟩:=h
  rfl
 obtain ⟨ch,c,rfl,hch,g,q⟩:=h
 refine ⟨_,(af (aB (i:=1) oh.nd rfl (Or.inl rfl) (aH C_waiting hr (by decide) rfl (aa (pv 0) ae)))
  (ao (au (fo (az bN (ax aL rfl B.len_ PySem.boot_len (aa (pv 1) ae)) ak (aI _)) aG (cw PySem.F.plainAttrs_str PySem.F.slot_str_join PySem.F.type_str_join eI aG (aa (pv 1) ae)))))),?_⟩
 refine ⟨_,rfl,ch,c,rfl,hch,fX g,fun H1 l now s1 l0 hl fx=>?_⟩
 have q:=q H1 now s1 fx
 have jo:=qC g now
 unfold om at q
 refine ⟨_,rfl,l,_,rfl,.inl (SqL.of hl),rfl,_,rfl,cb (fun cc=>?_) (fun cc=>?_)⟩
 ·have e:a8 c now=[]:=by
   have z:V.int ((((a8 c now).map V.str).length:Nat):Int)=V.int 0:=of_decide_eq_true cc
   injection z with z
   rw [List.length_map] at z
   exact List.length_eq_zero_iff.mp (by omega)
  rw [if_pos e] at q
  exact q
 ·have e:a8 c now≠[]:=fun z=>cc (by rw [z]; rfl)
  rw [if_neg e] at q
  exact ⟨rfl,_,rfl,_,l,_,rfl,rfl,hl,jo,q⟩
def jH:Sp:=fun vs H Q _=>∃ (ch:V) (c:List Bell) (most:Nat) (R:Nat→List Int),vs=[ch,.int (most:Int)]∧ChoirAt H ch c∧GoodC c∧1≤most∧most≤500∧qX c∧SeqR c R∧∀ (H':Hp) o,Same H H'→dz R most o→Q (.str (zM o)) H'
theorem nF:FnScope ["choir","most","told"] ["choir","most"] (ar gy):=⟨rfl,rfl,rfl,by decide +kernel,rfl,by decide +kernel,by decide +kernel⟩
theorem vW {tS:Tok} (F:Fun K "tell_round" "tell_round" gy f fd) (B:Blt mg) (mS:mg "MOST_OF_ROUND"=some (.int 500 tS)) (C_beyond:Cal P w K mg base 3 "refuse_beyond_desk" ["number","least","most"] ip) (C_round:Cal P w K mg base 10 "round_of" ["choir","most"] mQ):FnOk P w K mg base CX0 11 f fd ["choir","most"] jH:=by
 refine F.ok nF (fun vs H Q E h=>?_) (fun cdv A outer s H vs Q E hr h=>?_)
 ·obtain ⟨ch,c,most,R,rfl,_⟩:=h
  rfl
 obtain ⟨ch,c,most,R,rfl,hch,g,m1,m5,ag,sq,q⟩:=h
 refine ⟨_,(af (bL (aH C_beyond hr (by decide) rfl (aa (pv 1) (aa ak (aa (cB (v:=.int 500) rfl mS ⟨tS,rfl⟩) ae)))))
  (af (aB (i:=2) nF.nd rfl (Or.inl rfl) (aH C_round hr (by decide) rfl (aa (pv 0) (aa (pv 1) ae))))
  (ao (au (fo (az (tN hr.units) (pv 2) (dF (aa aG ae)) (aI _)) aG (cw PySem.F.plainAttrs_str PySem.F.slot_str_join PySem.F.type_str_join eI aG (aa (bz ["part"] [] [] rfl (cD (d7 An (pv 2) (fD ak) fz)) (fun _ _ _ _ _=>(ay (i:=0) (show List.Nodup [("part":Str)] by decide +kernel) rfl (Or.inl rfl))) (fun _ _ _ _ _=>bp) (fun _ _ _ _ _=>(aX cx rfl B.str_ PyProof.Rows.boot_str (aa (pv 0) ae)))) ae))))))),?_⟩
 refine ⟨_,rfl,most,1,500,rfl,by omega,by omega,?_⟩
 refine ⟨_,rfl,_,rfl,ch,c,most,R,rfl,hch,fX g,g.c1,by omega,ag,sq,fun H1 x o s1 x0 ro hx=>?_⟩
 refine ⟨_,rfl,(by show 1≤sizeLine; decide),fun y hy=>?_⟩
 have s2:=aq hy (.tup [.str "none"])
 have hy2:(upd H1 y (.tup [.str "none"])) y=some (.tup [.str "none"]):=ah
 have hne:x≠y:=aM hx hy
 have hx2:=s2 _ _ hx
 generalize upd H1 y (.tup [.str "none"])=H2 at s2 hy2 hx2 ⊢
 have s02:=s1.trans s2
 refine ⟨1,_,x,y,rfl,rfl,hne,by decide,vB hne hx2 hy2,_,rfl,?_⟩
 rw [if_neg Bool.false_ne_true]
 cases o with
 | none=>exact bc (q H2 none s02 ro)
 | some z =>
  obtain ⟨f1,p1,d1⟩:=z
  obtain ⟨k1,k2,k3,_⟩:=id ro
  obtain ⟨d0,d64⟩:=kr g sq k3 (by omega)
  refine bg ?_
  refine ⟨rfl,_,rfl,_,rfl,x,_,rfl,hx2,fun p H3 s3 hp=>?_⟩
  have hp':H3 p=some (.tup [.int (f1:Int),.int (p1:Int),.int d1]):=hp
  refine ⟨p,rfl,⟨_,SqT.of hp'⟩,fun D hD=>?_⟩
  refine bV (K:=K) (a:=p) (xs:=[.int (f1:Int),.int (p1:Int),.int d1]) (fun j ys Hx=>Same H3 Hx∧ys=(([aK (f1:Int),aK (p1:Int),aK d1].take j).map V.str)) ⟨aq hD _,rfl⟩ (fun j ys Hx _ ⟨z,_⟩=>SqT.of (z _ _ hp')) ?_ ?_
  ·rintro j y ys Hx hj ⟨sx,rfl⟩ hDx
   obtain ⟨u,rfl,hu,u0,u64⟩:∃ u:Int,y=.int u∧[aK (f1:Int),aK (p1:Int),aK d1][j]?=some (aK u)∧0≤u∧u<2 ^ 64:=by
    match j,hj with
    | 0,hj=>exact ⟨f1,(Option.some.inj hj).symm,rfl,by omega,by omega⟩
    | 1,hj=>exact ⟨p1,(Option.some.inj hj).symm,rfl,by omega,by omega⟩
    | 2,hj=>exact ⟨d1,(Option.some.inj hj).symm,rfl,d0,d64⟩
    | j+3,hj=>cases hj
   refine ⟨rfl,aW ?_⟩
   refine ⟨_,rfl,.inr (.inr ⟨u,rfl,eN (by omega),?_⟩)⟩
   refine ⟨_,hDx,?_,_,⟨sx.upd hD _,?_⟩,ah⟩
   ·have h3:[aK (f1:Int),aK (p1:Int),aK d1].length=3:=rfl
    rw [List.length_map,List.length_take,h3]
    exact aJ (by omega)
   ·rw [take_snoc hu,List.map_append]
    rfl
  ·rintro ys Hx ⟨sx,rfl⟩ hDx
   refine ⟨_,D,[aK (f1:Int),aK (p1:Int),aK d1],rfl,rfl,hDx,dC (by rw [iE]; decide) (by show 3≤100; decide) (fun z hz=>?_),q Hx (some (f1,p1,d1)) (s02.trans (s3.trans sx)) ro⟩
   rcases List.mem_cons.mp hz with rfl | hz
   ·exact dM (by omega) (by omega)
   rcases List.mem_cons.mp hz with rfl | hz
   ·exact dM (by omega) (by omega)
   rw [List.mem_singleton.mp hz]
   exact dM d0 d64
end
end K81.S
namespace K81.S
open PySem L2
theorem ifS {a b:Str} {p q:Prop} (e:a=b) (h:p):if decide (V.str a=V.str b)=true then p else q:=by
 rw [if_pos (decide_eq_true (by rw [e]))]
 exact h
theorem ifN {a b:Str} {p q:Prop} (e:a≠b) (h:q):if decide (V.str a=V.str b)=true then p else q:=by
 rw [if_neg (fun z=>e (by have z':=of_decide_eq_true z; injection z'))]
 exact h
def Askable (c:List Bell) (ws:List Str):Prop:=(∃ w,ws=[("show":Str),w]∧bJ w=true)∨(∃ w,ws=[("waits":Str),w]∧bJ w=true)∨(∃ (w:Str) (most:Nat),ws=[("round":Str),w,aK (most:Int)]∧bJ w=true∧1≤most∧most≤500∧qX c∧∃ R,SeqR c R)∨
 ∃ (w:Str) (i n:Nat) (b:Bell),ws=[("stroke":Str),w,b.name,aK (n:Int)]∧bJ w=true∧c[i]?=some b∧n≤1000
def Ans (c:List Bell) (ws:List Str) (z:Str):Prop:=(∃ w,ws=[("show":Str),w]∧z=Txt.join "; " (c.map (nz (c.map (·.name)))))∨(∃ w now,ws=[("waits":Str),w]∧Fix c (starts c) now∧z=om (a8 c now))∨
 (∃ (w:Str) (most:Nat) (R:Nat→List Int) (o:Option (Nat×Nat×Int)),ws=[("round":Str),w,aK (most:Int)]∧most≤500∧SeqR c R∧dz R most o∧z=zM o)∨∃ (w:Str) (i n:Nat) (b:Bell) (o:Option Int),ws=[("stroke":Str),w,b.name,aK (n:Int)]∧n≤1000∧c[i]?=some b∧fQ c n i o∧z=n9 o
theorem p5:("; ":Str).length=2:=by decide +kernel
theorem zD {c:List Bell} (g:GoodC c):∀ z∈c.map (nz (c.map (·.name))),z.length≤140:=fun z hz=>by
 obtain ⟨b,hb,rfl⟩:=List.mem_map.mp hz
 exact Aa (g.gb b hb) (by rw [List.length_map]; exact Nat.le_refl _) (fun x hx=>by obtain ⟨b',hb',rfl⟩:=List.mem_map.mp hx; exact g.len b' hb') (g.len b hb)
theorem nT {zs:List Str} (h:∀ z∈zs,z.length≤140) (h6:zs.length≤6):JoinOk "; " zs=true:=dC (by rw [p5]; decide) (by omega) fun z hz=>by have:=h z hz; omega
section
variable {P:Program} {w:World} {K:PySem.W.Frag} {mg:Str→Option Value} {base:Heap} {f:Addr} {fd:FuncData}
def oW:Sp:=fun vs H Q _=>∃ (ch:V) (c:List Bell) (l:Addr) (ws:List Str),vs=[ch,.ref l]∧ChoirAt H ch c∧GoodC c∧H l=some (.lst (ws.map V.str))∧Askable c ws∧∀ (H':Hp) z,Same H H'→Ans c ws z→Q (.str z) H'
theorem uy:FnScope ["choir","words","bell"] ["choir","words"] (ar j8):=⟨rfl,rfl,rfl,by decide +kernel,rfl,by decide +kernel,by decide +kernel⟩
theorem Aw (F:Fun K "tell_of" "tell_of" j8 f fd) (B:Blt mg) (C_show:Cal P w K mg base 9 "show_choir" ["choir"] pV) (C_twaits:Cal P w K mg base 9 "tell_waits" ["choir"] jM) (C_tround:Cal P w K mg base 11 "tell_round" ["choir","most"] jH) (C_place:Cal P w K mg base 1 "place_of" ["choir","name"] mw) (C_tstroke:Cal P w K mg base 8 "tell_stroke" ["choir","bell","n"] iM) :
  FnOk P w K mg base CX0 12 f fd ["choir","words"] oW:=by
 refine F.ok uy (fun vs H Q E h=>?_) (fun cdv A outer s H vs Q E hr h=>?_)
 ·obtain ⟨ch,c,l,ws,rfl,_⟩:=h
  rfl
 obtain ⟨ch,c,l,ws,rfl,hch,g,hl,ask,q⟩:=h
 refine ⟨_,(af (aP (az bN (av aE (pv 1) ak (fun _ _=>rfl)) aG (aI _))
  (ao (au (cw PySem.F.plainAttrs_str PySem.F.slot_str_join PySem.F.type_str_join eI aG (aa (aH C_show hr (by decide) rfl (aa (pv 0) ae)) ae))))
  aw)
  (af (aP (az bN (av aE (pv 1) ak (fun _ _=>rfl)) aG (aI _))
  (ao (au (aH C_twaits hr (by decide) rfl (aa (pv 0) ae))))
  aw)
  (af (aP (az bN (av aE (pv 1) ak (fun _ _=>rfl)) aG (aI _))
  (ao (au (aH C_tround hr (by decide) rfl (aa (pv 0) (aa (aX fP rfl B.int_ PyProof.Rows.boot_int (aa (av aE (pv 1) ak (fun _ _=>rfl)) ae)) ae)))))
  aw)
  (af (aB (i:=2) uy.nd rfl (Or.inl rfl) (aH C_place hr (by decide) rfl (aa (pv 0) (aa (av aE (pv 1) ak (fun _ _=>rfl)) ae))))
  (af (aP (az bN (av aE (pv 1) ak (fun _ _=>rfl)) aG (aI _))
  (ao (au (aH C_tstroke hr (by decide) rfl (aa (pv 0) (aa (pv 2) (aa (aX fP rfl B.int_ PyProof.Rows.boot_int (aa (av aE (pv 1) ak (fun _ _=>rfl)) ae)) ae))))))
  aw)
  bf))))),?_⟩
 have T0:SqL K H l (ws.map V.str):=SqL.of hl
 rcases ask with ⟨w',rfl,hw⟩ | ⟨w',rfl,hw⟩ | ⟨w',most,rfl,hw,m1,m5,ag,R,sq⟩ | ⟨w',i,n,b,rfl,hw,hb,hn⟩
 ·refine ⟨_,rfl,l,_,_,_,rfl,rfl,T0,rfl,rfl,_,rfl,ifS rfl ?_⟩
  refine ⟨rfl,_,rfl,ch,c,rfl,hch,g.c6,g.len,g.gb,fun H1 p s1 p0 hp=>?_⟩
  exact ⟨_,p,_,rfl,rfl,hp,nT (zD g) (by rw [List.length_map]; exact g.c6),q H1 _ s1 (.inl ⟨w',rfl,rfl⟩)⟩
 ·refine ⟨_,rfl,l,_,_,_,rfl,rfl,T0,rfl,rfl,_,rfl,ifN (by decide +kernel) ?_⟩
  refine ⟨_,rfl,l,_,_,_,rfl,rfl,T0,rfl,rfl,_,rfl,ifS rfl ?_⟩
  exact ⟨_,rfl,ch,c,rfl,hch,g,fun H1 now s1 fx=>q H1 _ s1 (.inr (.inl ⟨w',now,rfl,fx,rfl⟩))⟩
 ·refine ⟨_,rfl,l,_,_,_,rfl,rfl,T0,rfl,rfl,_,rfl,ifN (by decide +kernel) ?_⟩
  refine ⟨_,rfl,l,_,_,_,rfl,rfl,T0,rfl,rfl,_,rfl,ifN (by decide +kernel) ?_⟩
  refine ⟨_,rfl,l,_,_,_,rfl,rfl,T0,rfl,rfl,_,rfl,ifS rfl ?_⟩
  have nl:=dr (show most<1001 by omega)
  refine ⟨_,rfl,_,rfl,l,_,_,_,rfl,rfl,T0,rfl,aK (most:Int),most,rfl,by omega,eP (by omega),?_⟩
  exact ⟨ch,c,most,R,rfl,hch,g,m1,m5,ag,sq,fun H1 o s1 ro=>q H1 _ s1 (.inr (.inr (.inl ⟨w',most,R,o,rfl,m5,sq,ro,rfl⟩)))⟩
 ·refine ⟨_,rfl,l,_,_,_,rfl,rfl,T0,rfl,rfl,_,rfl,ifN (by decide +kernel) ?_⟩
  refine ⟨_,rfl,l,_,_,_,rfl,rfl,T0,rfl,rfl,_,rfl,ifN (by decide +kernel) ?_⟩
  refine ⟨_,rfl,l,_,_,_,rfl,rfl,T0,rfl,rfl,_,rfl,ifN (by decide +kernel) ?_⟩
  refine ⟨_,rfl,_,rfl,l,_,_,_,rfl,rfl,T0,rfl,ch,c,i,b,rfl,hch,g.c6,hb,g.nd,fun H1 s1=>?_⟩
  have T1:SqL K H1 l ([("stroke":Str),w',b.name,aK (n:Int)].map V.str):=SqL.of (s1 _ _ hl)
  refine ⟨_,rfl,l,_,_,_,rfl,rfl,T1,rfl,rfl,_,rfl,ifS rfl ?_⟩
  have nl:=dr (show n<1001 by omega)
  refine ⟨_,rfl,_,rfl,_,rfl,l,_,_,_,rfl,rfl,T1,rfl,aK (n:Int),n,rfl,by omega,eP (by omega),?_⟩
  exact ⟨ch,c,i,n,rfl,hch.mono (Same.tup s1),g,(List.getElem?_eq_some_iff.mp hb).1,by omega,fun H2 o s2 so=>q H2 _ (s1.trans s2) (.inr (.inr (.inr ⟨w',i,n,b,o,rfl,hn,hb,so,rfl⟩)))⟩
structure DeskC (K:PySem.W.Frag) (C fi fs ft fk fc:Addr):Prop where
 cl:Cls K C
 nS:NoAttr K C "stands"
 mks:Mk K C fi
 say:Meth K C "say" fs
 std:Meth K C "standing" ft
 kp:Meth K C "keep" fk
 chr:Meth K C "say_choir" fc
def DeskAt (C:Addr) (H:Hp) (D d:Addr) (kvs:List (Key×V)):Prop:=(∃ dx,H D=some (.ins C dx [("stands",.ref d)]))∧H d=some (.dK kvs)
theorem DeskAt.same {C:Addr} {H H':Hp} {D d:Addr} {kvs:List (Key×V)} (h:DeskAt C H D d kvs) (s:Same H H'):DeskAt C H' D d kvs:=by
 obtain ⟨⟨dx,h1⟩,h2⟩:=h
 exact ⟨⟨dx,s _ _ h1⟩,s _ _ h2⟩
def k9 (K:PySem.W.Frag):Sp:=fun vs H Q _=>∃ (p C dx:Addr),vs=[.ref p]∧H p=some (.ins C dx [])∧Cls K C∧NoAttr K C "stands"∧∀ d,H d=none→Q .non (upd (upd H d (.dK [])) p (.ins C dx [("stands",.ref d)]))
theorem xU:FnScope ["self"] ["self"] (ar oU):=⟨rfl,rfl,rfl,by decide +kernel,rfl,by decide +kernel,by decide +kernel⟩
theorem yo (F:Fun K "__init__" "Desk.__init__" oU f fd):FnOk P w K mg base CX0 1 f fd ["self"] (k9 K):=by
 refine F.ok xU (fun vs H Q E h=>?_) (fun cdv A outer s H vs Q E hr h=>?_)
 ·obtain ⟨p,C,dx,rfl,_⟩:=h
  rfl
 obtain ⟨p,C,dx,rfl,hp,cl,na,q⟩:=h
 refine ⟨_,(ao (rM (pv 0) xk rfl)),?_⟩
 intro d hd
 have ne:p≠d:=aM hp hd
 exact ⟨_,rfl,p,C,dx,[],rfl,by rw [aC ne]; exact hp,cl,na,(by show 0<1000; decide),q d hd⟩
def m8 (C:Addr):Sp:=fun vs H Q _=>∃ (D d:Addr) (kvs:List (Key×V)) (w:Str) (v:V),vs=[.ref D,.str w]∧DeskAt C H D d kvs∧cm kvs (Sum.inr w)=some v∧Q v H
theorem yU:FnScope ["self","word"] ["self","word"] (ar gW):=⟨rfl,rfl,rfl,by decide +kernel,rfl,by decide +kernel,by decide +kernel⟩
theorem xj {C fi fs ft fk fc:Addr} (F:Fun K "standing" "Desk.standing" gW f fd) (O:DeskC K C fi fs ft fk fc):FnOk P w K mg base CX0 1 f fd ["self","word"] (m8 C):=by
 refine F.ok yU (fun vs H Q E h=>?_) (fun cdv A outer s H vs Q E hr h=>?_)
 ·obtain ⟨D,d,kvs,w',v,rfl,_⟩:=h
  rfl
 obtain ⟨D,d,kvs,w',v,rfl,⟨⟨dx,hD⟩,hd⟩,hv,q⟩:=h
 refine ⟨_,(af (aP (tG (u9 (oj hr) (pv 1) (j1 (pv 0) rfl)))
  bf
  aw)
  (ao (au (uk (oj hr) (j1 (pv 0) rfl) (pv 1) (fun _ _=>rfl))))),?_⟩
 have dg:DGet H d (kV (Sum.inr w')) (some v):=by rw [← hv]; exact DGet.k hd
 refine ⟨_,rfl,_,rfl,D,C,dx,_,_,rfl,hD,O.cl,O.nS,rfl,d,some v,rfl,dg,_,rfl,bg ?_⟩
 exact ⟨_,rfl,D,C,dx,_,_,rfl,hD,O.cl,O.nS,rfl,_,rfl,d,v,rfl,dg,q⟩
def pN (C:Addr):Sp:=fun vs H Q _=>∃ (D d:Addr) (kvs:List (Key×V)) (w:Str) (v:V),vs=[.ref D,.str w,v]∧DeskAt C H D d kvs∧kvs.length≤900∧Q (.str "ok") (upd H d (.dK (putK kvs (Sum.inr w) v)))
theorem Ad:FnScope ["self","word","choir"] ["self","word","choir"] (ar pP):=⟨rfl,rfl,rfl,by decide +kernel,rfl,by decide +kernel,by decide +kernel⟩
theorem Az {C fi fs ft fk fc:Addr} (F:Fun K "keep" "Desk.keep" pP f fd) (O:DeskC K C fi fs ft fk fc):FnOk P w K mg base CX0 1 f fd ["self","word","choir"] (pN C):=by
 refine F.ok Ad (fun vs H Q E h=>?_) (fun cdv A outer s H vs Q E hr h=>?_)
 ·obtain ⟨D,d,kvs,w',v,rfl,_⟩:=h
  rfl
 obtain ⟨D,d,kvs,w',v,rfl,⟨⟨dx,hD⟩,hd⟩,hl,q⟩:=h
 refine ⟨_,(af (ur (oj hr) (j1 (pv 0) rfl) (pv 1) (pv 2) rfl)
  (ao (au aG))),?_⟩
 exact ⟨_,rfl,_,rfl,D,C,dx,_,_,rfl,hD,O.cl,O.nS,rfl,_,rfl,d,_,rfl,DPut.k (k:=Sum.inr w') hd (by rw [sizeLine_eq]; omega),q⟩
structure Readable (zs:List Str) (cc:List Bell):Prop where
 n1:1≤zs.length
 n6:zs.length≤6
 short:∀ z∈zs,z.length≤140
 free:∀ z∈zs,59∉z.cps.toList
 good:∀ i z,zs[i]?=some z→nU (gk (zs.map eD) z) ((zs.map eD).take i) zs.length=true
 told:zs.map (gk (zs.map eD))=cc.map kA
theorem xV:("; ":Str).cps.toList=59::[32]:=by decide +kernel
theorem wj:Builtin.Str.strKind ("; ":Str)=1:=by decide +kernel
theorem Readable.split {zs:List Str} {cc:List Bell} (h:Readable zs cc):Txt.split (Txt.join "; " zs) "; "=zs:=sW xV wj (sM "; " zs) (fun e=>by have:=h.n1; rw [e] at this; exact absurd this (by decide)) h.free
theorem Readable.len {zs:List Str} {cc:List Bell} (h:Readable zs cc):(Txt.join "; " zs).length≤1000:=by
 have h2:=StrLaws.sumLen_le _ h.short
 have h4:=StrLaws.join_length_le "; " zs
 have e2:Txt.join "; " zs=Str.join "; " zs:=StrLaws.glued_eq_join _ _
 have n6:=h.n6
 rw [e2]
 rw [p5] at h4
 omega
def jY (C:Addr):Sp:=fun vs H Q _=>∃ (D d l:Addr) (kvs:List (Key×V)) (p w:Str) (zs:List Str) (cc:List Bell),vs=[.ref D,.ref l]∧DeskAt C H D d kvs∧kvs.length≤900∧H l=some (.lst [.str p,.str w,.str (Txt.join "; " zs)])∧bJ w=true∧Readable zs cc∧
 ∀ H' v,But d H H'→H' d=some (.dK (putK kvs (Sum.inr w) v))→ChoirAt H' v cc→Q (.str "ok") H'
theorem vV:FnScope ["self","parts"] ["self","parts"] (ar gD):=⟨rfl,rfl,rfl,by decide +kernel,rfl,by decide +kernel,by decide +kernel⟩
theorem gc {z:Str} (h:bJ z=true):z.length≤8:=by
 have h':(decide (1≤z.length) && decide (z.length≤8) && z.cps.toList.all fE)=true:=h
 rw [Bool.and_eq_true,Bool.and_eq_true] at h'
 exact of_decide_eq_true h'.1.2
theorem vg {C fi fs ft fk fc:Addr} {dk:FuncData} (F:Fun K "say_choir" "Desk.say_choir" gD f fd) (B:Blt mg) (O:DeskC K C fi fs ft fk fc) (GK:FnOk P w K mg base CX0 1 fk dk ["self","word","choir"] (pN C)) (bK:Binds K dk ["self","word","choir"] []) (C_word:Cal P w K mg base 1 "is_word" ["thing"] i4) (C_read:Cal P w K mg base 8 "read_choir" ["rows"] oQ) :
  FnOk P w K mg base CX0 9 f fd ["self","parts"] (jY C):=by
 refine F.ok vV (fun vs H Q E h=>?_) (fun cdv A outer s H vs Q E hr h=>?_)
 ·obtain ⟨D,d,l,kvs,p,w',zs,cc,rfl,_⟩:=h
  rfl
 obtain ⟨D,d,l,kvs,p,w',zs,cc,rfl,dk0,kl,hl,hw,rd,q⟩:=h
 have hr1:Room 1 _:=hr.mono (by decide)
 refine ⟨_,(af (aP (PW.pt (ie (az lI (ax aL rfl B.len_ PySem.boot_len (aa (pv 1) ae)) ak (aI _)) (e7 (bQ (bD (aH C_word hr (by decide) rfl (aa (av aE (pv 1) ak (fun _ _=>rfl)) ae)))))))
  bf
  aw)
  (ao (au (cu (pv 0) GK hr1 bK .nil cj (aa (av aE (pv 1) ak (fun _ _=>rfl)) (aa (aH C_read hr (by decide) rfl (aa (cw PySem.F.plainAttrs_str PySem.F.slot_str_split PySem.F.type_str_split jc (av aE (pv 1) ak (fun _ _=>rfl)) (aa aG ae)) ae)) ae)))))),?_⟩
 have T0:SqL K H l [.str p,.str w',.str (Txt.join "; " zs)]:=SqL.of hl
 refine ⟨_,rfl,l,_,rfl,.inl T0,_,_,rfl,rfl,_,rfl,bg ?_⟩
 have w8:=gc hw
 refine ⟨_,rfl,l,_,_,_,rfl,rfl,T0,rfl,.str w',.str w',rfl,⟨rfl,by omega⟩,fun H1 s1=>?_⟩
 have ew:nZ (.str w')=true:=hw
 rw [ew]
 refine ⟨_,rfl,bg ?_⟩
 obtain ⟨⟨dx,hD⟩,hd⟩:=id dk0
 have T1:SqL K H1 l [.str p,.str w',.str (Txt.join "; " zs)]:=SqL.of (s1 _ _ hl)
 refine ⟨_,rfl,C,D,dx,_,rfl,s1 _ _ hD,O.cl,O.kp,rfl,?_⟩
 refine ⟨_,rfl,l,_,_,_,rfl,rfl,T1,rfl,?_⟩
 have jl:=rd.len
 refine ⟨_,rfl,l,_,_,_,rfl,rfl,T1,rfl,rfl,Txt.join "; " zs,"; ",rfl,rfl,(by decide +kernel),by omega,fun p2 hp2=>?_⟩
 rw [rd.split]
 have s2:=aq hp2 (.lst (zs.map V.str))
 refine ⟨p2,zs,rfl,ah,rd.n1,rd.n6,fun z hz=>by have:=rd.short z hz; omega,rd.good,fun H3 v s3 th=>?_⟩
 rw [rd.told] at th
 have s13:=s1.trans (s2.trans s3)
 have hd3:=s13 _ _ hd
 have hch:=qd th
 refine ⟨D,d,kvs,w',v,rfl,dk0.same s13,kl,?_⟩
 refine q _ v (fun a o ne e=>by rw [aC ne]; exact s13 _ _ e) ah (hch.mono fun b xs e=>?_)
 rw [aC (iH e hd3 (by intro z; cases z))]
 exact e
def D7 (C:Addr) (H:Hp) (d:Addr) (kvs:List (Key×V)) (z:Str) (Q:VK):Prop :=
 (∃ (w:Str) (zs:List Str) (cc:List Bell),z.cps.toList=("choir":Str).cps.toList++32::(w.cps.toList++32::(Txt.join "; " zs).cps.toList)∧bJ w=true∧Readable zs cc∧∀ H' v,But d H H'→H' d=some (.dK (putK kvs (Sum.inr w) v))→ChoirAt H' v cc→Q (.str "ok") H')∨
 ∃ (ws:List Str) (w:Str) (v:V) (c:List Bell),z.cps.toList=jn 32 (ws.map fun x=>x.cps.toList)∧ws[1]?=some w∧cm kvs (Sum.inr w)=some v∧ChoirAt H v c∧GoodC c∧Askable c ws∧∀ (H':Hp) x,Same H H'→Ans c ws x→Q (.str x) H'
def sY (C:Addr):Sp:=fun vs H Q _=>∃ (D d:Addr) (kvs:List (Key×V)) (z:Str),vs=[.ref D,.str z]∧DeskAt C H D d kvs∧kvs.length≤900∧z.length≤3000∧D7 C H d kvs z Q
theorem xg:FnScope ["self","row","words"] ["self","row"] (ar sd):=⟨rfl,rfl,rfl,by decide +kernel,rfl,by decide +kernel,by decide +kernel⟩
theorem gf {z:Str} (h:bJ z=true):32∉z.cps.toList:=fun q=>by
 have:=dI h 32 q
 omega
theorem q0 {n:Nat} (h:n<1001):32∉(aK (n:Int)).cps.toList:=fun q=>by
 have:=jh h 32 q
 omega
theorem A7 {m:Nat} (h:m<1001):eC (aK (m:Int)) 4=true:=by
 have h9:=qB h
 have hl:=dr h
 unfold eC at h9 ⊢
 rw [Bool.and_eq_true,Bool.and_eq_true,Bool.and_eq_true] at h9 ⊢
 exact ⟨⟨⟨h9.1.1.1,decide_eq_true (by omega)⟩,h9.1.2⟩,h9.2⟩
theorem Askable.words {c:List Bell} (g:GoodC c) {ws:List Str} (h:Askable c ws):∃ h0 fm,ws[0]?=some h0∧cm jR (Sum.inr h0)=some (.str fm)∧h0≠"choir"∧h0≠"drop"∧h0≠"slow"∧h0≠"join"∧h0≠"alike"∧uv fm ws∧ws.length≤100∧ws≠[]∧∀ z∈ws,32∉z.cps.toList:=by
 have bw:∀ {i:Nat} {b:Bell},c[i]?=some b→bJ b.name=true:=fun hb=>g.wd _ (List.mem_of_getElem? hb)
 rcases h with ⟨w',rfl,hw⟩ | ⟨w',rfl,hw⟩ | ⟨w',most,rfl,hw,m1,m5,_⟩ | ⟨w',i,n,b,rfl,hw,hb,hn⟩
 ·refine ⟨"show","c",rfl,by rfl,by decide +kernel,by decide +kernel,by decide +kernel,by decide +kernel,by decide +kernel,⟨rfl,by decide +kernel,fun i c z hc hz=>?_⟩,by show 2≤100; decide,List.cons_ne_nil _ _,?_⟩
  ·match i,hc,hz with
   | 0,hc,hz=>cases hc; cases hz; exact ⟨by have:=gc hw; omega,fun e=>absurd e (by decide),fun _=>hw⟩
   | i+1,hc,hz=>cases hz
  ·intro z hz
   rcases List.mem_cons.mp hz with rfl | hz
   ·decide +kernel
   rw [List.mem_singleton.mp hz]
   exact gf hw
 ·refine ⟨"waits","c",rfl,by rfl,by decide +kernel,by decide +kernel,by decide +kernel,by decide +kernel,by decide +kernel,⟨rfl,by decide +kernel,fun i c z hc hz=>?_⟩,by show 2≤100; decide,List.cons_ne_nil _ _,?_⟩
  ·match i,hc,hz with
   | 0,hc,hz=>cases hc; cases hz; exact ⟨by have:=gc hw; omega,fun e=>absurd e (by decide),fun _=>hw⟩
   | i+1,hc,hz=>cases hz
  ·intro z hz
   rcases List.mem_cons.mp hz with rfl | hz
   ·decide +kernel
   rw [List.mem_singleton.mp hz]
   exact gf hw
 ·have nl:=dr (show most<1001 by omega)
  refine ⟨"round","cn",rfl,by rfl,by decide +kernel,by decide +kernel,by decide +kernel,by decide +kernel,by decide +kernel,⟨rfl,by decide +kernel,fun i c z hc hz=>?_⟩,by show 3≤100; decide,List.cons_ne_nil _ _,?_⟩
  ·match i,hc,hz with
   | 0,hc,hz=>cases hc; cases hz; exact ⟨by have:=gc hw; omega,fun e=>absurd e (by decide),fun _=>hw⟩
   | 1,hc,hz=>cases hc; cases hz; exact ⟨by omega,fun _=>A7 (by omega),fun e=>absurd rfl e⟩
   | i+2,hc,hz=>cases hz
  ·intro z hz
   rcases List.mem_cons.mp hz with rfl | hz
   ·decide +kernel
   rcases List.mem_cons.mp hz with rfl | hz
   ·exact gf hw
   rw [List.mem_singleton.mp hz]
   exact q0 (by omega)
 ·have nl:=dr (show n<1001 by omega)
  have hbw:=bw hb
  refine ⟨"stroke","cbn",rfl,by rfl,by decide +kernel,by decide +kernel,by decide +kernel,by decide +kernel,by decide +kernel,⟨rfl,by decide +kernel,fun i c z hc hz=>?_⟩,by show 4≤100; decide,List.cons_ne_nil _ _,?_⟩
  ·match i,hc,hz with
   | 0,hc,hz=>cases hc; cases hz; exact ⟨by have:=gc hw; omega,fun e=>absurd e (by decide),fun _=>hw⟩
   | 1,hc,hz=>cases hc; cases hz; exact ⟨by have:=gc hbw; omega,fun e=>absurd e (by decide),fun _=>hbw⟩
   | 2,hc,hz=>cases hc; cases hz; exact ⟨by omega,fun _=>A7 (by omega),fun e=>absurd rfl e⟩
   | i+3,hc,hz=>cases hz
  ·intro z hz
   rcases List.mem_cons.mp hz with rfl | hz
   ·decide +kernel
   rcases List.mem_cons.mp hz with rfl | hz
   ·exact gf hw
   rcases List.mem_cons.mp hz with rfl | hz
   ·exact gf hbw
   rw [List.mem_singleton.mp hz]
   exact q0 (by omega)
theorem lZ:32∉("choir":Str).cps.toList:=by decide +kernel
theorem qF {z:Str} {r:List Nat} (h:z.cps.toList=("choir":Str).cps.toList++32::r):∃ ws,Txt.split z " "=("choir":Str)::ws:=by
 refine ⟨Txt.split ⟨r.toArray⟩ ⟨#[32]⟩,?_⟩
 rw [pf]
 have j:=StrLaws.join_split (⟨r.toArray⟩:Str) ⟨#[32]⟩
 have p:=PyProof.Rows.split_pos (⟨r.toArray⟩:Str) ⟨#[32]⟩
 have e:=congrArg (fun s:Str=>s.cps.toList) j
 rw [iB] at e
 refine iN ?_ (List.cons_ne_nil _ _) fun x hx=>?_
 ·rw [h]
  cases hs:Txt.split (⟨r.toArray⟩:Str) ⟨#[32]⟩ with
  | nil=>rw [hs] at p; exact absurd p (by decide)
  | cons y ys =>
   rw [hs] at e
   show _=("choir":Str).cps.toList++32::jn 32 ((y::ys).map fun x=>x.cps.toList)
   rw [e]
 ·rcases List.mem_cons.mp hx with rfl | hx
  ·exact lZ
  ·exact StrLaws.split_free _ 32 x hx
theorem CA {C fi fs ft fk fc:Addr} {dt dc:FuncData} (F:Fun K "say" "Desk.say" sd f fd) (B:Blt mg) (O:DeskC K C fi fs ft fk fc) (GT:FnOk P w K mg base CX0 1 ft dt ["self","word"] (m8 C)) (bT:Binds K dt ["self","word"] []) (GC:FnOk P w K mg base CX0 9 fc dc ["self","parts"] (jY C)) (bC:Binds K dc ["self","parts"] [])
  (C_rww:Cal P w K mg base 2 "refuse_wrong_words" ["words"] tD) (C_tell:Cal P w K mg base 12 "tell_of" ["choir","words"] oW):FnOk P w K mg base CX0 13 f fd ["self","row"] (sY C):=by
 refine F.ok xg (fun vs H Q E h=>?_) (fun cdv A outer s H vs Q E hr h=>?_)
 ·obtain ⟨D,d,kvs,z,rfl,_⟩:=h
  rfl
 obtain ⟨D,d,kvs,z,rfl,dk0,kl,zl,sy⟩:=h
 have hr1:Room 1 _:=hr.mono (by decide)
 have hr9:Room 9 _:=hr.mono (by decide)
 refine ⟨_,(af (aP (bQ (bD (ax (ck "str") rfl B.isinstance_ PyProof.Rows.boot_isinstance (aa (pv 1) (aa (cJ (v:=.ty "str") rfl B.str_ PyProof.Rows.boot_str rfl) ae)))))
  bf
  aw)
  (af (aB (i:=2) xg.nd rfl (Or.inl rfl) (cw PySem.F.plainAttrs_str PySem.F.slot_str_split PySem.F.type_str_split jc (pv 1) (aa aG ae)))
  (af (aP (az bN (av aE (pv 2) ak (fun _ _=>rfl)) aG (aI _))
  (ao (au (cu (pv 0) GC hr9 bC .nil cj (aa (cw PySem.F.plainAttrs_str PySem.F.slot_str_split PySem.F.type_str_split vj (pv 1) (aa aG (aa ak ae))) ae))))
  aw)
  (af (bL (aH C_rww hr (by decide) rfl (aa (pv 2) ae)))
  (af (aP (az bN (av aE (pv 2) ak (fun _ _=>rfl)) aG (aI _))
  bf
  aw)
  (af (aP (az bN (av aE (pv 2) ak (fun _ _=>rfl)) aG (aI _))
  bf
  aw)
  (af (aP (az bN (av aE (pv 2) ak (fun _ _=>rfl)) aG (aI _))
  bf
  aw)
  (af (aP (az bN (av aE (pv 2) ak (fun _ _=>rfl)) aG (aI _))
  bf
  aw)
  (ao (au (aH C_tell hr (by decide) rfl (aa (cu (pv 0) GT hr1 bT .nil cj (aa (av aE (pv 2) ak (fun _ _=>rfl)) ae)) (aa (pv 2) ae))))))))))))),?_⟩
 obtain ⟨⟨dx,hD⟩,hd⟩:=id dk0
 refine ⟨_,rfl,_,_,_,rfl,.str z,hZ K,_,rfl,bg ?_⟩
 refine ⟨_,rfl,rfl,z," ",rfl,rfl,(by decide +kernel),by omega,fun l hl=>?_⟩
 have s1:=aq hl (.lst ((Txt.split z " ").map V.str))
 have hL:(upd H l (.lst ((Txt.split z " ").map V.str))) l=some (.lst ((Txt.split z " ").map V.str)):=ah
 generalize upd H l (.lst ((Txt.split z " ").map V.str))=H1 at s1 hL ⊢
 rcases sy with ⟨w',zs,cc,ez,hw,rd,q⟩ | ⟨ws,w',v,c,ez,e1,hv,hch,g,ask,q⟩
 ·obtain ⟨ws,ew⟩:=qF ez
  rw [ew] at hL
  refine ⟨_,rfl,l,_,_,_,rfl,rfl,SqL.of hL,eK rfl,rfl,_,rfl,ifS rfl ?_⟩
  refine ⟨_,rfl,C,D,dx,_,rfl,s1 _ _ hD,O.cl,O.chr,rfl,?_⟩
  refine ⟨_,rfl,rfl,z,"choir",w',Txt.join "; " zs,rfl,rfl,ez,lZ,gf hw,by omega,fun p hp=>?_⟩
  have s2:=aq hp (.lst [.str "choir",.str w',.str (Txt.join "; " zs)])
  have s12:=s1.trans s2
  refine ⟨D,d,p,kvs,"choir",w',zs,cc,rfl,dk0.same s12,kl,ah,hw,rd,fun H' v b hd' hc'=>?_⟩
  exact q H' v (fun a o ne e=>b a o ne (s12 _ _ e)) hd' hc'
 ·obtain ⟨h0,fm,a0,fv,n1,n2,n3,n4,n5,wok,w100,wne,fr⟩:=ask.words g
  have esp:Txt.split z " "=ws:=by rw [pf]; exact iN ez wne fr
  rw [esp] at hL
  have T1:SqL K H1 l (ws.map V.str):=SqL.of hL
  refine ⟨_,rfl,l,_,_,_,rfl,rfl,T1,eK a0,rfl,_,rfl,ifN n1 ?_⟩
  refine ⟨_,rfl,l,ws,h0,fm,rfl,hL,a0,fv,n5,wok,w100,fun H2 s2=>?_⟩
  have s12:=s1.trans s2
  have T2:SqL K H2 l (ws.map V.str):=SqL.of (s2 _ _ hL)
  refine ⟨_,rfl,l,_,_,_,rfl,rfl,T2,eK a0,rfl,_,rfl,ifN n2 ?_⟩
  refine ⟨_,rfl,l,_,_,_,rfl,rfl,T2,eK a0,rfl,_,rfl,ifN n3 ?_⟩
  refine ⟨_,rfl,l,_,_,_,rfl,rfl,T2,eK a0,rfl,_,rfl,ifN n4 ?_⟩
  refine ⟨_,rfl,l,_,_,_,rfl,rfl,T2,eK a0,rfl,_,rfl,ifN n5 ?_⟩
  refine ⟨_,rfl,C,D,dx,_,rfl,s12 _ _ hD,O.cl,O.std,rfl,?_⟩
  refine ⟨_,rfl,l,_,_,_,rfl,rfl,T2,a9 (j:=1) (by rw [List.getElem?_map,e1]; rfl),?_⟩
  refine ⟨D,d,kvs,w',v,rfl,dk0.same s12,hv,?_⟩
  exact ⟨_,rfl,v,c,l,ws,rfl,hch.mono (Same.tup s12),g,s2 _ _ hL,ask,fun H3 x s3 an=>q H3 x (s12.trans s3) an⟩
end
end K81.S
namespace L2
open PySem PySem.Spec PyProof.Rows
def w4 (xs:List V) (z:Str):Prop:=(∃ y,xs=[.str y]∧z=y)∨∃ i:Int,xs=[.int i]∧i.natAbs.log2<1920∧z=toString i
theorem vb {X:Cx}:cT X (.type "str") (fun xs H Q=>∃ z,w4 xs z∧Q (.str z) H):=by
 intro pins s σ H xs us Q I r h
 obtain ⟨z,h | h,q⟩:=h
 ·obtain ⟨y,e,rfl⟩:=h
  exact cx pins s σ H xs us Q I r (.inr (.inl ⟨_,e,q⟩))
 ·obtain ⟨i,e,l,rfl⟩:=h
  exact cx pins s σ H xs us Q I r (.inr (.inr ⟨_,e,l,q⟩))
end L2
namespace K81.S
open PySem L2
theorem zx (names:List Str) (l:Lis):names.getD l.whom Str.empty++"+"++aK l.beats++eg l=c5 names l:=cZ (by
 unfold c5
 simp only [bB]
 rfl)
def gQ (c:List Bell):List Str:=c.map fun b=>iQ (c.map (·.name)) b (rwS b.rule)
theorem rC {c:List Bell} (g:GoodC c):∀ z∈gQ c,z.length≤140:=fun z hz=>by
 obtain ⟨b,hb,rfl⟩:=List.mem_map.mp hz
 have gb:=g.gb b hb
 exact t4 (rR gb.r (by have:=gb.n6; omega)) gb (by rw [List.length_map]; exact Nat.le_refl _) (fun x hx=>by obtain ⟨b',hb',rfl⟩:=List.mem_map.mp hx; exact g.len b' hb') (g.len b hb)
theorem Cb {n:Nat} {r:RW} (h:GoodR n r) (hn:n≤1000):w4 [rwV r] (rwS r):=by
 cases r with
 | all=>exact .inl ⟨_,rfl,rfl⟩
 | any=>exact .inl ⟨_,rfl,rfl⟩
 | num i =>
  have h':1≤i∧i≤(n:Int):=h
  exact .inr ⟨i,rfl,eM (by omega) (by omega),rfl⟩
section
variable {P:Program} {w:World} {K:PySem.W.Frag} {mg:Str→Option Value} {base:Heap} {f:Addr} {fd:FuncData}
def lL:Sp:=fun vs H Q _=>∃ (ch:V) (c:List Bell),vs=[ch]∧ChoirAt H ch c∧GoodC c∧∀ H',Same H H'→Q (.str (Txt.join "; " (gQ c))) H'
theorem cQ:FnScope ["_law_choir_here","_law_rows_here","_law_name","_law_start","_law_rule_here","_law_listenings","_law_words","_law_whom","_law_beats","_law_back"] ["_law_choir_here"] (ar pd):=⟨rfl,rfl,rfl,by decide +kernel,rfl,by decide +kernel,by decide +kernel⟩
theorem wV (F:Fun K "_law_rows" "_law_rows" pd f fd) (B:Blt mg):FnOk P w K mg base CX0 1 f fd ["_law_choir_here"] lL:=by
 refine F.ok cQ (fun vs H Q E h=>?_) (fun cdv A outer s H vs Q E hr h=>?_)
 ·obtain ⟨ch,c,rfl,_⟩:=h
  rfl
 obtain ⟨ch,c,rfl,⟨a,bs,rfl,ha,prb⟩,g,q⟩:=h
 refine ⟨_,(af (aB (i:=1) cQ.nd rfl (Or.inl rfl) (bZ ae))
  (af (cO PassesOwn.never rfl (cD (pv 0)) (eR rfl (aZ (ay (i:=2) cQ.nd rfl (Or.inl rfl)) (aZ (ay (i:=3) cQ.nd rfl (Or.inl rfl)) (aZ (ay (i:=4) cQ.nd rfl (Or.inl rfl)) (aZ (ay (i:=5) cQ.nd rfl (Or.inl rfl)) dy)))))
  (af (aB (i:=6) cQ.nd rfl (Or.inl rfl) (bZ (aa (pv 2) (aa (aX cx rfl B.str_ PyProof.Rows.boot_str (aa (pv 3) ae)) (aa (aX vb rfl B.str_ PyProof.Rows.boot_str (aa (pv 4) ae)) ae)))))
  (af (cO PassesOwn.never rfl (cD (pv 5)) (eR rfl (aZ (ay (i:=7) cQ.nd rfl (Or.inl rfl)) (aZ (ay (i:=8) cQ.nd rfl (Or.inl rfl)) (aZ (ay (i:=9) cQ.nd rfl (Or.inl rfl)) dy))))
  (ao (bL (cw PySem.F.plainAttrs_list PySem.F.slot_list_append PySem.F.type_list_append cK (pv 6) (aa (aV bq (aV bq (aV bq (av aT (av aT (pv 0) (pv 7) (fun _ _=>rfl)) ak (fun _ _=>rfl)) aG) (aX cx rfl B.str_ PyProof.Rows.boot_str (aa (pv 8) ae))) (av aE (bZ (aa aG (aa aG ae))) (pv 9) (fun _ _=>rfl))) ae)))))
  (ao (bL (cw PySem.F.plainAttrs_list PySem.F.slot_list_append PySem.F.type_list_append cK (pv 1) (aa (cw PySem.F.plainAttrs_str PySem.F.slot_str_join PySem.F.type_str_join eI aG (aa (pv 6) ae)) ae)))))))
  (ao (au (cw PySem.F.plainAttrs_str PySem.F.slot_str_join PySem.F.type_str_join eI aG (aa (pv 1) ae)))))),?_⟩
 have hbl:=aO prb
 have c6:=g.c6
 refine ⟨(by show 0≤sizeLine; decide),fun r hrr=>?_⟩
 have s0:=aq hrr (.lst [])
 have hr0:(upd H r (.lst [])) r=some (.lst []):=ah
 generalize upd H r (.lst [])=H0 at s0 hr0 ⊢
 refine ⟨_,rfl,a,rfl,⟨_,SqT.of (s0 _ _ ha)⟩,pK (K:=K) (a:=a) (xs:=bs) (fun i σ H1=>∃ (o2 o3 o4 o5 o6 o7 o8 o9:Option V),σ=[some (.ref a),some (.ref r),o2,o3,o4,o5,o6,o7,o8,o9]∧Same H H1∧H1 r=some (.lst (((gQ c).take i).map V.str)))
  ⟨none,none,none,none,none,none,none,none,rfl,s0,hr0⟩ (fun i σ H1 _ ⟨_,_,_,_,_,_,_,_,_,z,_⟩=>SqT.of (z _ _ ha)) ?_ ?_⟩
 ·rintro i x σ H1 hx ⟨o2,o3,o4,o5,o6,o7,o8,o9,rfl,s1,hr1⟩
  obtain ⟨b,hb,ba,tt,ls,rfl,hba,htt,prl⟩:=bh prb hx
  have hi:=(List.getElem?_eq_some_iff.mp hb).1
  have gb:=g.gb b (List.mem_of_getElem? hb)
  have n6:=gb.n6
  refine ⟨ba,_,rfl,SqT.of (s1 _ _ hba),rfl,_,_,rfl,_,_,rfl,_,_,rfl,_,_,rfl,rfl,?_⟩
  refine ⟨_,rfl,_,rfl,.inr (.inr ⟨_,rfl,eM gb.s0 gb.s1,_,rfl,rwS b.rule,Cb gb.r (by omega),?_⟩)⟩
  refine ⟨(by show 3≤sizeLine; decide),fun wl hwl=>?_⟩
  have s2:=aq hwl (.lst [.str b.name,.str (aK b.start),.str (rwS b.rule)])
  have hw2:(upd H1 wl (.lst [.str b.name,.str (aK b.start),.str (rwS b.rule)])) wl=some (.lst (([b.name,aK b.start,rwS b.rule]++(b.lis.take 0).map (c5 (c.map (·.name)))).map V.str)):=ah
  have s12:=s1.trans s2
  have w0:H wl=none:=s1.free hwl
  have nrw:r≠wl:=aM hr1 hwl
  have hr2:=s2 _ _ hr1
  refine ⟨_,rfl,tt,rfl,⟨_,SqT.of (s12 _ _ htt)⟩,pK (K:=K) (a:=tt) (xs:=ls) (fun j σ H3=>∃ (o7 o8 o9:Option V),σ=[some (.ref a),some (.ref r),some (.str b.name),some (.int b.start),some (rwV b.rule),some (.ref tt),some (.ref wl),o7,o8,o9]∧Same H H3∧H3 r=some (.lst (((gQ c).take i).map V.str))∧H3 wl=some (.lst (([b.name,aK b.start,rwS b.rule]++(b.lis.take j).map (c5 (c.map (·.name)))).map V.str)))
   ⟨_,_,_,rfl,s12,hr2,hw2⟩ (fun j σ H3 _ ⟨_,_,_,_,z,_⟩=>SqT.of (z _ _ htt)) ?_ ?_⟩
  ·rintro j y σ H3 hy ⟨o7,o8,o9,rfl,s3,hr3,hw3⟩
   obtain ⟨l,hl,la,rfl,hla⟩:=bh prl hy
   obtain ⟨g1,g2,g3,_⟩:=gb.l l (List.mem_of_getElem? hl)
   have hj:=(List.getElem?_eq_some_iff.mp hl).1
   have hwc:=List.getElem?_eq_getElem g1
   obtain ⟨bv,ebv,ba2,tt2,ls2,rfl,hba2,_⟩:=cI prb hwc
   have n8:=g.len _ (List.getElem_mem g1)
   have hnm:(c.map (·.name)).getD l.whom Str.empty=(c[l.whom]'g1).name:=by
    rw [List.getD_eq_getElem?_getD,List.getElem?_map,hwc]
    rfl
   have lp:("+":Str).length=1:=by decide +kernel
   have l4:=(fH (n:=l.beats) (by omega) g3).2
   have l5:=t7 l
   refine ⟨la,_,rfl,SqT.of (s3 _ _ hla),rfl,_,_,rfl,_,_,rfl,_,_,rfl,rfl,?_⟩
   rw [← hnm] at hba2 n8
   generalize (c.map (·.name)).getD l.whom Str.empty=nm at hba2 n8 hnm
   have b1:=aQ nm "+"
   have b2:=aQ (nm++"+") (aK l.beats)
   have b3:=aQ (nm++"+"++aK l.beats) (eg l)
   refine ⟨_,rfl,.inl ⟨rfl,_,SqL.of hw3⟩,_,rfl,_,rfl,a,_,_,_,rfl,rfl,SqT.of (s3 _ _ ha),a9 ebv,ba2,_,_,_,rfl,rfl,SqT.of (s3 _ _ hba2),rfl,_,_,rfl,rfl,(by rw [sizeLine_eq]; omega),_,rfl,.inr (.inr ⟨_,rfl,eM (by omega) g3,_,_,rfl,rfl,(by show (nm++"+").length+(aK l.beats).length≤sizeLine; rw [sizeLine_eq]; omega),(by show 2≤sizeLine; decide),fun el hel=>?_⟩)⟩
   have v1:=aq hel (.lst [.str "=",.str ""])
   have hat:atI [V.str "=",V.str ""] (if l.back then 1 else 0)=some (.str (eg l)):=by
    unfold eg
    cases l.back
    ·exact zC _ _
    ·exact a9 (j:=1) rfl
   have hwe:=v1 _ _ hw3
   have hre:=v1 _ _ hr3
   refine ⟨_,rfl,el,_,_,_,rfl,rfl,SqL.of ah,hat,_,_,rfl,rfl,(by show (nm++"+"++aK l.beats).length+(eg l).length≤sizeLine; rw [sizeLine_eq]; omega),?_⟩
   refine ⟨wl,_,_,rfl,rfl,hwe,?_,?_⟩
   ·rw [List.length_map,List.length_append,List.length_map,List.length_take]
    exact aJ (by show 3+min j b.lis.length≤1000; omega)
   ·refine ⟨_,_,_,rfl,(s3.trans v1).upd w0 _,by rw [aC nrw]; exact hre,?_⟩
    have en:nm++"+"++aK l.beats++eg l=c5 (c.map (·.name)) l:=by
     rw [← zx,List.getD_eq_getElem?_getD,List.getElem?_map,hwc,hnm]
     rfl
    have e3:([b.name,aK b.start,rwS b.rule]++(b.lis.take (j+1)).map (c5 (c.map (·.name)))).map V.str=([b.name,aK b.start,rwS b.rule]++(b.lis.take j).map (c5 (c.map (·.name)))).map V.str++[V.str (nm++"+"++aK l.beats++eg l)]:=by
     rw [take_snoc hl,List.map_append (f:=c5 (c.map (·.name))),← List.append_assoc,List.map_append,en]
     rfl
    rw [e3]
    exact ah
  ·rintro σ H3 ⟨o7,o8,o9,rfl,s3,hr3,hw3⟩
   rw [aO prl,List.take_length] at hw3
   have hrow:(gQ c)[i]?=some (iQ (c.map (·.name)) b (rwS b.rule)):=by
    unfold gQ
    rw [List.getElem?_map,hb]
    rfl
   have pl:∀ z∈[b.name,aK b.start,rwS b.rule]++b.lis.map (c5 (c.map (·.name))),z.length≤1000:=fun z hz=>by
    rcases List.mem_append.mp hz with h | h
    ·rcases List.mem_cons.mp h with rfl | h
     ·have:=g.len b (List.mem_of_getElem? hb); omega
     rcases List.mem_cons.mp h with rfl | h
     ·have:=(fH gb.s0 gb.s1).2; omega
     rw [List.mem_singleton.mp h]
     have:=rR gb.r (by omega)
     omega
    ·obtain ⟨l,hl,rfl⟩:=List.mem_map.mp h
     obtain ⟨g1,g2,g3,_⟩:=gb.l l hl
     have:=kN (names:=c.map (·.name)) (fun x hx=>by obtain ⟨b',hb',rfl⟩:=List.mem_map.mp hx; exact g.len b' hb') g2 g3 (by rw [List.length_map]; exact g1)
     omega
   refine ⟨_,rfl,.inl ⟨rfl,_,SqL.of hr3⟩,rfl,_,rfl,_,wl,_,rfl,rfl,hw3,dC (by rw [iE]; decide) (by rw [List.length_append,List.length_map]; show 3+_≤100; omega) pl,?_⟩
   refine ⟨r,_,_,rfl,rfl,hr3,?_,?_⟩
   ·rw [List.length_map,List.length_take]
    exact aJ (by omega)
   ·refine ⟨_,_,_,_,_,_,_,_,rfl,s3.upd hrr _,?_⟩
    rw [take_snoc hrow,List.map_append]
    exact ah
 ·rintro σ H1 ⟨o2,o3,o4,o5,o6,o7,o8,o9,rfl,s1,hr1⟩
  have el:bs.length=(gQ c).length:=by
   unfold gQ
   rw [List.length_map]
   exact hbl
  rw [el,List.take_length] at hr1
  exact ⟨rfl,_,rfl,_,r,_,rfl,rfl,hr1,nT (rC g) (by rw [← el,hbl]; exact c6),q H1 s1⟩
def mZ:Sp:=fun vs H Q _=>∃ (ch:V) (c:List Bell) (i n:Nat),vs=[ch,.int (i:Int),.int (n:Int)]∧ChoirAt H ch c∧GoodC c∧i<c.length∧n≤1000∧∀ (H':Hp) (o:Option Int),Same H H'→fQ c n i o→Q (.str (n9 o)) H'
theorem jk:FnScope ["_law_choir_here","_law_at","_law_n","_law_row","_law_k"] ["_law_choir_here","_law_at","_law_n"] (ar pR):=⟨rfl,rfl,rfl,by decide +kernel,rfl,by decide +kernel,by decide +kernel⟩
theorem zb (F:Fun K "_law_beat" "_law_beat" pR f fd) (B:Blt mg) (C_next:Cal P w K mg base 2 "_law_next" ["_law_choir_here","_law_ahead"] hJ):FnOk P w K mg base CX0 3 f fd ["_law_choir_here","_law_at","_law_n"] mZ:=by
 refine F.ok jk (fun vs H Q E h=>?_) (fun cdv A outer s H vs Q E hr h=>?_)
 ·obtain ⟨ch,c,i,n,rfl,_⟩:=h
  rfl
 obtain ⟨ch,c,i,n,rfl,hch,g,hi,hn,q⟩:=h
 refine ⟨_,(af (da (i:=3) ["_law_bell_here"] [] [] rfl jk.nd rfl (Or.inl rfl) (cD (pv 0)) (fun _ _ _ _ _=>(ay (i:=0) (show List.Nodup [("_law_bell_here":Str)] by decide +kernel) rfl (Or.inl rfl))) (fun _ _ _ _ _=>bp) (fun _ _ _ _ _=>(av (fJ (K:=K) rfl) (pv 0) ak (fun _ _=>rfl))))
  (af (cO PassesOwn.never rfl (bU rfl B.range_ (aa (pv 2) ae)) (ay (i:=4) jk.nd rfl (Or.inl rfl))
  (ao (aB (i:=3) jk.nd rfl (Or.inl rfl) (aH C_next hr (by decide) rfl (aa (pv 0) (aa (pv 3) ae))))))
  (ao (au (av aE (bZ (aa (aX cx rfl B.str_ PyProof.Rows.boot_str (aa (av aE (pv 3) (pv 1) (fun _ _=>rfl)) ae)) (aa aG ae))) (aX gi rfl B.int_ PyProof.Rows.boot_int (aa (cU gu (av aE (pv 3) (pv 1) (fun _ _=>rfl)) bG (aI _)) ae)) (fun _ _=>rfl)))))),?_⟩
 obtain ⟨a,bs,rfl,ha,prb⟩:=id hch
 have hbl:=aO prb
 have c6:=g.c6
 refine ⟨_,rfl,a,rfl,⟨_,SqT.of ha⟩,fun D hD=>?_⟩
 refine bV (K:=K) (a:=a) (xs:=bs) (fun j ys H1=>Same H H1∧ys=((starts c).take j).map oV) ⟨aq hD _,rfl⟩ (fun j ys H1 _ ⟨z,_⟩=>SqT.of (z _ _ ha)) ?_ ?_
 ·rintro j y ys H1 hj ⟨s1,rfl⟩ hD1
  obtain ⟨b,hb,ba,tt,ls,rfl,hba,_⟩:=bh prb hj
  have hj6:=(List.getElem?_eq_some_iff.mp hb).1
  refine ⟨rfl,aW ?_⟩
  refine ⟨_,rfl,ba,_,_,_,rfl,rfl,SqT.of (s1 _ _ hba),rfl,_,hD1,?_,_,⟨s1.upd hD _,?_⟩,ah⟩
  ·rw [List.length_map,List.length_take]
   exact aJ (by omega)
  ·have:(starts c)[j]?=some (some b.start):=by rw [List.getElem?_map,hb]; rfl
   rw [take_snoc this,List.map_append]
   rfl
 rintro ys H1 ⟨s1,rfl⟩ hD1
 have el:bs.length=(starts c).length:=by rw [List.length_map]; exact hbl
 rw [el,List.take_length] at hD1
 refine ⟨_,rfl,_,rfl,by omega,by omega,?_⟩
 refine dh (lo:=0) (n:=((n:Nat):Int).toNat) (fun j σ H2=>∃ (o4:Option V) (p:Addr) (rows:List (List (Option Int))) (row:List (Option Int)),σ=[some (.ref a),some (.int (i:Int)),some (.int (n:Int)),some (.ref p),o4]∧Same H H2∧H2 p=some (.lst (row.map oV))∧Rows c rows∧rows.length=j+1∧rows[j]?=some row)
  ⟨none,D,[starts c],starts c,rfl,s1,hD1,⟨fun row e=>(Option.some.inj e).symm,fun m x y _ e=>by cases e⟩,rfl,rfl⟩ ?_ ?_
 ·rintro j σ H2 hj ⟨o4,p,rows,row,rfl,s2,hp,hrows,hlr,hrow⟩
  refine ⟨_,rfl,_,rfl,.ref a,c,p,row,rfl,hch.mono (Same.tup s2),fX g,hp,hrows.len j row hrow,fun H3 p2 now s3 p20 hp2 fx=>?_⟩
  refine ⟨_,p2,rows++[now],now,rfl,s2.trans s3,hp2,hrows.snoc (fun e=>by rw [e] at hlr; exact absurd hlr (by show ¬ 0=j+1; omega)) (fun x hx _=>by
   have:rows.length - 1=j:=by omega
   rw [this,hrow] at hx
   cases hx
   exact fx),by rw [List.length_append,hlr]; rfl,?_⟩
  rw [← hlr]
  exact List.getElem?_concat_length
 ·rintro σ H2 ⟨o4,p,rows,row,rfl,s2,hp,hrows,hlr,hrow⟩
  rw [Int.toNat_natCast] at hlr hrow
  have hlen:=hrows.len n row hrow
  obtain ⟨o,hcell⟩:∃ o,row[i]?=some o:=⟨_,List.getElem?_eq_getElem (show i<row.length by omega)⟩
  have hat:atI (row.map oV) (i:Int)=some (oV o):=a9 (by rw [List.getElem?_map,hcell]; rfl)
  have hs:fQ c n i o:=⟨rows,row,hrows,hlr,hrow,hcell⟩
  refine ⟨_,rfl,_,rfl,p,_,_,_,rfl,rfl,SqL.of hp,hat,?_⟩
  cases o with
  | none =>
   refine .inl ⟨rfl,(by show 2≤sizeLine; decide),fun l hl=>?_⟩
   have w1:=aq hl (.lst [.str "None",.str "never"])
   exact ⟨_,rfl,_,rfl,p,_,_,_,rfl,rfl,SqL.of (w1 _ _ hp),hat,rfl,.inr ⟨_,rfl,l,_,_,_,rfl,rfl,SqL.of ah,rfl,q _ none (s2.trans w1) hs⟩⟩
  | some u =>
   have b:=iX hrows g.c6 (iW g) (eU g) n row hrow u (List.mem_of_getElem? hcell)
   refine .inr (.inr ⟨u,rfl,eN (by omega),(by show 2≤sizeLine; decide),fun l hl=>?_⟩)
   have w1:=aq hl (.lst [.str (aK u),.str "never"])
   exact ⟨_,rfl,_,rfl,p,_,_,_,rfl,rfl,SqL.of (w1 _ _ hp),hat,rfl,.inr ⟨_,rfl,l,_,_,_,rfl,rfl,SqL.of ah,rfl,q _ (some u) (s2.trans w1) hs⟩⟩
end
end K81.S
namespace K81.S
open PySem L2
theorem xr {c x:Nat}:∀ {ps:List (List Nat)},x∈jn c ps→x=c∨∃ p∈ps,x∈p
 | [],h=>(nomatch h)
 | [p],h=>.inr ⟨p,List.mem_cons_self,h⟩
 | p::q::r,h=>by
  rcases List.mem_append.mp h with h | h
  ·exact .inr ⟨p,List.mem_cons_self,h⟩
  rcases List.mem_cons.mp h with h | h
  ·exact .inl h
  rcases xr (ps:=q::r) h with h | ⟨y,hy,hx⟩
  ·exact .inl h
  ·exact .inr ⟨y,List.mem_cons_of_mem _ hy,hx⟩
theorem y6 {c:List Bell} (g:GoodC c) {b:Bell} (hb:b∈c) {r:RW} (gr:GoodR b.lis.length r):59∉(iQ (c.map (·.name)) b (rwS r)).cps.toList:=fun h=>by
 have gb:=g.gb b hb
 have n6:=gb.n6
 unfold iQ at h
 rw [pf,ot] at h
 rcases xr h with h | ⟨p,hp,hx⟩
 ·cases h
 obtain ⟨z,hz,rfl⟩:=List.mem_map.mp hp
 rcases List.mem_append.mp hz with hz | hz
 ·rcases List.mem_cons.mp hz with rfl | hz
  ·have:=dI (g.wd b hb) 59 hx
   omega
  rcases List.mem_cons.mp hz with rfl | hz
  ·have:=de gb.s0 gb.s1 59 hx
   omega
  rw [List.mem_singleton.mp hz] at hx
  cases r with
  | all=>have:=j9 _ hx; omega
  | any=>have:=jP _ hx; omega
  | num i =>
   have g':1≤i∧i≤(b.lis.length:Int):=gr
   have:=de (n:=i) (by omega) (by omega) 59 hx
   omega
 ·obtain ⟨l,hl,rfl⟩:=List.mem_map.mp hz
  obtain ⟨g1,g2,g3,_⟩:=gb.l l hl
  obtain ⟨nm,hnm,hn⟩:=g.heard hb l hl
  have hg:(c.map (·.name)).getD l.whom Str.empty=nm:=by rw [List.getD_eq_getElem?_getD,hnm]; rfl
  rw [nh,hg,bB] at hx
  rcases List.mem_append.mp hx with h | h
  ·have:=dI (nQ hn) _ h
   omega
  rcases List.mem_cons.mp h with h | h
  ·cases h
  rcases List.mem_append.mp h with h | h
  ·have:=de (by omega) g3 _ h
   omega
  ·unfold eg at h
   rw [eq_str] at h
   split at h
   ·cases h
   ·rcases List.mem_cons.mp h with h | h <;> cases h
theorem kG {c:List Bell} (g:GoodC c) (rs:Bell→RW) (hr:∀ b∈c,GoodR b.lis.length (rs b)):Readable (c.map fun b=>iQ (c.map (·.name)) b (rwS (rs b))) (c.map fun b=>fB b (rs b)):=by
 obtain ⟨_,h2,h3⟩:=wq g rs hr rfl
 refine ⟨by rw [List.length_map]; exact g.c1,by rw [List.length_map]; exact g.c6,fun z hz=>?_,fun z hz=>?_,h3,h2⟩
 ·obtain ⟨b,hb,rfl⟩:=List.mem_map.mp hz
  have gb:=g.gb b hb
  exact t4 (rR (hr b hb) (by have:=gb.n6; omega)) gb (by rw [List.length_map]; exact Nat.le_refl _) (fun x hx=>by obtain ⟨b',hb',rfl⟩:=List.mem_map.mp hx; exact g.len b' hb') (g.len b hb)
 ·obtain ⟨b,hb,rfl⟩:=List.mem_map.mp hz
  exact y6 g hb (hr b hb)
theorem nu {c:List Bell} (g:GoodC c):Readable (gQ c) c:=by
 have h:=kG g (fun b=>b.rule) fun b hb=>(g.gb b hb).r
 have e:(c.map fun b=>fB b b.rule)=c:=by
  have:(fun b:Bell=>fB b b.rule)=id:=funext fun b=>rfl
  rw [this,List.map_id]
 rw [e] at h
 exact h
def shown (c:List Bell):List Bell:=c.map fun b=>fB b (dX b)
def lW (c:List Bell):List Str:=c.map (nz (c.map (·.name)))
theorem mK {c:List Bell} (g:GoodC c):Readable (lW c) (shown c):=by
 have h:=kG g dX fun b hb=>tW (g.gb b hb)
 rw [← g.shown] at h
 exact h
theorem kh (c:List Bell):(shown c).map (·.name)=c.map (·.name):=by
 unfold shown
 rw [List.map_map]
 rfl
theorem sU {c:List Bell} (g:GoodC c):GoodC (shown c):=by
 have hl:(shown c).length=c.length:=List.length_map _
 refine ⟨by rw [hl]; exact g.c1,by rw [hl]; exact g.c6,fun b hb=>?_,fun b hb=>?_,fun b hb=>?_,by rw [kh]; exact g.nd⟩
 ·obtain ⟨b0,h0,rfl⟩:=List.mem_map.mp hb
  have gb:=g.gb b0 h0
  rw [hl]
  exact ⟨gb.n1,gb.n6,gb.s0,gb.s1,tW gb,gb.l⟩
 ·obtain ⟨b0,h0,rfl⟩:=List.mem_map.mp hb
  exact g.wd b0 h0
 ·obtain ⟨b0,h0,rfl⟩:=List.mem_map.mp hb
  exact g.f4 b0 h0
theorem uz {m:Nat} {b:Bell} (g:GoodB m 0 true b):cz (fB b (dX b))=cz b:=by
 have key:∀ r:RW,r=dX b→(match r with | .all=>(b.lis.length:Int) | .any=>1 | .num n=>n)=cz b:=fun r e=>by
  by_cases h1:cz b=b.lis.length
  ·have:dX b=.all:=if_pos h1
   rw [e,this]
   exact h1.symm
  ·by_cases h2:cz b=1
   ·have:dX b=.any:=(if_neg h1).trans (if_pos h2)
    rw [e,this]
    exact h2.symm
   ·have:dX b=.num (cz b):=(if_neg h1).trans (if_neg h2)
    rw [e,this]
 exact key _ rfl
theorem su {c:List Bell} (g:GoodC c):lW (shown c)=lW c:=by
 show (shown c).map (nz ((shown c).map (·.name)))=_
 rw [kh]
 unfold shown lW
 rw [List.map_map]
 refine List.map_congr_left fun b hb=>?_
 show Txt.join " " ([b.name,aK b.start,eE (fB b (dX b))]++b.lis.map (c5 _))=Txt.join " " ([b.name,aK b.start,eE b]++b.lis.map (c5 _))
 have e:eE (fB b (dX b))=eE b:=by
  unfold eE
  rw [uz (g.gb b hb)]
  rfl
 rw [e]
theorem qG (b:Bell):wants b=cz b:=rfl
theorem wb {c:List Bell} (g:GoodC c) {x y:List (Option Int)} (f:Fix (shown c) x y):Fix c x y:=by
 refine ⟨by rw [f.1]; exact List.length_map _,fun k b hb=>?_⟩
 have h:(shown c)[k]?=some (fB b (dX b)):=by
  unfold shown
  rw [List.getElem?_map,hb]
  rfl
 obtain ⟨o,h1,h2⟩:=f.2 k _ h
 rw [qG,uz (g.gb b (List.mem_of_getElem? hb)),← qG] at h2
 exact ⟨o,h1,h2⟩
theorem rN {c:List Bell} (g:GoodC c) {n i:Nat} {o:Option Int} (h:fQ (shown c) n i o):fQ c n i o:=by
 obtain ⟨rows,row,h1,h2,h3,h4⟩:=h
 refine ⟨rows,row,⟨fun r e=>?_,fun m x y a b=>wb g (h1.next m x y a b)⟩,h2,h3,h4⟩
 rw [h1.first r e]
 unfold shown
 rw [List.map_map]
 rfl
theorem rG {c:List Bell} {i:Nat} {b:Bell} (h:c[i]?=some b):(shown c)[i]?=some (fB b (dX b)):=by
 unfold shown
 rw [List.getElem?_map,h]
 rfl
theorem rA {n m:Nat} (hn:n<1001) (hm:m<1001) (h:aK (n:Int)=aK (m:Int)):n=m:=by
 have a:=eP hn
 rw [h,eP hm] at a
 have:=Option.some.inj a
 omega
theorem yd {c:List Bell} (g:GoodC c) {i j:Nat} {b b':Bell} (h:c[i]?=some b) (h':c[j]?=some b') (e:b.name=b'.name):i=j:=by
 have a:(c.map (·.name))[i]?=some b.name:=by rw [List.getElem?_map,h]; rfl
 have a':(c.map (·.name))[j]?=some b.name:=by rw [List.getElem?_map,h',e]; rfl
 exact (List.getElem?_inj (List.getElem?_eq_some_iff.mp a).1 g.nd).mp (a.trans a'.symm)
theorem cV {a b:Str} {r s:List Str} (h:a::r=b::s) (ne:a≠b):False:=ne (List.cons.inj h).1
theorem p9 {c:List Bell} {w z:Str} (h:Ans c [("show":Str),w] z):z=Txt.join "; " (lW c):=by
 rcases h with ⟨_,_,e⟩ | ⟨_,_,e,_⟩ | ⟨_,_,_,_,e,_⟩ | ⟨_,_,_,_,_,e,_⟩
 ·exact e
 ·exact (cV e (by decide +kernel)).elim
 ·exact (cV e (by decide +kernel)).elim
 ·exact (cV e (by decide +kernel)).elim
theorem vI {c:List Bell} {w z:Str} (h:Ans c [("waits":Str),w] z):∃ now,Fix c (starts c) now∧z=om (a8 c now):=by
 rcases h with ⟨_,e,_⟩ | ⟨_,now,_,e⟩ | ⟨_,_,_,_,e,_⟩ | ⟨_,_,_,_,_,e,_⟩
 ·exact (cV e (by decide +kernel)).elim
 ·exact ⟨now,e⟩
 ·exact (cV e (by decide +kernel)).elim
 ·exact (cV e (by decide +kernel)).elim
theorem vY {c:List Bell} {w z:Str} {most:Nat} (hm:most≤500) (h:Ans c [("round":Str),w,aK (most:Int)] z):∃ R o,SeqR c R∧dz R most o∧z=zM o:=by
 rcases h with ⟨_,e,_⟩ | ⟨_,_,e,_⟩ | ⟨w',m',R,o,e,hm',e2⟩ | ⟨_,_,_,_,_,e,_⟩
 ·exact (cV e (by decide +kernel)).elim
 ·exact (cV e (by decide +kernel)).elim
 ·have e3:=(List.cons.inj (List.cons.inj (List.cons.inj e).2).2).1
  have:=rA (by omega) (by omega) e3
  subst this
  exact ⟨R,o,e2⟩
 ·exact (cV e (by decide +kernel)).elim
theorem mx {c:List Bell} (g:GoodC c) {w z:Str} {i n:Nat} {b:Bell} (hn:n≤1000) (hb:c[i]?=some b) (h:Ans c [("stroke":Str),w,b.name,aK (n:Int)] z):∃ o,fQ c n i o∧z=n9 o:=by
 rcases h with ⟨_,e,_⟩ | ⟨_,_,e,_⟩ | ⟨_,_,_,_,e,_⟩ | ⟨w',i',n',b',o,e,hn',hb',e2⟩
 ·exact (cV e (by decide +kernel)).elim
 ·exact (cV e (by decide +kernel)).elim
 ·exact (cV e (by decide +kernel)).elim
 ·have e3:=(List.cons.inj (List.cons.inj e).2).2
  have e4:=(List.cons.inj e3).1
  have e5:=(List.cons.inj (List.cons.inj e3).2).1
  have a:=rA (by omega) (by omega) e5
  have d:=yd g hb hb' e4
  subst a d
  exact ⟨o,e2⟩
theorem Am {c:List Bell} (hc:gR c) {R R':Nat→List Int} (h:SeqR c R) (h':SeqR c R'):R=R':=by
 funext n
 induction n with
 | zero=>rw [h.first,h'.first]
 | succ n ih =>
  have a:=h.next n
  have b:=h'.next n
  rw [← ih] at b
  exact jr (c9 hc a b)
theorem pU {c:List Bell} (hc:gR c) (h1:1≤c.length) {R:Nat→List Int} (s:SeqR c R) {most:Nat} {o o':Option (Nat×Nat×Int)} (h:dz R most o) (h':dz R most o'):o=o':=by
 cases o with
 | some z=>obtain ⟨f,p,d⟩:=z; exact (rS hc h1 s (Nat.le_refl _) h h').symm
 | none =>
  cases o' with
  | none=>rfl
  | some z=>obtain ⟨f,p,d⟩:=z; exact absurd h'.2.2.1 (h f (f+p) (by have:=h'.1; omega) h'.2.1 d)
theorem qp {d:Addr} {H H':Hp} {kvs:List (Key×V)} (b:But d H H') (hd:H d=some (.dK kvs)):oX H H':=fun a xs e=>b a _ (iH e hd (by intro z; cases z)) e
theorem DeskAt.but {C:Addr} {H H':Hp} {D d:Addr} {kvs kvs':List (Key×V)} (h:DeskAt C H D d kvs) (b:But d H H') (hd:H' d=some (.dK kvs')):DeskAt C H' D d kvs':=by
 obtain ⟨⟨dx,h1⟩,h2⟩:=h
 exact ⟨⟨dx,b _ _ (iH h1 h2 (by intro z; cases z)) h1⟩,hd⟩
theorem ll:bJ ("a":Str)=true:=by decide +kernel
theorem iL:bJ ("again":Str)=true:=by decide +kernel
theorem eq_nil {K:PySem.W.Frag} {H:Hp} {a z:Addr} {ws:List Str} (ne:a≠z) (ha:H a=some (.lst (ws.map V.str))) (hz:H z=some (.lst [])):EqH K H 1 (.ref a) (.ref z) (decide (ws=[])):=by
 cases ws with
 | nil=>exact EqH.lst (K:=K) (H:=H) (n:=0) (fun _=>true) ne (SqL.of ha) (SqL.of hz) rfl fun i x y h1 _=>(nomatch h1)
 | cons w r=>exact EqH.len (K:=K) (H:=H) (n:=0) ne (SqL.of ha) (SqL.of hz) (fun h=>(nomatch h))
theorem ifE {a b:Str} {p q:Prop} (e:a=b) (h:q):if (!decide (V.str a=V.str b))=true then p else q:=by
 rw [if_neg (by rw [e]; simp)]
 exact h
end K81.S
namespace K81.S
open PySem L2
def ig (ws:List Str):Nat:=if ws=[] then 1 else 0
theorem BA (ws:List Str):V.int (if decide (ws=[])=true then 1 else 0)=V.int ((ig ws:Nat):Int):=by
 unfold ig
 by_cases h:ws=[]
 ·rw [decide_eq_true h,if_pos rfl,if_pos h]
  rfl
 ·rw [decide_eq_false h,if_neg Bool.false_ne_true,if_neg h]
  rfl
def ku (ws:List Str):List Str:=ws++List.replicate (ig ws) ("none":Str)
theorem zA (ws:List Str):ws.map V.str++(List.replicate (ig ws) [V.str "none"]).flatten=(ku ws).map V.str:=by
 unfold ku ig
 rw [List.map_append]
 split
 ·rfl
 ·rfl
theorem uX:Txt.join " " [("none":Str)]="none":=by decide +kernel
theorem Aq (ws:List Str):om ws=Txt.join " " (ku ws):=by
 unfold om ku ig
 split
 ·rename_i h
  rw [h]
  exact uX.symm
 ·show Txt.join " " ws=Txt.join " " (ws++[])
  rw [List.append_nil]
theorem zY {j:Str}:(("choir a ":Str)++j).cps.toList=("choir":Str).cps.toList++32::(("a":Str).cps.toList++32::j.cps.toList):=by
 rw [bB,show ("choir a ":Str).cps.toList=("choir":Str).cps.toList++32::(("a":Str).cps.toList++[32]) by decide +kernel,List.append_assoc,List.cons_append,List.append_assoc]
 rfl
theorem qP {j:Str}:(("choir again ":Str)++j).cps.toList=("choir":Str).cps.toList++32::(("again":Str).cps.toList++32::j.cps.toList):=by
 rw [bB,show ("choir again ":Str).cps.toList=("choir":Str).cps.toList++32::(("again":Str).cps.toList++[32]) by decide +kernel,List.append_assoc,List.cons_append,List.append_assoc]
 rfl
theorem uw:(" ":Str).cps.toList=[32]:=by decide +kernel
theorem zd {m n:Str}:(("stroke a":Str)++(" "++m++" "++n)).cps.toList=jn 32 ([("stroke":Str),"a",m,n].map fun x=>x.cps.toList):=by
 rw [bB,bB,bB,bB,uw,show ("stroke a":Str).cps.toList=("stroke":Str).cps.toList++32::("a":Str).cps.toList by decide +kernel]
 simp only [List.append_assoc,List.cons_append,List.nil_append]
 rfl
theorem pB {m n:Str}:(("stroke again":Str)++(" "++m++" "++n)).cps.toList=jn 32 ([("stroke":Str),"again",m,n].map fun x=>x.cps.toList):=by
 rw [bB,bB,bB,bB,uw,show ("stroke again":Str).cps.toList=("stroke":Str).cps.toList++32::("again":Str).cps.toList by decide +kernel]
 simp only [List.append_assoc,List.cons_append,List.nil_append]
 rfl
theorem AD {n:Str}:(("round a ":Str)++n).cps.toList=jn 32 ([("round":Str),"a",n].map fun x=>x.cps.toList):=by
 rw [bB,show ("round a ":Str).cps.toList=("round":Str).cps.toList++32::(("a":Str).cps.toList++[32]) by decide +kernel]
 simp only [List.append_assoc,List.cons_append,List.nil_append]
 rfl
section
variable {P:Program} {w:World} {K:PySem.W.Frag} {mg:Str→Option Value} {base:Heap} {f:Addr} {fd:FuncData}
def lD (C:Addr):Sp:=fun vs H Q _=>∃ (D d:Addr) (kvs:List (Key×V)) (ch:V) (c:List Bell) (i n most:Nat),vs=[.ref D,ch,.int (i:Int),.int (n:Int),.int (most:Int)]∧DeskAt C H D d kvs∧kvs.length≤100∧ChoirAt H ch c∧GoodC c∧i<c.length∧n≤24∧1≤most∧most≤24∧
 ∀ H' kvs',But d H H'→H' d=some (.dK kvs')→kvs'.length≤kvs.length+2→Q (.bl true) H'
theorem fg:FnScope ["_law_desk","_law_choir_here","_law_at","_law_n","_law_most","_law_row","_law_names_here","_law_told","_law_due","_law_text"] ["_law_desk","_law_choir_here","_law_at","_law_n","_law_most"] (ar oN):=⟨rfl,rfl,rfl,by decide +kernel,rfl,by decide +kernel,by decide +kernel⟩
theorem yW {C fi fs ft fk fc:Addr} {ds:FuncData} (F:Fun K "_law_right" "_law_right" oN f fd) (B:Blt mg) (O:DeskC K C fi fs ft fk fc) (GS:FnOk P w K mg base CX0 13 fs ds ["self","row"] (sY C)) (bS:Binds K ds ["self","row"] []) (C_lrows:Cal P w K mg base 1 "_law_rows" ["_law_choir_here"] lL) (C_lwaiting:Cal P w K mg base 3 "_law_waiting" ["_law_choir_here"] hE) (C_lbeat:Cal P w K mg base 3 "_law_beat" ["_law_choir_here","_law_at","_law_n"] mZ) (C_lround:Cal P w K mg base 3 "_law_round" ["_law_choir_here","_law_most"] ke) :
  FnOk P w K mg base CX0 14 f fd ["_law_desk","_law_choir_here","_law_at","_law_n","_law_most"] (lD C):=by
 refine F.ok fg (fun vs H Q E h=>?_) (fun cdv A outer s H vs Q E hr h=>?_)
 ·obtain ⟨D,d,kvs,ch,c,i,n,most,rfl,_⟩:=h
  rfl
 obtain ⟨D,d,kvs,ch,c,i,n,most,rfl,dk0,kl,hch,g,hi,hn,m1,m24,q⟩:=h
 have hr13:Room 13 _:=hr.mono (by decide)
 refine ⟨_,(af (aP (az iI (cu (pv 0) GS hr13 bS .nil cj (aa (aV bq aG (aH C_lrows hr (by decide) rfl (aa (pv 1) ae))) ae)) aG (aI _))
  (ao (au dj))
  aw)
  (af (aB (i:=5) fg.nd rfl (Or.inl rfl) (aV bq (aV bq (aV bq aG (av aT (av aT (pv 1) (pv 2) (fun _ _=>rfl)) ak (fun _ _=>rfl))) aG) (aX cx rfl B.str_ PyProof.Rows.boot_str (aa (pv 3) ae))))
  (af (aB (i:=6) fg.nd rfl (Or.inl rfl) (aH C_lwaiting hr (by decide) rfl (aa (pv 1) ae)))
  (af (aP (az iI (cu (pv 0) GS hr13 bS .nil cj (aa (aV bq aG (pv 5)) ae)) (aH C_lbeat hr (by decide) rfl (aa (pv 1) (aa (pv 2) (aa (pv 3) ae)))) (aI _))
  (ao (au dj))
  aw)
  (af (aP (az iI (cu (pv 0) GS hr13 bS .nil cj (aa aG ae)) (cw PySem.F.plainAttrs_str PySem.F.slot_str_join PySem.F.type_str_join eI aG (aa (aV sv (pv 6) (aV AE (bZ (aa aG ae)) (aX gi rfl B.int_ PyProof.Rows.boot_int (aa (cU (tN hr.units) (pv 6) (bZ ae) (aI _)) ae)))) ae)) (aI _))
  (ao (au dj))
  aw)
  (fT (aP (az (tN hr.units) (pv 6) (bZ ae) (aI _))
  (af (aB (i:=8) fg.nd rfl (Or.inl rfl) (aH C_lround hr (by decide) rfl (aa (pv 1) (aa (pv 4) ae))))
  (af (aB (i:=9) fg.nd rfl (Or.inl rfl) aG)
  (fT (aP (az il (pv 8) bG (aI _))
  (ao (aB (i:=9) fg.nd rfl (Or.inl rfl) (cw PySem.F.plainAttrs_str PySem.F.slot_str_join PySem.F.type_str_join eI aG (aa (bz ["_law_number"] [] [] rfl (cD (pv 8)) (fun _ _ _ _ _=>(ay (i:=0) (show List.Nodup [("_law_number":Str)] by decide +kernel) rfl (Or.inl rfl))) (fun _ _ _ _ _=>bp) (fun _ _ _ _ _=>(aX cx rfl B.str_ PyProof.Rows.boot_str (aa (pv 0) ae)))) ae))))
  aw)
  (ao (aP (az iI (cu (pv 0) GS hr13 bS .nil cj (aa (aV bq aG (aX cx rfl B.str_ PyProof.Rows.boot_str (aa (pv 4) ae))) ae)) (pv 9) (aI _))
  (ao (au dj))
  aw)))))
  aw)
  (af (aB (i:=7) fg.nd rfl (Or.inl rfl) (cu (pv 0) GS hr13 bS .nil cj (aa aG ae)))
  (af (aP (PW.pt (ie (az iI (cu (pv 0) GS hr13 bS .nil cj (aa (aV bq aG (pv 7)) ae)) aG (aI _)) (e7 (az iI (cu (pv 0) GS hr13 bS .nil cj (aa aG ae)) (pv 7) (aI _)))))
  (ao (au dj))
  aw)
  (ao (au (cU bN (cu (pv 0) GS hr13 bS .nil cj (aa (aV bq aG (pv 5)) ae)) (aH C_lbeat hr (by decide) rfl (aa (pv 1) (aa (pv 2) (aa (pv 3) ae)))) (aI _)))))))))))),?_⟩
 have f0:=fX g
 have ilen:∀ z∈gQ c,z.length≤140:=rC g
 obtain ⟨⟨dx,hD⟩,hd⟩:=id dk0
 have rr:=nu g
 have rl:=rr.len
 have c8:("choir a ":Str).length=8:=by decide +kernel
 refine ⟨_,rfl,C,D,dx,_,rfl,hD,O.cl,O.say,rfl,_,rfl,ch,c,rfl,hch,g,fun H1 s1=>?_⟩
 have zl1:=aQ ("choir a ") (Txt.join "; " (gQ c))
 refine ⟨_,_,rfl,rfl,(by rw [sizeLine_eq]; omega),D,d,kvs,_,rfl,dk0.same s1,by omega,by omega,.inl ⟨"a",gQ c,c,zY,ll,rr,fun H2 v b2 hd2 hc2=>?_⟩⟩
 refine ⟨rfl,_,rfl,ifE rfl ?_⟩
 have b02:But d H H2:=fun a o ne e=>b2 a o ne (s1 _ _ e)
 have t02:=qp b02 hd
 have dk2:=dk0.but b02 hd2
 have hva:cm (putK kvs (Sum.inr ("a":Str)) v) (Sum.inr ("a":Str))=some v:=by rw [rp,if_pos rfl]
 have kl1:=fq kvs (Sum.inr ("a":Str)) v
 generalize putK kvs (Sum.inr ("a":Str)) v=kv1 at hva kl1 dk2 hd2
 have hch2:=hch.mono t02
 clear hd2 b2 zl1 rl rr ilen s1 hD
 obtain ⟨b,hb⟩:∃ b,c[i]?=some b:=⟨_,List.getElem?_eq_getElem hi⟩
 have gb:=g.gb b (List.mem_of_getElem? hb)
 have n8:=g.len b (List.mem_of_getElem? hb)
 have nl:=dr (show n<1001 by omega)
 obtain ⟨a,bs,rfl,ha,prb⟩:=id hch2
 obtain ⟨bv,ebv,ba,tt,ls,rfl,hba,_⟩:=cI prb hb
 have r1:=aQ " " b.name
 have r2:=aQ (" "++b.name) " "
 have r3:=aQ (" "++b.name++" ") (aK (n:Int))
 have gl:=iE
 refine ⟨_,rfl,_,rfl,a,_,_,_,rfl,rfl,SqT.of ha,a9 ebv,ba,_,_,_,rfl,rfl,SqT.of hba,rfl,_,_,rfl,rfl,(by rw [sizeLine_eq]; omega),_,_,rfl,rfl,(by show (" "++b.name).length+(" ":Str).length≤sizeLine; rw [sizeLine_eq]; omega),_,rfl,.inr (.inr ⟨_,rfl,eN (by omega),_,_,rfl,rfl,(by show (" "++b.name++" ").length+(aK (n:Int)).length≤sizeLine; rw [sizeLine_eq]; omega),?_⟩)⟩
 refine ⟨_,rfl,.ref a,c,rfl,hch2,f0,fun H3 wl now s3 wl0 hwl fx=>?_⟩
 obtain ⟨⟨dx2,hD2⟩,hdd⟩:=id dk2
 have s8a:("stroke a":Str).length=8:=by decide +kernel
 have r4:=aQ "stroke a" (" "++b.name++" "++aK (n:Int))
 have rz:(" "++b.name++" "++aK (n:Int)).length≤30:=by omega
 refine ⟨_,rfl,C,D,dx2,_,rfl,s3 _ _ hD2,O.cl,O.say,rfl,_,rfl,_,_,rfl,rfl,(by show ("stroke a":Str).length+(" "++b.name++" "++aK (n:Int)).length≤sizeLine; rw [sizeLine_eq]; omega),D,d,kv1,_,rfl,dk2.same s3,by omega,(by show (("stroke a":Str)++(" "++b.name++" "++aK (n:Int))).length≤3000; omega),.inr ⟨[("stroke":Str),"a",b.name,aK (n:Int)],"a",v,c,zd,rfl,hva,hc2.mono (Same.tup s3),g,.inr (.inr (.inr ⟨"a",i,n,b,rfl,ll,hb,by omega⟩)),fun H4 x4 s4 an4=>?_⟩⟩
 have s24:=s3.trans s4
 obtain ⟨o4,so4,rfl⟩:=mx g (by omega) hb an4
 refine ⟨_,rfl,_,rfl,_,rfl,.ref a,c,i,n,rfl,hch2.mono (Same.tup s24),g,hi,by omega,fun H5 o5 s5 so5=>?_⟩
 have s25:=s24.trans s5
 refine ⟨rfl,_,rfl,ifE (by rw [qe f0.slow so4 so5]) ?_⟩
 refine ⟨_,rfl,C,D,dx2,_,rfl,s25 _ _ hD2,O.cl,O.say,rfl,D,d,kv1,_,rfl,dk2.same s25,by omega,(by decide +kernel),.inr ⟨[("waits":Str),"a"],"a",v,c,by decide +kernel,rfl,hva,hc2.mono (Same.tup s25),g,.inr (.inl ⟨"a",rfl,ll⟩),fun H6 x6 s6 an6=>?_⟩⟩
 have s26:=s25.trans s6
 have s36:=s4.trans (s5.trans s6)
 obtain ⟨now6,fx6,rfl⟩:=vI an6
 rw [c9 f0.slow fx6 fx]
 have wi:=qC g now
 have wlen:(a8 c now).length≤6:=by
  show (cX c now c.length).length≤6
  have:=fI c now c.length
  have:=g.c6
  omega
 have nn:ig (a8 c now)≤1:=by
  unfold ig
  split <;> decide
 refine ⟨rfl,_,rfl,(by show 1≤sizeLine; decide),fun l1 hl1=>?_⟩
 have u1:=aq hl1 (.lst [.str "none"])
 have hl11:(upd H6 l1 (.lst [.str "none"])) l1=some (.lst [.str "none"]):=ah
 generalize upd H6 l1 (.lst [.str "none"])=HA at u1 hl11 ⊢
 refine ⟨_,rfl,(by show 0≤sizeLine; decide),fun z hz=>?_⟩
 have u2:=aq hz (.lst [])
 have hzz:(upd HA z (.lst [])) z=some (.lst []):=ah
 have hwA:=u1 _ _ (s36 _ _ hwl)
 have nez:wl≠z:=aM hwA hz
 have hl12:=u2 _ _ hl11
 have hwB:=u2 _ _ hwA
 generalize upd HA z (.lst [])=HB at u2 hzz hl12 hwB ⊢
 have s2B:=s26.trans (u1.trans u2)
 refine ⟨1,_,wl,z,rfl,rfl,nez,by decide,eq_nil nez hwB hzz,.inr ⟨_,rfl,?_⟩⟩
 refine ⟨l1,_,ig (a8 c now),rfl,BA _,hl12,by omega,(by show 1 * _≤1000; omega),fun p1 hp1=>?_⟩
 have u3:=aq hp1 (.lst (List.replicate (ig (a8 c now)) [V.str "none"]).flatten)
 have hp11:(upd HB p1 (.lst (List.replicate (ig (a8 c now)) [V.str "none"]).flatten)) p1=some (.lst (List.replicate (ig (a8 c now)) [V.str "none"]).flatten):=ah
 have hwC:=u3 _ _ hwB
 generalize upd HB p1 (.lst (List.replicate (ig (a8 c now)) [V.str "none"]).flatten)=HC at u3 hp11 hwC ⊢
 have rfl1:(List.replicate (ig (a8 c now)) [V.str "none"]).flatten.length≤1:=by
  rw [len_rep]
  show _ * 1≤1
  omega
 refine ⟨wl,p1,_,_,rfl,rfl,hwC,hp11,(by rw [List.length_map,sizeLine_eq]; omega),fun p2 hp2=>?_⟩
 have u4:=aq hp2 (.lst ((a8 c now).map V.str++(List.replicate (ig (a8 c now)) [V.str "none"]).flatten))
 have hp21:(upd HC p2 (.lst ((a8 c now).map V.str++(List.replicate (ig (a8 c now)) [V.str "none"]).flatten))) p2=some (.lst ((ku (a8 c now)).map V.str)):=by
  rw [← zA]
  exact ah
 generalize upd HC p2 (.lst ((a8 c now).map V.str++(List.replicate (ig (a8 c now)) [V.str "none"]).flatten))=H7 at u4 hp21 ⊢
 have s27:=s2B.trans (u3.trans u4)
 have s37:=s36.trans (u1.trans (u2.trans (u3.trans u4)))
 have jo:JoinOk " " (ku (a8 c now))=true:=dC (by rw [iE]; decide) (by unfold ku; rw [List.length_append,List.length_replicate]; omega) fun z hz=>by
  rcases List.mem_append.mp hz with h | h
  ·obtain ⟨b',hb',rfl⟩:=qc h
   have:=g.len b' hb'
   omega
  ·rw [(List.mem_replicate.mp h).2]
   decide +kernel
 refine ⟨_,p2,ku (a8 c now),rfl,rfl,hp21,jo,?_⟩
 refine ⟨rfl,_,rfl,ifE (Aq _) ?_⟩
 refine ⟨fun σ Hx=>∃ (o8 o9:Option V),σ=[some (.ref D),some (.ref a),some (.int (i:Int)),some (.int (n:Int)),some (.int (most:Int)),some (.str (" "++b.name++" "++aK (n:Int))),some (.ref wl),none,o8,o9]∧Same H7 Hx,?_,?_⟩
 ·refine ⟨_,rfl,(by show 0≤sizeLine; decide),fun z hz=>?_⟩
  have u5:=aq hz (.lst [])
  have hzz:(upd H7 z (.lst [])) z=some (.lst []):=ah
  have hw7:=s37 _ _ hwl
  have nez:wl≠z:=aM hw7 hz
  have hw8:=u5 _ _ hw7
  generalize upd H7 z (.lst [])=H8 at u5 hzz hw8 ⊢
  have s28:=s27.trans u5
  refine ⟨1,_,wl,z,rfl,rfl,nez,by decide,eq_nil nez hw8 hzz,_,rfl,?_⟩
  rw [if_neg Bool.false_ne_true]
  by_cases hw:a8 c now=[]
  case neg =>
   rw [decide_eq_false hw]
   exact bg ⟨_,_,rfl,u5⟩
  rw [decide_eq_true hw]
  refine bc ?_
  have ag:=Ct f0 fx hw
  obtain ⟨R,sq⟩:=w5 f0 fx hw
  refine ⟨_,rfl,_,rfl,.ref a,c,most,R,rfl,hch2.mono (Same.tup s28),f0,g.c1,by omega,sq,fun o ro H9 dv s9 hdv=>?_⟩
  have s29:=s28.trans s9
  refine ⟨fun σ Hx=>σ=[some (.ref D),some (.ref a),some (.int (i:Int)),some (.int (n:Int)),some (.int (most:Int)),some (.str (" "++b.name++" "++aK (n:Int))),some (.ref wl),none,some dv,some (.str (zM o))]∧Same H9 Hx,?_,?_⟩
  ·refine ⟨_,rfl,rfl,_,rfl,?_⟩
   cases o with
   | none =>
    cases hdv
    exact bg ⟨rfl,.refl H9⟩
   | some z =>
    obtain ⟨f1,p1,d1⟩:=z
    obtain ⟨x,rfl,hx⟩:=hdv
    obtain ⟨k1,k2,k3,_⟩:=id ro
    obtain ⟨d0,d64⟩:=kr g sq k3 (by omega)
    refine bc ?_
    refine ⟨rfl,_,rfl,x,rfl,⟨_,SqT.of hx⟩,fun D1 hD1=>?_⟩
    refine bV (K:=K) (a:=x) (xs:=[.int (f1:Int),.int (p1:Int),.int d1]) (fun j ys Hx=>Same H9 Hx∧ys=(([aK (f1:Int),aK (p1:Int),aK d1].take j).map V.str)) ⟨aq hD1 _,rfl⟩ (fun j ys Hx _ ⟨z,_⟩=>SqT.of (z _ _ hx)) ?_ ?_
    ·rintro j y ys Hx hj ⟨sx,rfl⟩ hDx
     obtain ⟨u,rfl,hu,u0,u64⟩:∃ u:Int,y=.int u∧[aK (f1:Int),aK (p1:Int),aK d1][j]?=some (aK u)∧0≤u∧u<2 ^ 64:=by
      match j,hj with
      | 0,hj=>exact ⟨f1,(Option.some.inj hj).symm,rfl,by omega,by omega⟩
      | 1,hj=>exact ⟨p1,(Option.some.inj hj).symm,rfl,by omega,by omega⟩
      | 2,hj=>exact ⟨d1,(Option.some.inj hj).symm,rfl,d0,d64⟩
      | j+3,hj=>cases hj
     refine ⟨rfl,aW ?_⟩
     refine ⟨_,rfl,.inr (.inr ⟨u,rfl,eN (by omega),?_⟩)⟩
     refine ⟨_,hDx,?_,_,⟨sx.upd hD1 _,?_⟩,ah⟩
     ·have h3:[aK (f1:Int),aK (p1:Int),aK d1].length=3:=rfl
      rw [List.length_map,List.length_take,h3]
      exact aJ (by omega)
     ·rw [take_snoc hu,List.map_append]
      rfl
    ·rintro ys Hx ⟨sx,rfl⟩ hDx
     refine ⟨_,D1,[aK (f1:Int),aK (p1:Int),aK d1],rfl,rfl,hDx,dC (by rw [iE]; decide) (by show 3≤100; decide) (fun z hz=>?_),rfl,sx⟩
     rcases List.mem_cons.mp hz with rfl | hz
     ·exact dM (by omega) (by omega)
     rcases List.mem_cons.mp hz with rfl | hz
     ·exact dM (by omega) (by omega)
     rw [List.mem_singleton.mp hz]
     exact dM d0 d64
  rintro σ HA ⟨rfl,sA⟩
  have s2A:=s29.trans sA
  have ml:=dr (show most<1001 by omega)
  have ra8:("round a ":Str).length=8:=by decide +kernel
  have r5:=aQ "round a " (aK (most:Int))
  refine ⟨_,rfl,C,D,dx2,_,rfl,s2A _ _ hD2,O.cl,O.say,rfl,_,rfl,.inr (.inr ⟨_,rfl,eN (by omega),_,_,rfl,rfl,(by show ("round a ":Str).length+(aK (most:Int)).length≤sizeLine; rw [sizeLine_eq]; omega),D,d,kv1,_,rfl,dk2.same s2A,by omega,(by show (("round a ":Str)++aK (most:Int)).length≤3000; omega),.inr ⟨[("round":Str),"a",aK (most:Int)],"a",v,c,AD,rfl,hva,hc2.mono (Same.tup s2A),g,.inr (.inr (.inl ⟨"a",most,rfl,ll,m1,by omega,ag,R,sq⟩)),fun HB xB sB anB=>?_⟩⟩)⟩
  obtain ⟨R',o',sq',ro',rfl⟩:=vY (by omega) anB
  obtain rfl:=Am f0.slow sq sq'
  refine ⟨_,rfl,rfl,_,rfl,ifE (by rw [pU f0.slow g.c1 sq ro' ro]) ?_⟩
  exact ⟨_,_,rfl,u5.trans (s9.trans (sA.trans sB))⟩
 rintro σ H8 ⟨o8,o9,rfl,s78⟩
 have s28:=s27.trans s78
 clear hl12 hwB hwC hp11 hp21 u1 u2 u3 u4 hl11 hzz hwA jo wi
 refine ⟨_,rfl,C,D,dx2,_,rfl,s28 _ _ hD2,O.cl,O.say,rfl,D,d,kv1,_,rfl,dk2.same s28,by omega,(by decide +kernel),.inr ⟨[("show":Str),"a"],"a",v,c,by decide +kernel,rfl,hva,hc2.mono (Same.tup s28),g,.inl ⟨"a",rfl,ll⟩,fun H9 x9 s9 an9=>?_⟩⟩
 obtain rfl:=p9 an9
 have s29:=s28.trans s9
 have rd:=mK g
 have rdl:=rd.len
 have ca12:("choir again ":Str).length=12:=by decide +kernel
 have r6:=aQ "choir again " (Txt.join "; " (lW c))
 refine ⟨_,rfl,C,D,dx2,_,rfl,s29 _ _ hD2,O.cl,O.say,rfl,_,rfl,_,_,rfl,rfl,(by rw [sizeLine_eq]; omega),D,d,kv1,_,rfl,dk2.same s29,by omega,by omega,.inl ⟨"again",lW c,shown c,qP,iL,rd,fun HA v2 bA hdA hcA=>?_⟩⟩
 refine ⟨rfl,_,rfl,ifE rfl ?_⟩
 have b2A:But d H2 HA:=fun x o ne e=>bA x o ne (s29 _ _ e)
 have t2A:=qp b2A hdd
 have dkA:=dk2.but b2A hdA
 have hvb:cm (putK kv1 (Sum.inr ("again":Str)) v2) (Sum.inr ("again":Str))=some v2:=by rw [rp,if_pos rfl]
 have kl2:=fq kv1 (Sum.inr ("again":Str)) v2
 generalize putK kv1 (Sum.inr ("again":Str)) v2=kv2 at hvb kl2 dkA hdA
 have gs:=sU g
 obtain ⟨⟨dx3,hD3⟩,_⟩:=id dkA
 refine ⟨_,rfl,C,D,dx3,_,rfl,hD3,O.cl,O.say,rfl,D,d,kv2,_,rfl,dkA,by omega,(by decide +kernel),.inr ⟨[("show":Str),"again"],"again",v2,shown c,by decide +kernel,rfl,hvb,hcA,gs,.inl ⟨"again",rfl,iL⟩,fun HB xB sB anB=>?_⟩⟩
 have eB:=p9 anB
 rw [su g] at eB
 refine ⟨_,rfl,rfl,_,rfl,ifE eB ?_⟩
 have s12:("stroke again":Str).length=12:=by decide +kernel
 have r7:=aQ "stroke again" (" "++b.name++" "++aK (n:Int))
 refine ⟨_,rfl,C,D,dx3,_,rfl,sB _ _ hD3,O.cl,O.say,rfl,_,rfl,_,_,rfl,rfl,(by show ("stroke again":Str).length+(" "++b.name++" "++aK (n:Int)).length≤sizeLine; rw [sizeLine_eq]; omega),D,d,kv2,_,rfl,dkA.same sB,by omega,(by show (("stroke again":Str)++(" "++b.name++" "++aK (n:Int))).length≤3000; omega),.inr ⟨[("stroke":Str),"again",b.name,aK (n:Int)],"again",v2,shown c,pB,rfl,hvb,hcA.mono (Same.tup sB),gs,.inr (.inr (.inr ⟨"again",i,n,fB b (dX b),rfl,iL,rG hb,by omega⟩)),fun HC xC sC anC=>?_⟩⟩
 obtain ⟨oC,soC,rfl⟩:=mx gs (by omega) (rG hb) anC
 have sAC:=sB.trans sC
 refine ⟨_,rfl,_,rfl,_,rfl,.ref a,c,i,n,rfl,(hch2.mono t2A).mono (Same.tup sAC),g,hi,by omega,fun HE oE sE soE=>?_⟩
 refine ⟨rfl,?_⟩
 rw [decide_eq_true (show V.str (n9 oC)=V.str (n9 oE) by rw [qe f0.slow (rN g soC) soE])]
 have sAE:=sAC.trans sE
 exact q HE kv2 (b02.trans (b2A.trans (Same.but sAE))) (sAE _ _ hdA) (by omega)
end
end K81.S
namespace K81.S
open PySem L2
theorem yn:∀ h:Nat,h<64→2≤h→Builtin.Range.small 1 (h:Int) 18=true:=by decide +kernel
theorem AR:∀ h:Nat,h<64→2≤h→Builtin.Range.rangeSize 1 (h:Int) 18=(((h - 2) / 18+1:Nat):Int):=by decide +kernel
section
variable {P:Program} {w:World} {K:PySem.W.Frag} {mg:Str→Option Value} {base:Heap} {f:Addr} {fd:FuncData}
def sO (K:PySem.W.Frag):Sp:=fun vs H Q _=>∃ (a:Addr) (ns:List Int),vs=[.ref a]∧SqL K H a (ns.map V.int)∧ns.length≤63∧∀ H',Q (.bl true) H'
theorem iU:FnScope ["_law_script","_law_desk","_law_k","_law_choir_here","_law_pack_here","_law_at","_law_n"] ["_law_script"] (ar xZ):=⟨rfl,rfl,rfl,by decide +kernel,rfl,by decide +kernel,by decide +kernel⟩
theorem BL {C fi fs ft fk fc:Addr} {di:FuncData} (F:Fun K "law" "law" xZ f fd) (B:Blt mg) (O:DeskC K C fi fs ft fk fc) (mD:mg "Desk"=some (.ref C)) (GI:FnOk P w K mg base CX0 1 fi di ["self"] (k9 K)) (bI:Binds K di ["self"] []) (C_choir:Cal P w K mg base 4 "_law_choir" ["_law_script","_law_k","_law_sort","_law_most"] (jE K)) (C_pack:Cal P w K mg base 1 "_law_pack" ["_law_script","_law_k"] (kP K)) (C_take:Cal P w K mg base 1 "_law_take" ["_law_pack_here","_law_many"] gH)
  (C_right:Cal P w K mg base 14 "_law_right" ["_law_desk","_law_choir_here","_law_at","_law_n","_law_most"] (lD C)):FnOk P w K mg base CX0 15 f fd ["_law_script"] (sO K):=by
 refine F.ok iU (fun vs H Q E h=>?_) (fun cdv A outer s H vs Q E hr h=>?_)
 ·obtain ⟨a,ns,rfl,_⟩:=h
  rfl
 obtain ⟨a,ns,rfl,hS,h63,q⟩:=h
 have hr2:Room 2 _:=hr.mono (by decide)
 refine ⟨_,(af (aB (i:=1) iU.nd rfl (Or.inl rfl) (m4 O.mks GI hr2 rfl mD bI .nil cj))
  (af (cO PassesOwn.never rfl (wD rfl B.range_ (aa ak (aa (ax (vk rfl) rfl B.max_ PyProof.Rows.boot_max (aa ak (aa (ax (vv rfl) rfl B.min_ PyProof.Rows.boot_min (aa (ax aL rfl B.len_ PySem.boot_len (aa (pv 0) ae)) (aa ak ae))) ae))) (aa ak ae)))) (ay (i:=2) iU.nd rfl (Or.inl rfl))
  (af (aB (i:=3) iU.nd rfl (Or.inl rfl) (aH C_choir hr (by decide) rfl (aa (pv 0) (aa (pv 2) (aa ak (aa ak ae))))))
  (af (aB (i:=4) iU.nd rfl (Or.inl rfl) (aH C_pack hr (by decide) rfl (aa (pv 0) (aa (aV bP (pv 2) ak) ae))))
  (af (aB (i:=5) iU.nd rfl (Or.inl rfl) (aH C_take hr (by decide) rfl (aa (pv 4) (aa (ax aL rfl B.len_ PySem.boot_len (aa (pv 3) ae)) ae))))
  (af (aB (i:=6) iU.nd rfl (Or.inl rfl) (aH C_take hr (by decide) rfl (aa (pv 4) (aa ak ae))))
  (ao (aP (bQ (bD (aH C_right hr (by decide) rfl (aa (pv 1) (aa (pv 3) (aa (pv 5) (aa (pv 6) (aa (aV bP ak (aH C_take hr (by decide) rfl (aa (aH C_pack hr (by decide) rfl (aa (pv 0) (aa (aV bP (pv 2) ak) ae))) (aa ak ae)))) ae))))))))
  (ao (au dj))
  aw)))))))
  (ao (au dj)))),?_⟩
 refine fun D dx nD ndx ne=>⟨D,C,dx,rfl,ah,O.cl,O.nS,fun d hd=>⟨rfl,?_⟩⟩
 have dD:d≠D:=fun e=>by rw [e,ah] at hd; cases hd
 have hd0:H d=none:=by
  rw [aC dD] at hd
  by_cases e:d=dx
  ·rw [e,ah] at hd; cases hd
  ·rw [aC e] at hd; exact hd
 have dk0:DeskAt C (upd (upd (upd (upd H dx (.own D)) D (.ins C dx [])) d (.dK [])) D (.ins C dx [("stands",.ref d)])) D d []:=⟨⟨dx,ah⟩,by rw [aC dD]; exact ah⟩
 have sH:Same H (upd (upd (upd (upd H dx (.own D)) D (.ins C dx [])) d (.dK [])) D (.ins C dx [("stands",.ref d)])):=fun b o e=>by
  rw [aC (aM e nD),aC (aM e hd0),aC (aM e nD),aC (aM e ndx)]
  exact e
 generalize upd (upd (upd (upd H dx (.own D)) D (.ins C dx [])) d (.dK [])) D (.ins C dx [("stands",.ref d)])=HD at dk0 sH ⊢
 refine ⟨_,rfl,a,_,rfl,.inl (sH.seq hS),_,_,rfl,_,_,rfl,?_⟩
 obtain ⟨hi,ehi,hi2,hi63⟩:∃ hi:Nat,(if (if (63:Int)<(((ns.map V.int).length:Nat):Int) then (63:Int) else (((ns.map V.int).length:Nat):Int)) > 2 then (if (63:Int)<(((ns.map V.int).length:Nat):Int) then (63:Int) else (((ns.map V.int).length:Nat):Int)) else 2)=(hi:Int)∧2≤hi∧hi<64:=by
  refine ⟨((if (if (63:Int)<(((ns.map V.int).length:Nat):Int) then (63:Int) else (((ns.map V.int).length:Nat):Int)) > 2 then (if (63:Int)<(((ns.map V.int).length:Nat):Int) then (63:Int) else (((ns.map V.int).length:Nat):Int)) else 2)).toNat,?_,?_,?_⟩ <;> (split <;> (try split) <;> omega)
 rw [ehi]
 refine ⟨1,(hi:Int),18,(hi - 2) / 18+1,rfl,by decide,by decide,yn hi hi63 hi2,AR hi hi63 hi2,?_⟩
 clear ehi
 refine si (lo:=1) (c:=18) (n:=(hi - 2) / 18+1) (fun i σ H1=>∃ (o2 o3 o4 o5 o6:Option V) (kvs:List (Key×V)),σ=[some (.ref a),some (.ref D),o2,o3,o4,o5,o6]∧Same H H1∧DeskAt C H1 D d kvs∧kvs.length≤2 * i)
  ⟨none,none,none,none,none,[],rfl,sH,dk0,Nat.zero_le _⟩ ?_ ?_
 ·rintro i σ H0 hi' ⟨o2,o3,o4,o5,o6,kvs,rfl,s0,dk,kl⟩
  have hi5:i≤5:=by omega
  have ek:(1:Int)+(i:Int) * 18=((1+i * 18:Nat):Int):=by omega
  rw [ek]
  have hk:1+i * 18≤100:=by omega
  generalize 1+i * 18=k at hk
  refine ⟨_,rfl,_,rfl,a,ns,k,6,rfl,s0.seq hS,by omega,by decide,by decide,fun H1 v1 c s1 h1 c1 c6 gb ⟨names,gn,hcn⟩=>?_⟩
  have g:GoodC c:=GoodC.of gn c1 c6 hcn gb
  have s01:=s0.trans s1
  refine ⟨_,rfl,_,rfl,_,_,rfl,rfl,a,ns,k+7,(by show [V.ref a,V.int ((k:Int)+7)]=[V.ref a,V.int ((k+7:Nat):Int)]; rw [Int.natCast_add]; rfl),s01.seq hS,by omega,fun H2 p s2 p0 pk2=>?_⟩
  obtain ⟨a1,bs1,rfl,ha1,pr1⟩:=id h1
  have e1:=aO pr1
  refine ⟨_,rfl,_,rfl,a1,_,rfl,.inr (SqT.of (s2 _ _ ha1)),p,k+7,_,rfl,pk2,by omega,by omega,by omega,fun at_ H3 hat b3 pk3=>?_⟩
  refine ⟨_,rfl,p,k+7,_,rfl,pk3,by omega,by decide,by decide,fun n H4 hn b4 pk4=>?_⟩
  have s14:Same H1 H4:=(b3.trans b4).same s2 p0
  have s04:=s01.trans s14
  refine ⟨_,rfl,_,rfl,_,rfl,_,rfl,_,rfl,_,rfl,_,_,rfl,rfl,a,ns,k+8,(by show [V.ref a,V.int ((k:Int)+8)]=[V.ref a,V.int ((k+8:Nat):Int)]; rw [Int.natCast_add]; rfl),s04.seq hS,by omega,fun H5 p' s5 p'0 pk5=>?_⟩
  refine ⟨p',k+8,_,rfl,pk5,by omega,by decide,by decide,fun m H6 hm b6 pk6=>?_⟩
  have s46:Same H4 H6:=b6.same s5 p'0
  have s16:=s14.trans s46
  have s06:=s1.trans s16
  refine ⟨_,_,rfl,rfl,?_⟩
  have em:(1:Int)+(m:Int)=((m+1:Nat):Int):=by omega
  dsimp only
  rw [em]
  refine ⟨D,d,kvs,.ref a1,c,at_,n,m+1,rfl,dk.same s06,by omega,h1.mono (Same.tup s16),g,by omega,by omega,by omega,by omega,fun H7 kvs' b7 hd7 kl7=>?_⟩
  refine ⟨_,rfl,bg ⟨_,_,_,_,_,kvs',rfl,?_,(dk.same s06).but b7 hd7,by omega⟩⟩
  exact b7.same (s0.trans s06) hd0
 ·rintro σ H1 ⟨o2,o3,o4,o5,o6,kvs,rfl,_⟩
  exact q H1
end
end K81.S
namespace K81.S
open PySem L2
theorem tH {K:PySem.W.Frag} {C fi ff:Addr} (i:PySem.W.findIn K (.ref C) "__init__"=some (some (.ref fi))) (fl:PySem.W.findIn K (.ref C) "falls"=some (some (.ref ff))) (pg:PySem.W.plainGet K C Str.empty=true) (hd:PySem.W.hasDictIn K C=true) (po:PySem.W.plainOver K C=true)
  (sa:PySem.W.findIn K (.ref C) "__setattr__"=some (some (.builtin "object.__setattr__"))) (n:PySem.W.findIn K (.ref C) "need"=some none) (mk:PySem.W.makesIn K C=true) (fn:PySem.W.isFn K (.ref fi)=true) (kc:PySem.W.keepIn K (.ref C)=true)
  (ffn:PySem.W.isFn K (.ref ff)=true) (fk:PySem.W.keepIn K (.ref ff)=true):Own K C fi ff:=⟨⟨pg,hd,po,sa⟩,n,⟨mk,i,fn,kc⟩,⟨fl,ffn,fk⟩⟩
theorem yj {K:PySem.W.Frag} {C g:Addr} {m:Str} (a:PySem.W.findCls K (.ref C) (.type "type") m=some (.val (.ref g))) (rd:PySem.W.readsIn K C (.type "type")=true)
  (sp:PySem.W.specialIn K (.ref C) "__getattribute__"=some (some (.builtin "type.__getattribute__"))) (kp:PySem.W.keepIn K (.ref g)=true):ClsFn K C m g:=⟨rd,a,sp,kp⟩
theorem AX {K:PySem.W.Frag} {C:Addr} (h:PySem.W.excIn K C [.type "ValueError",.type "Exception",.type "BaseException",.type "object"] "ValueError.__new__"=true):sJ K C:=h
def Bk (K:PySem.W.Frag) (a:Addr) (zs:List Str):Bool:=match K.lookup a with
 | some ⟨.type "tuple",_,.seq its _,_⟩=>decide (its.size≤sizeLine) && decide (its.toList.map xu=zs.map fun z=>some (V.str z))
 | _=>false
theorem AM {z:Str} {u:Value} (h:xu u=some (V.str z)):RelV (.str z) u:=by
 cases u with
 | str x t =>
  have e:x=z:=V.str.inj (Option.some.inj h)
  subst e
  exact ⟨t,rfl⟩
 | _=>first | cases h | (unfold xu at h; cases h)
theorem qg:∀ {zs:List Str} {us:List Value},us.map xu=zs.map (fun z=>some (V.str z))→Vals (zs.map V.str) us
 | [],[],_=>.nil
 | [],_::_,h=>by cases h
 | _::_,[],h=>by cases h
 | z::zs,u::us,h=>.cons (AM (List.cons.inj h).1) (qg (List.cons.inj h).2)
theorem B0 {K:PySem.W.Frag} {a:Addr} {zs:List Str} (h:Bk K a zs=true):∀ H,SqT K H a (zs.map V.str):=fun H=>by
 unfold Bk at h
 split at h
 ·rename_i dd its n sl ho
  rw [Bool.and_eq_true] at h
  exact .inr ⟨_,its,n,ho,rfl,rfl,of_decide_eq_true h.1,qg (of_decide_eq_true h.2)⟩
 ·cases h
theorem pM {K:PySem.W.Frag} {C fw:Addr} (w1:PySem.W.findIn K (.ref C) "wants"=some (some (.ref fw))) (w2:PySem.W.isFn K (.ref fw)=true) (w3:PySem.W.keepIn K (.ref fw)=true):Meth K C "wants" fw:=⟨w1,w2,w3⟩
theorem Ej {us:List Value} (h:us.length=5):∃ a b c d e,us=[a,b,c,d,e]:=by
 match us,h with
 | [a,b,c,d,e],_=>exact ⟨a,b,c,d,e,rfl⟩
theorem xI {K:PySem.W.Frag} {x y:Str} {st:Stmt} {f:Addr} {oc:Value} {od an:Option Addr} {osl:Array (Option Value)} {kV doc pm cdv ct:Value} (a:PySem.W.nsIn K mainGlobals y=some (some (.ref f))) (l:K.lookup f=some ⟨oc,od,.func (PySem.W.fnOf x x (dP st) (cW st) (ar st) .none kV doc pm an cdv ct),osl⟩)
  (c:PySem.W.codeIn K cdv x=true) (k:PySem.W.keepIn K (.ref f)=true):∃ f fd,Fun K x x st f fd∧PySem.W.nsIn K mainGlobals y=some (some (.ref f)):=⟨f,_,tT (st:=st) l c k,a⟩
theorem xG {P:Program} {w:World} {K:PySem.W.Frag} {a:Addr} {o:Obj} {es:Array DictEntry} {ep:Nat} (l:K.lookup a=some o) (c:o=⟨.type "dict",none,.dict es ep,#[]⟩) (m:es.toList.map (fun e=>(e.hash,strOf? e.key,strOf? e.val))=sN.map fun z=>(PyData.keyHash w.params z.1,some z.1,some z.2)) (hs:(a == sysModules)=false):rX P w K a jR:=AQ sN l c m (by decide +kernel) hs
theorem zL {K:PySem.W.Frag} {C fi fs ft fk fc:Addr} (i:PySem.W.findIn K (.ref C) "__init__"=some (some (.ref fi))) (afs:PySem.W.findIn K (.ref C) "say"=some (some (.ref fs))) (aft:PySem.W.findIn K (.ref C) "standing"=some (some (.ref ft))) (afk:PySem.W.findIn K (.ref C) "keep"=some (some (.ref fk))) (afc:PySem.W.findIn K (.ref C) "say_choir"=some (some (.ref fc))) (pg:PySem.W.plainGet K C Str.empty=true) (hd:PySem.W.hasDictIn K C=true) (po:PySem.W.plainOver K C=true) (sa:PySem.W.findIn K (.ref C) "__setattr__"=some (some (.builtin "object.__setattr__"))) (n:PySem.W.findIn K (.ref C) "stands"=some none) (mk:PySem.W.makesIn K C=true) (fn:PySem.W.isFn K (.ref fi)=true) (kc:PySem.W.keepIn K (.ref C)=true) (bfs:PySem.W.isFn K (.ref fs)=true) (cfs:PySem.W.keepIn K (.ref fs)=true) (bft:PySem.W.isFn K (.ref ft)=true) (cft:PySem.W.keepIn K (.ref ft)=true) (bfk:PySem.W.isFn K (.ref fk)=true) (cfk:PySem.W.keepIn K (.ref fk)=true) (bfc:PySem.W.isFn K (.ref fc)=true) (cfc:PySem.W.keepIn K (.ref fc)=true):DeskC K C fi fs ft fk fc:=⟨⟨pg,hd,po,sa⟩,n,⟨mk,i,fn,kc⟩,⟨afs,bfs,cfs⟩,⟨aft,bft,cft⟩,⟨afk,bfk,cfk⟩,⟨afc,bfc,cfc⟩⟩
theorem all {P:Program} {w:World} {K:PySem.W.Frag} {h:Heap} {mg:Str→Option Value} {fa c0 R A Y S fR fA fY fS fW ff aN C fi fs ft fk fc aF:Addr} {tJ tF:Tok} {t_mI:Tok} {t_mM:Tok} {t_mL:Tok} {t_mS:Tok} {t_mO:Tok} {t_mG:Tok} {t_mFg:Tok} {t_mSt:Tok} {t_mRo:Tok} (X:K.In h) (G:h.Ns mainGlobals mg) (hfa:mg "law"=some (.ref fa)) (B:Blt mg) (m0:mg "NoRule"=some (.ref c0)) (mI:mg "MOST_LETTERS"=some (.int 8 t_mI)) (mM:mg "MOST_BEATS"=some (.int 1000 t_mM)) (mL:mg "MOST_LISTENINGS"=some (.int 6 t_mL)) (mS:mg "MOST_START"=some (.int 1000 t_mS)) (mO:mg "MOST_BELLS"=some (.int 6 t_mO)) (mG:mg "MOST_FIGURES_choirtexts"=some (.int 9 t_mG)) (mFg:mg "MOST_FIGURES_desk"=some (.int 4 t_mFg)) (mSt:mg "MOST_STROKES"=some (.int 2000 t_mSt)) (mRo:mg "MOST_OF_ROUND"=some (.int 500 t_mRo))
  (aR:PySem.W.nsIn K mainGlobals "Rule"=some (some (.ref R))) (aA:PySem.W.nsIn K mainGlobals "All"=some (some (.ref A))) (aY:PySem.W.nsIn K mainGlobals "Any"=some (some (.ref Y))) (aS:PySem.W.nsIn K mainGlobals "Some"=some (some (.ref S)))
  (cR:ClsFn K R "__init__" fR) (oA:Own K A fA ff) (oY:Own K Y fY ff) (oS:Own K S fS ff) (eA:Meth K A "wants" fW) (eY:Meth K Y "wants" fW) (eS:Meth K S "wants" fW) (xR:sJ K c0) (xm0:PySem.W.exmOne K (.ref c0) (.ref c0)=some true)
  (FR:∃ fd,Fun K "__init__" "Rule.__init__" jb fR fd) (FA:∃ fd,Fun K "__init__" "All.__init__" ja fA fd) (FY:∃ fd,Fun K "__init__" "Any.__init__" i8 fY fd) (FS:∃ fd,Fun K "__init__" "Some.__init__" jw fS fd) (FW:∃ fd,Fun K "wants" "Rule.wants" mC fW fd) (FF:∃ fd,Fun K "falls" "Rule.falls" pj ff fd)
  (mJ:mg "LETTERS"=some (.str du tJ)) (mF:mg "FIGURES"=some (.str dU tF)) (mN:mg "NO_NAMES"=some (.ref aN)) (hN:∀ H,SqT K H aN (gg.map V.str))
  (aD:PySem.W.nsIn K mainGlobals "Desk"=some (some (.ref C))) (O:DeskC K C fi fs ft fk fc) (aFo:PySem.W.nsIn K mainGlobals "FORMS"=some (some (.ref aF))) (kF:rX P w K aF jR) (F_beyond:∃ f fd,Fun K "refuse_beyond" "refuse_beyond" eh f fd∧PySem.W.nsIn K mainGlobals "refuse_beyond_desk"=some (some (.ref f))) (FDI:∃ fd,Fun K "__init__" "Desk.__init__" oU fi fd) (FDT:∃ fd,Fun K "standing" "Desk.standing" gW ft fd) (FDK:∃ fd,Fun K "keep" "Desk.keep" pP fk fd) (FDC:∃ fd,Fun K "say_choir" "Desk.say_choir" gD fc fd) (FDS:∃ fd,Fun K "say" "Desk.say" sd fs fd)
  (F__law_pack:FunAt K "_law_pack" rV) (F__law_take:FunAt K "_law_take" tu) (F__law_names:FunAt K "_law_names" lJ) (F__law_rule:FunAt K "_law_rule" pL) (F__law_bell:FunAt K "_law_bell" tU) (F__law_choir:FunAt K "_law_choir" pq) (F_is_whole:FunAt K "is_whole" e9) (F_is_whole_within:FunAt K "is_whole_within" dq) (F_rule_of_text:FunAt K "rule_of_text" l8) (F_rule_of:FunAt K "rule_of" f6) (F_is_word:FunAt K "is_word" jF) (F_is_name:FunAt K "is_name" jL) (F_is_rule:FunAt K "is_rule" jQ) (F_is_listening:FunAt K "is_listening" eQ) (F_are_listenings:FunAt K "are_listenings" dE) (F_is_bell:FunAt K "is_bell" j2) (F_is_written_whole:FunAt K "is_written_whole" c7) (F_read_number:FunAt K "read_number" fN) (F_read_rule:FunAt K "read_rule" ia) (F_read_listening:FunAt K "read_listening" dB) (F_read_bell:FunAt K "read_bell" gZ) (F_are_rows:FunAt K "are_rows" iS) (F_read_choir:FunAt K "read_choir" gB) (F_names_of:FunAt K "names_of" iY) (F_rule_of_bell:FunAt K "rule_of_bell" cE) (F_show_rule:FunAt K "show_rule" g9) (F_show_listening:FunAt K "show_listening" dG) (F_show_bell:FunAt K "show_bell" gX) (F_show_choir:FunAt K "show_choir" gK) (F_listening_comes:FunAt K "listening_comes" pz) (F_next_found:FunAt K "next_found" oJ) (F_strokes_behind:FunAt K "strokes_behind" lq) (F_strokes:FunAt K "strokes" jz) (F_waiting:FunAt K "waiting" jD) (F_refuse_waiting:FunAt K "refuse_waiting" dO) (F_round_of:FunAt K "round_of" iO) (F__law_wants:FunAt K "_law_wants" pI) (F__law_next:FunAt K "_law_next" rY) (F__law_waiting:FunAt K "_law_waiting" iZ) (F__law_round:FunAt K "_law_round" oK) (F_place_of:FunAt K "place_of" iR) (F_form_of:FunAt K "form_of" jG) (F_refuse_wrong_words:FunAt K "refuse_wrong_words" cC) (F_tell_stroke:FunAt K "tell_stroke" fO) (F_tell_waits:FunAt K "tell_waits" gN) (F_tell_round:FunAt K "tell_round" gy) (F_tell_of:FunAt K "tell_of" j8) (F__law_rows:FunAt K "_law_rows" pd) (F__law_beat:FunAt K "_law_beat" pR) (F__law_right:FunAt K "_law_right" oN) (F_law:FunAt K "law" xZ) :
  ∃ fd:FuncData,(∀ (s:Shared) (u:Value),BindsTo s fd ⟨[u],[]⟩ [("_law_script",u)])∧∀ base:Heap,K.In base→base.Ns mainGlobals mg→FnOk P w K mg base CX0 15 fa fd ["_law_script"] (sO K):=by
 refine F_law.law X G hfa (fun _ _ _ _ _ _ _=>rfl) fun base _ _ f fd F=>?_
 have wA:OwnW K A fW:=⟨oA.cl,oA.nN,eA⟩
 have wY:OwnW K Y fW:=⟨oY.cl,oY.nN,eY⟩
 have wS:OwnW K S fW:=⟨oS.cl,oS.nN,eS⟩
 have pA:K81.Own K A fA:=⟨oA.cl,oA.nN,oA.mks⟩
 have pY:K81.Own K Y fY:=⟨oY.cl,oY.nN,oY.mks⟩
 have pS:K81.Own K S fS:=⟨oS.cl,oS.nN,oS.mks⟩
 have mD:=PySem.W.mg_of X G aD
 obtain ⟨df,FF⟩:=FF
 obtain ⟨dR,FR⟩:=FR; obtain ⟨dA,FA⟩:=FA; obtain ⟨dY,FY⟩:=FY; obtain ⟨dS,FS⟩:=FS; obtain ⟨dW,FW⟩:=FW
 have mR:=PySem.W.mg_of X G aR
 have bR:Binds K dR ["self","need"] []:=FR.binds (ps:=["self","need"]) fun _ _ _ _ _ _ us hl=>by obtain ⟨a,b,rfl⟩:=dn hl; rfl
 have bA:Binds K dA ["self","many"] []:=FA.binds (ps:=["self","many"]) fun _ _ _ _ _ _ us hl=>by obtain ⟨a,b,rfl⟩:=dn hl; rfl
 have bY:Binds K dY ["self"] []:=FY.binds (ps:=["self"]) fun _ _ _ _ _ _ us hl=>by obtain ⟨a,rfl⟩:=eF hl; rfl
 have bS_:Binds K dS ["self","need"] []:=FS.binds (ps:=["self","need"]) fun _ _ _ _ _ _ us hl=>by obtain ⟨a,b,rfl⟩:=dn hl; rfl
 have bW:Binds K dW ["self"] []:=FW.binds (ps:=["self"]) fun _ _ _ _ _ _ us hl=>by obtain ⟨a,rfl⟩:=eF hl; rfl
 have bF:Binds K df ["self","beats"] []:=FF.binds (ps:=["self","beats"]) fun _ _ _ _ _ _ us hl=>by obtain ⟨a,b,rfl⟩:=dn hl; rfl
 have GR:FnOk P w K mg base CX0 1 fR dR ["self","need"] (K81.br K):=K81.m6 FR
 have GA:FnOk P w K mg base CX0 2 fA dA ["self","many"] (K81.br K):=K81.lR FA mR cR GR bR
 have GY:FnOk P w K mg base CX0 2 fY dY ["self"] (K81.fj K):=K81.lu FY mR cR GR bR
 have GS_:FnOk P w K mg base CX0 2 fS dS ["self","need"] (K81.br K):=K81.mH FS mR cR GR bR
 have HR:FnOk P w K mg base CX0 1 fR dR ["self","need"] (K81.S.br K):=K81.S.m6 FR
 have HA:FnOk P w K mg base CX0 2 fA dA ["self","many"] (K81.S.br K):=K81.S.lR FA mR cR HR bR
 have HY:FnOk P w K mg base CX0 2 fY dY ["self"] (K81.S.fj K):=K81.S.lu FY mR cR HR bR
 have HS:FnOk P w K mg base CX0 2 fS dS ["self","need"] (K81.S.br K):=K81.S.mH FS mR cR HR bR
 have GW:FnOk P w K mg base CX0 1 fW dW ["self"] (K81.jJ K):=K81.vC FW
 have HF:FnOk P w K mg base CX0 1 ff df ["self","beats"] (K81.S.mE K):=K81.S.yB FF B
 have C__law_pack:Cal P w K mg base 1 "_law_pack" ["_law_script","_law_k"] (K81.kP K):=F__law_pack.cal X G (fun _ _ _ _ _ _ us hl=>by obtain ⟨a,b,rfl⟩:=dn hl; rfl) fun f fd F=>K81.zE F B
 have C__law_take:Cal P w K mg base 1 "_law_take" ["_law_pack_here","_law_many"] K81.gH:=F__law_take.cal X G (fun _ _ _ _ _ _ us hl=>by obtain ⟨a,b,rfl⟩:=dn hl; rfl) fun f fd F=>K81.zB F B
 have C__law_names:Cal P w K mg base 2 "_law_names" ["_law_pack_here","_law_many"] K81.jA:=F__law_names.cal X G (fun _ _ _ _ _ _ us hl=>by obtain ⟨a,b,rfl⟩:=dn hl; rfl) fun f fd F=>K81.vE F B C__law_take
 have C__law_rule:Cal P w K mg base 2 "_law_rule" ["_law_pack_here","_law_sort","_law_many"] K81.mW:=F__law_rule.cal X G (fun _ _ _ _ _ _ us hl=>by obtain ⟨a,b,c,rfl⟩:=pG hl; rfl) fun f fd F=>K81.zf F B C__law_take
 have C__law_bell:Cal P w K mg base 3 "_law_bell" ["_law_pack_here","_law_sort","_law_place","_law_shape"] K81.mT:=F__law_bell.cal X G (fun _ _ _ _ _ _ us hl=>by obtain ⟨a,b,c,d,rfl⟩:=Bw hl; rfl) fun f fd F=>K81.xX F B C__law_take C__law_rule
 have C__law_choir:Cal P w K mg base 4 "_law_choir" ["_law_script","_law_k","_law_sort","_law_most"] (K81.jE K):=F__law_choir.cal X G (fun _ _ _ _ _ _ us hl=>by obtain ⟨a,b,c,d,rfl⟩:=Bw hl; rfl) fun f fd F=>K81.vc F B C__law_pack C__law_take C__law_names C__law_bell
 have C_is_whole:Cal P w K mg base 1 "is_whole" ["thing"] (K81.d8 K):=F_is_whole.cal X G (fun _ _ _ _ _ _ us hl=>by obtain ⟨a,rfl⟩:=eF hl; rfl) fun f fd F=>K81.g7 F B
 have C_is_whole_within:Cal P w K mg base 2 "is_whole_within" ["thing","least","most"] K81.fV:=F_is_whole_within.cal X G (fun _ _ _ _ _ _ us hl=>by obtain ⟨a,b,c,rfl⟩:=pG hl; rfl) fun f fd F=>K81.ve F C_is_whole
 have C_rule_of_text:CalX P w K mg base 4 "rule_of_text" ["text","many"] (K81.gv A Y c0):=F_rule_of_text.calX X G (fun _ _ _ _ _ _ us hl=>by obtain ⟨a,b,rfl⟩:=dn hl; rfl) fun f fd F=>K81.pF F (PySem.W.mg_of X G aA) (PySem.W.mg_of X G aY) m0 xR pA pY GA bA GY bY
 have C_rule_of:CalX P w K mg base 5 "rule_of" ["word","many"] (K81.fF K A Y S c0):=F_rule_of.calX X G (fun _ _ _ _ _ _ us hl=>by obtain ⟨a,b,rfl⟩:=dn hl; rfl) fun f fd F=>K81.iK F B (PySem.W.mg_of X G aS) m0 xR pS GS_ bS_ C_rule_of_text C_is_whole
 have C_is_word:Cal P w K mg base 1 "is_word" ["thing"] K81.i4:=F_is_word.cal X G (fun _ _ _ _ _ _ us hl=>by obtain ⟨a,rfl⟩:=eF hl; rfl) fun f fd F=>K81.zJ F B mI mJ
 have C_is_name:Cal P w K mg base 2 "is_name" ["thing"] K81.kY:=F_is_name.cal X G (fun _ _ _ _ _ _ us hl=>by obtain ⟨a,rfl⟩:=eF hl; rfl) fun f fd F=>K81.Ac F mN hN C_is_word
 have C_is_rule:Cal P w K mg base 6 "is_rule" ["thing","many"] K81.jK:=F_is_rule.cal X G (fun _ _ _ _ _ _ us hl=>by obtain ⟨a,b,rfl⟩:=dn hl; rfl) fun f fd F=>K81.vK F m0 xm0 C_rule_of
 have C_is_listening:Cal P w K mg base 3 "is_listening" ["thing","bells"] K81.lj:=F_is_listening.cal X G (fun _ _ _ _ _ _ us hl=>by obtain ⟨a,b,rfl⟩:=dn hl; rfl) fun f fd F=>K81.xA F B mM C_is_whole_within
 have C_are_listenings:Cal P w K mg base 4 "are_listenings" ["thing","bells"] K81.jW:=F_are_listenings.cal X G (fun _ _ _ _ _ _ us hl=>by obtain ⟨a,b,rfl⟩:=dn hl; rfl) fun f fd F=>K81.uV F B mL C_is_listening
 have C_is_bell:Cal P w K mg base 7 "is_bell" ["thing","ahead","bells"] K81.j4:=F_is_bell.cal X G (fun _ _ _ _ _ _ us hl=>by obtain ⟨a,b,c,rfl⟩:=pG hl; rfl) fun f fd F=>K81.u6 F B mS C_is_whole_within C_is_name C_are_listenings C_is_rule
 have C_is_written_whole:Cal P w K mg base 1 "is_written_whole" ["text","most_figures"] K81.kQ:=F_is_written_whole.cal X G (fun _ _ _ _ _ _ us hl=>by obtain ⟨a,b,rfl⟩:=dn hl; rfl) fun f fd F=>K81.AN F B mF
 have C_read_number:Cal P w K mg base 2 "read_number" ["text"] K81.jd:=F_read_number.cal X G (fun _ _ _ _ _ _ us hl=>by obtain ⟨a,rfl⟩:=eF hl; rfl) fun f fd F=>K81.zG F B mG C_is_written_whole
 have C_read_rule:Cal P w K mg base 3 "read_rule" ["text"] K81.md:=F_read_rule.cal X G (fun _ _ _ _ _ _ us hl=>by obtain ⟨a,rfl⟩:=eF hl; rfl) fun f fd F=>K81.zr F C_read_number
 have C_read_listening:Cal P w K mg base 3 "read_listening" ["text","names"] K81.pH:=F_read_listening.cal X G (fun _ _ _ _ _ _ us hl=>by obtain ⟨a,b,rfl⟩:=dn hl; rfl) fun f fd F=>K81.A0 F C_is_name C_read_number
 have C_read_bell:Cal P w K mg base 4 "read_bell" ["row","names"] K81.mX:=F_read_bell.cal X G (fun _ _ _ _ _ _ us hl=>by obtain ⟨a,b,rfl⟩:=dn hl; rfl) fun f fd F=>K81.zc F B C_read_number C_read_rule C_read_listening
 have C_are_rows:Cal P w K mg base 1 "are_rows" ["thing"] K81.mr:=F_are_rows.cal X G (fun _ _ _ _ _ _ us hl=>by obtain ⟨a,rfl⟩:=eF hl; rfl) fun f fd F=>K81.yt F B mO
 have C_read_choir:Cal P w K mg base 8 "read_choir" ["rows"] K81.oQ:=F_read_choir.cal X G (fun _ _ _ _ _ _ us hl=>by obtain ⟨a,rfl⟩:=eF hl; rfl) fun f fd F=>K81.Av F B C_are_rows C_read_bell C_is_bell
 have C_names_of:Cal P w K mg base 1 "names_of" ["choir"] K81.h7:=F_names_of.cal X G (fun _ _ _ _ _ _ us hl=>by obtain ⟨a,rfl⟩:=eF hl; rfl) fun f fd F=>K81.rf F
 have C_rule_of_bell:Cal P w K mg base 6 "rule_of_bell" ["bell"] (K81.rL K fW):=F_rule_of_bell.cal X G (fun _ _ _ _ _ _ us hl=>by obtain ⟨a,rfl⟩:=eF hl; rfl) fun f fd F=>K81.Ci F B wA wY wS C_rule_of
 have C_show_rule:Cal P w K mg base 7 "show_rule" ["bell"] K81.lO:=F_show_rule.cal X G (fun _ _ _ _ _ _ us hl=>by obtain ⟨a,rfl⟩:=eF hl; rfl) fun f fd F=>K81.xD F B GW bW C_rule_of_bell
 have C_show_listening:Cal P w K mg base 1 "show_listening" ["listening","names"] K81.pb:=F_show_listening.cal X G (fun _ _ _ _ _ _ us hl=>by obtain ⟨a,b,rfl⟩:=dn hl; rfl) fun f fd F=>K81.Ag F
 have C_show_bell:Cal P w K mg base 8 "show_bell" ["bell","names"] K81.ng:=F_show_bell.cal X G (fun _ _ _ _ _ _ us hl=>by obtain ⟨a,b,rfl⟩:=dn hl; rfl) fun f fd F=>K81.xo F B C_show_rule C_show_listening
 have C_show_choir:Cal P w K mg base 9 "show_choir" ["choir"] K81.pV:=F_show_choir.cal X G (fun _ _ _ _ _ _ us hl=>by obtain ⟨a,rfl⟩:=eF hl; rfl) fun f fd F=>K81.zI F C_names_of C_show_bell
 have C_is_whole_S:Cal P w K mg base 1 "is_whole" ["thing"] K81.S.d8:=F_is_whole.cal X G (fun _ _ _ _ _ _ us hl=>by obtain ⟨a,rfl⟩:=eF hl; rfl) fun f fd F=>K81.S.g7 F B
 have C_text_S:Cal P w K mg base 4 "rule_of_text" ["text","many"] (K81.S.gv K ff):=F_rule_of_text.cal X G (fun _ _ _ _ _ _ us hl=>by obtain ⟨a,b,rfl⟩:=dn hl; rfl) fun f fd F=>K81.S.pF F (PySem.W.mg_of X G aA) (PySem.W.mg_of X G aY) oA oY HA bA HY bY
 have C_rule_S:Cal P w K mg base 5 "rule_of" ["word","many"] (K81.S.fF K ff):=F_rule_of.cal X G (fun _ _ _ _ _ _ us hl=>by obtain ⟨a,b,rfl⟩:=dn hl; rfl) fun f fd F=>K81.S.iK F B (PySem.W.mg_of X G aS) oS HS bS_ C_text_S C_is_whole_S
 have C_rob_S:Cal P w K mg base 6 "rule_of_bell" ["bell"] (K81.S.g6 K ff):=F_rule_of_bell.cal X G (fun _ _ _ _ _ _ us hl=>by obtain ⟨a,rfl⟩:=eF hl; rfl) fun f fd F=>K81.S.kM F B C_rule_S
 have C_listening_comes:Cal P w K mg base 1 "listening_comes" ["listening","before","now"] K81.S.lF:=F_listening_comes.cal X G (fun _ _ _ _ _ _ us hl=>by obtain ⟨a,b,c,rfl⟩:=pG hl; rfl) fun f fd F=>K81.S.yy F
 have C_next_found:Cal P w K mg base 2 "next_found" ["choir","rules","before","now"] (K81.S.m9 K ff):=F_next_found.cal X G (fun _ _ _ _ _ _ us hl=>by obtain ⟨a,b,c,d,rfl⟩:=Bw hl; rfl) fun f fd F=>K81.S.xi F B C_listening_comes HF bF
 have C_strokes_behind:Cal P w K mg base 3 "strokes_behind" ["choir","rules","before"] (K81.S.jN K ff):=F_strokes_behind.cal X G (fun _ _ _ _ _ _ us hl=>by obtain ⟨a,b,c,rfl⟩:=pG hl; rfl) fun f fd F=>K81.S.vA F C_next_found
 have C_strokes:Cal P w K mg base 7 "strokes" ["choir","many"] K81.S.eX:=F_strokes.cal X G (fun _ _ _ _ _ _ us hl=>by obtain ⟨a,b,rfl⟩:=dn hl; rfl) fun f fd F=>K81.S.sj F B C_rob_S C_strokes_behind
 have C_waiting:Cal P w K mg base 8 "waiting" ["choir"] K81.S.gA:=F_waiting.cal X G (fun _ _ _ _ _ _ us hl=>by obtain ⟨a,rfl⟩:=eF hl; rfl) fun f fd F=>K81.S.sk F B C_strokes
 have C_refuse_waiting:Cal P w K mg base 9 "refuse_waiting" ["choir"] K81.S.j0:=F_refuse_waiting.cal X G (fun _ _ _ _ _ _ us hl=>by obtain ⟨a,rfl⟩:=eF hl; rfl) fun f fd F=>K81.S.v9 F B C_waiting
 have C_round_of:Cal P w K mg base 10 "round_of" ["choir","most"] K81.S.mQ:=F_round_of.cal X G (fun _ _ _ _ _ _ us hl=>by obtain ⟨a,b,rfl⟩:=dn hl; rfl) fun f fd F=>K81.S.yG F B C_refuse_waiting C_strokes
 have C__law_wants:Cal P w K mg base 1 "_law_wants" ["_law_bell_here"] K81.S.mh:=F__law_wants.cal X G (fun _ _ _ _ _ _ us hl=>by obtain ⟨a,rfl⟩:=eF hl; rfl) fun f fd F=>K81.S.yh F B
 have C__law_next:Cal P w K mg base 2 "_law_next" ["_law_choir_here","_law_ahead"] K81.S.hJ:=F__law_next.cal X G (fun _ _ _ _ _ _ us hl=>by obtain ⟨a,b,rfl⟩:=dn hl; rfl) fun f fd F=>K81.S.y3 F B C__law_wants
 have C__law_waiting:Cal P w K mg base 3 "_law_waiting" ["_law_choir_here"] K81.S.hE:=F__law_waiting.cal X G (fun _ _ _ _ _ _ us hl=>by obtain ⟨a,rfl⟩:=eF hl; rfl) fun f fd F=>K81.S.qb F B C__law_next
 have C__law_round:Cal P w K mg base 3 "_law_round" ["_law_choir_here","_law_most"] K81.S.ke:=F__law_round.cal X G (fun _ _ _ _ _ _ us hl=>by obtain ⟨a,b,rfl⟩:=dn hl; rfl) fun f fd F=>K81.S.vh F B C__law_next
 have C_place_of:Cal P w K mg base 1 "place_of" ["choir","name"] K81.S.mw:=F_place_of.cal X G (fun _ _ _ _ _ _ us hl=>by obtain ⟨a,b,rfl⟩:=dn hl; rfl) fun f fd F=>K81.S.xS F B
 have C_form_of:Cal P w K mg base 1 "form_of" ["words"] K81.S.pQ:=F_form_of.cal X G (fun _ _ _ _ _ _ us hl=>by obtain ⟨a,rfl⟩:=eF hl; rfl) fun f fd F=>K81.S.zF F (PySem.W.mg_of X G aFo) kF
 have C_refuse_wrong_words:Cal P w K mg base 2 "refuse_wrong_words" ["words"] K81.S.tD:=F_refuse_wrong_words.cal X G (fun _ _ _ _ _ _ us hl=>by obtain ⟨a,rfl⟩:=eF hl; rfl) fun f fd F=>K81.S.BD F B mFg C_form_of C_is_written_whole C_is_word
 have C_beyond:Cal P w K mg base 3 "refuse_beyond_desk" ["number","least","most"] ip:=by
  obtain ⟨f1,fd1,F1,a1⟩:=F_beyond
  exact ⟨f1,fd1,vM F1 C_is_whole_within,F1.binds (ps:=["number","least","most"]) (fun _ _ _ _ _ _ us hl=>by obtain ⟨a,b,c,rfl⟩:=pG hl; rfl),F1.kp,PySem.W.mg_of X G a1⟩
 have C_tell_stroke:Cal P w K mg base 8 "tell_stroke" ["choir","bell","n"] K81.S.iM:=F_tell_stroke.cal X G (fun _ _ _ _ _ _ us hl=>by obtain ⟨a,b,c,rfl⟩:=pG hl; rfl) fun f fd F=>K81.S.sT F B mSt C_beyond C_strokes
 have C_tell_waits:Cal P w K mg base 9 "tell_waits" ["choir"] K81.S.jM:=F_tell_waits.cal X G (fun _ _ _ _ _ _ us hl=>by obtain ⟨a,rfl⟩:=eF hl; rfl) fun f fd F=>K81.S.vL F B C_waiting
 have C_tell_round:Cal P w K mg base 11 "tell_round" ["choir","most"] K81.S.jH:=F_tell_round.cal X G (fun _ _ _ _ _ _ us hl=>by obtain ⟨a,b,rfl⟩:=dn hl; rfl) fun f fd F=>K81.S.vW F B mRo C_beyond C_round_of
 have C_tell_of:Cal P w K mg base 12 "tell_of" ["choir","words"] K81.S.oW:=F_tell_of.cal X G (fun _ _ _ _ _ _ us hl=>by obtain ⟨a,b,rfl⟩:=dn hl; rfl) fun f fd F=>K81.S.Aw F B C_show_choir C_tell_waits C_tell_round C_place_of C_tell_stroke
 obtain ⟨ddI,FI⟩:=FDI
 have GI:FnOk P w K mg base CX0 1 fi ddI ["self"] (k9 K):=yo FI
 have bI:Binds K ddI ["self"] []:=FI.binds (ps:=["self"]) fun _ _ _ _ _ _ us hl=>by obtain ⟨a,rfl⟩:=eF hl; rfl
 obtain ⟨ddT,FT⟩:=FDT
 have GT:FnOk P w K mg base CX0 1 ft ddT ["self","word"] (m8 C):=xj FT O
 have bT:Binds K ddT ["self","word"] []:=FT.binds (ps:=["self","word"]) fun _ _ _ _ _ _ us hl=>by obtain ⟨a,b,rfl⟩:=dn hl; rfl
 obtain ⟨ddK,FK⟩:=FDK
 have GK:FnOk P w K mg base CX0 1 fk ddK ["self","word","choir"] (pN C):=Az FK O
 have bK:Binds K ddK ["self","word","choir"] []:=FK.binds (ps:=["self","word","choir"]) fun _ _ _ _ _ _ us hl=>by obtain ⟨a,b,c,rfl⟩:=pG hl; rfl
 obtain ⟨ddC,FC⟩:=FDC
 have GC:FnOk P w K mg base CX0 9 fc ddC ["self","parts"] (jY C):=vg FC B O GK bK C_is_word C_read_choir
 have bC:Binds K ddC ["self","parts"] []:=FC.binds (ps:=["self","parts"]) fun _ _ _ _ _ _ us hl=>by obtain ⟨a,b,rfl⟩:=dn hl; rfl
 obtain ⟨ddS,FS_⟩:=FDS
 have GS:FnOk P w K mg base CX0 13 fs ddS ["self","row"] (sY C):=CA FS_ B O GT bT GC bC C_refuse_wrong_words C_tell_of
 have bS:Binds K ddS ["self","row"] []:=FS_.binds (ps:=["self","row"]) fun _ _ _ _ _ _ us hl=>by obtain ⟨a,b,rfl⟩:=dn hl; rfl
 have C__law_rows:Cal P w K mg base 1 "_law_rows" ["_law_choir_here"] K81.S.lL:=F__law_rows.cal X G (fun _ _ _ _ _ _ us hl=>by obtain ⟨a,rfl⟩:=eF hl; rfl) fun f fd F=>K81.S.wV F B
 have C__law_beat:Cal P w K mg base 3 "_law_beat" ["_law_choir_here","_law_at","_law_n"] K81.S.mZ:=F__law_beat.cal X G (fun _ _ _ _ _ _ us hl=>by obtain ⟨a,b,c,rfl⟩:=pG hl; rfl) fun f fd F=>K81.S.zb F B C__law_next
 have C__law_right:Cal P w K mg base 14 "_law_right" ["_law_desk","_law_choir_here","_law_at","_law_n","_law_most"] (K81.S.lD C):=F__law_right.cal X G (fun _ _ _ _ _ _ us hl=>by obtain ⟨a,b,c,d,e,rfl⟩:=Ej hl; rfl) fun f fd F=>K81.S.yW F B O GS bS C__law_rows C__law_waiting C__law_beat C__law_round
 exact BL F B O mD GI bI C__law_choir C__law_pack C__law_take C__law_right
end K81.S
def PySem.W.Fast.tw11187555702065298990:Nat:=0
def PySem.W.Fast.tw7359874658609629766:Nat:=0
def PySem.W.Fast.tw15056762164739652461:Nat:=0
def PySem.W.Fast.tw17572107446372115060:Nat:=0
def PySem.W.Fast.tw4293129468218363659:Nat:=0
def PySem.W.Fast.tw221477528725504957:Nat:=0
def PySem.W.Fast.tw10188619517577489366:Nat:=0
def PySem.W.Fast.tw16422623037194577860:Nat:=0
def PySem.W.Fast.tw5824753149302868991:Nat:=0
def PySem.W.Fast.tw16545453571624454787:Nat:=0
def PySem.W.Fast.tw11974143640558044631:Nat:=0
def PySem.W.Fast.tw11712922266549137925:Nat:=0
def PySem.W.Fast.tw15782402450066888471:Nat:=0
def PySem.W.Fast.tw8950489998922577615:Nat:=0
def PySem.W.Fast.tw1112964687296762916:Nat:=0
def PySem.W.Fast.tw9630087366366332623:Nat:=0
def PySem.W.Fast.tw9159045370356065642:Nat:=0
def PySem.W.Fast.tw12019384452419871908:Nat:=0
def PySem.W.Fast.tw14379860272843509863:Nat:=0
def PySem.W.Fast.tw17369885043050036275:Nat:=0
def PySem.W.Fast.tw14312098697790137561:Nat:=0
def PySem.W.Fast.tw5293492384539934531:Nat:=0
def PySem.W.Fast.tw13167010489857814058:Nat:=0
def PySem.W.Fast.tw11065412491316366645:Nat:=0
def PySem.W.Fast.tw5737282435357895215:Nat:=0
def PySem.W.Fast.tw10480264438108014551:Nat:=0
def PySem.W.Fast.tw15664552894088605466:Nat:=0
def PySem.W.Fast.tw2276580951314219817:Nat:=0
def PySem.W.Fast.tw15600279902236556499:Nat:=0
open PySem PySem.W PyProof.Rows
set_option maxRecDepth 100000 in
set_option maxHeartbeats 0 in
theorem PySem.Challenge.cw_earbells_k81_whole_rung_as_written_holds : PySem.Challenge.rw_earbells_k81_whole_rung_as_written.Holds := by
  w_on; o_law; k_head; (case hw=>w_witness2)
  k_fill
  refine L2.xv (l:=PySem.Challenge.rw_earbells_k81_whole_rung_as_written) (n:=63) (k:=15) (x:="_law_script") (CX:=L2.CX0) (sp:=K81.S.sO) rfl (by decide) rfl ⟨rfl,by decide,by decide⟩ (fun w h Y=>PySem.W.kIn_of Y) ?F (fun K H a ns hl hO hS=>⟨a,ns,rfl,hS,hl,fun _=>rfl⟩) (fun _ _ _ _ z=>z)
  case F =>
    intro w mg fa h KX G hmg
    refine' K81.S.all KX G hmg ?B ?m0 ?mI ?mM ?mL ?mS ?mO ?mG ?mFg ?mSt ?mRo ?aR ?aA ?aY ?aS ?cR ?oA ?oY ?oS ?eA ?eY ?eS ?xR ?xm0 ?FR ?FA ?FY ?FS ?FW ?FF ?mJ ?mF ?mN ?hN ?aD ?O ?aFo ?kF ?F_beyond ?FDI ?FDT ?FDK ?FDC ?FDS ?F__law_pack ?F__law_take ?F__law_names ?F__law_rule ?F__law_bell ?F__law_choir ?F_is_whole ?F_is_whole_within ?F_rule_of_text ?F_rule_of ?F_is_word ?F_is_name ?F_is_rule ?F_is_listening ?F_are_listenings ?F_is_bell ?F_is_written_whole ?F_read_number ?F_read_rule ?F_read_listening ?F_read_bell ?F_are_rows ?F_read_choir ?F_names_of ?F_rule_of_bell ?F_show_rule ?F_show_listening ?F_show_bell ?F_show_choir ?F_listening_comes ?F_next_found ?F_strokes_behind ?F_strokes ?F_waiting ?F_refuse_waiting ?F_round_of ?F__law_wants ?F__law_next ?F__law_waiting ?F__law_round ?F_place_of ?F_form_of ?F_refuse_wrong_words ?F_tell_stroke ?F_tell_waits ?F_tell_round ?F_tell_of ?F__law_rows ?F__law_beat ?F__law_right ?F_law
    case B =>
      refine' K81.BO KX G ?z1 ?z2 ?z3 ?z4 ?z5 ?z6 ?z7 ?z8 ?z9 ?z10 ?z11 ?z12 ?z13 ?z14 ?z15 ?z16 ?z17 ?z18 ?z19 ?z20
      all_goals k_is
    (case m0=>refine' PySem.W.mg_of KX G ?im0; (case im0=>k_is))
    (case aR=>k_is); (case aA=>k_is); (case aY=>k_is); (case aS=>k_is); (case aD=>k_is); (case aFo=>k_is)
    (case cR=>refine' K81.S.yj ?cRa ?cRb ?cRc ?cRd; (case cRa=>k_is); (case cRb=>k_is); (case cRc=>k_is); (case cRd=>k_is))
    (case oA=>refine' K81.S.tH ?oAa ?oAb ?oAc ?oAd ?oAe ?oAf ?oAg ?oAh ?oAi ?oAj ?oAk ?oAl; (case oAa=>k_is); (case oAb=>k_is); all_goals k_is)
    (case oY=>refine' K81.S.tH ?oYa ?oYb ?oYc ?oYd ?oYe ?oYf ?oYg ?oYh ?oYi ?oYj ?oYk ?oYl; (case oYa=>k_is); (case oYb=>k_is); all_goals k_is)
    (case oS=>refine' K81.S.tH ?oSa ?oSb ?oSc ?oSd ?oSe ?oSf ?oSg ?oSh ?oSi ?oSj ?oSk ?oSl; (case oSa=>k_is); (case oSb=>k_is); all_goals k_is)
    (case eA=>refine' K81.S.pM ?eAa ?eAb ?eAc; (case eAa=>k_is); all_goals k_is)
    (case eY=>refine' K81.S.pM ?eYa ?eYb ?eYc; (case eYa=>k_is); all_goals k_is)
    (case eS=>refine' K81.S.pM ?eSa ?eSb ?eSc; (case eSa=>k_is); all_goals k_is)
    (case xR=>refine' K81.S.AX ?xRa; (case xRa=>k_exc))
    (case xm0=>kts_exm)
    (case O=>refine' K81.S.zL ?dk0 ?dk1 ?dk2 ?dk3 ?dk4 ?dk5 ?dk6 ?dk7 ?dk8 ?dk9 ?dk10 ?dk11 ?dk12 ?dk13 ?dk14 ?dk15 ?dk16 ?dk17 ?dk18 ?dk19 ?dk20; (case dk0=>k_is); (case dk1=>k_is); (case dk2=>k_is); (case dk3=>k_is); (case dk4=>k_is); all_goals k_is)
    (case kF=>refine' K81.S.xG ?kfl ?kfc ?kfm ?kfs; (case kfl=>k_is); (case kfc=>exact rfl); (case kfm=>exact rfl); (case kfs=>exact rfl))
    (case F_beyond=>refine' K81.S.xI ?ya ?yl ?yc ?yk; (case ya=>k_is); (case yl=>k_is); (case yc=>k_is); (case yk=>k_is))
    (case FR=>refine' L2.e6 ?FRl ?FRc ?FRk; (case FRl=>k_is); (case FRc=>k_is); (case FRk=>k_is))
    (case FA=>refine' L2.e6 ?FAl ?FAc ?FAk; (case FAl=>k_is); (case FAc=>k_is); (case FAk=>k_is))
    (case FY=>refine' L2.e6 ?FYl ?FYc ?FYk; (case FYl=>k_is); (case FYc=>k_is); (case FYk=>k_is))
    (case FS=>refine' L2.e6 ?FSl ?FSc ?FSk; (case FSl=>k_is); (case FSc=>k_is); (case FSk=>k_is))
    (case FW=>refine' L2.e6 ?FWl ?FWc ?FWk; (case FWl=>k_is); (case FWc=>k_is); (case FWk=>k_is))
    (case FF=>refine' L2.e6 ?FFl ?FFc ?FFk; (case FFl=>k_is); (case FFc=>k_is); (case FFk=>k_is))
    (case FDI=>refine' L2.e6 ?FDIl ?FDIc ?FDIk; (case FDIl=>k_is); (case FDIc=>k_is); (case FDIk=>k_is))
    (case FDT=>refine' L2.e6 ?FDTl ?FDTc ?FDTk; (case FDTl=>k_is); (case FDTc=>k_is); (case FDTk=>k_is))
    (case FDK=>refine' L2.e6 ?FDKl ?FDKc ?FDKk; (case FDKl=>k_is); (case FDKc=>k_is); (case FDKk=>k_is))
    (case FDC=>refine' L2.e6 ?FDCl ?FDCc ?FDCk; (case FDCl=>k_is); (case FDCc=>k_is); (case FDCk=>k_is))
    (case FDS=>refine' L2.e6 ?FDSl ?FDSc ?FDSk; (case FDSl=>k_is); (case FDSc=>k_is); (case FDSk=>k_is))
    (case mJ=>refine' PySem.W.mg_of KX G ?imJ; (case imJ=>k_is))
    (case mF=>refine' PySem.W.mg_of KX G ?imF; (case imF=>k_is))
    (case mN=>refine' PySem.W.mg_of KX G ?imN; (case imN=>k_is))
    (case hN=>refine' K81.S.B0 ?hNa; (case hNa=>kernel_rfl))
    (case mI=>refine' PySem.W.mg_of KX G ?imI; (case imI=>k_is))
    (case mM=>refine' PySem.W.mg_of KX G ?imM; (case imM=>k_is))
    (case mL=>refine' PySem.W.mg_of KX G ?imL; (case imL=>k_is))
    (case mS=>refine' PySem.W.mg_of KX G ?imS; (case imS=>k_is))
    (case mO=>refine' PySem.W.mg_of KX G ?imO; (case imO=>k_is))
    (case mG=>refine' PySem.W.mg_of KX G ?imG; (case imG=>k_is))
    (case mFg=>refine' PySem.W.mg_of KX G ?imFg; (case imFg=>k_is))
    (case mSt=>refine' PySem.W.mg_of KX G ?imSt; (case imSt=>k_is))
    (case mRo=>refine' PySem.W.mg_of KX G ?imRo; (case imRo=>k_is))
    all_goals (refine' L2.xh ?a ?l ?c ?k; (case a=>k_is); (case l=>k_is); (case c=>k_is); (case k=>k_is))
#print axioms PySem.Challenge.cw_earbells_k81_whole_rung_as_written_holds
end
