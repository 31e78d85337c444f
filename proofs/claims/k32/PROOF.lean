import PyProof.Rows.All
import Wide.All
import OpenK.AllK
import Wide.FinOn
import Lean
import PyProof.EqAt
import PyProof.EqKinds
import PyProof.TupleCall
import PyProof.CollectIter
import PyProof.JoinWalk
import PyProof.StrOps
import PyProof.ListOps
import PyProof.StrLawsJoin
import KE.KRevIter
import PyProof.StrLawsFirst
import PyProof.Rows.StrNews2
import PyProof.StrLawsTight
import PyProof.StrLawsChain
import KE.KIntText
import KE.IntTextLaws
import PyProof.ListStr
import KE.KDictLaws
import KE.KDictList
import PyProof.Rows.SetFrom
import PyProof.FitsReplace
import KE.KEqDict
import PyProof.Rows.SumAny
import PyProof.Rows.CallKwBuiltin
import PyProof.EnumMake
import PyProof.TupleIter
import PyProof.Rows.TupIter
import PyProof.FactsAll.range_2
import PyProof.AutoSeq1
import PyProof.Rows.Range3
import PySem.Challenge.RW_quiltlaw_k32_trees_counted
namespace PySem.W.Fast
def tw7373305212870079552:=0
def tw8856900871483772992:=0
def tw8486141980290035808:=0
def tw12650607722350392480:=0
def tw3033259770077316256:=0
def tw18402071763975936192:=0
def tw9386402969178608832:=0
def tw504504955761174784:=0
def tw7201466567573834016:=0
def tw13885769277374556480:=0
def tw14723167317649308064:=0
def tw18099099329281776032:=0
def tw6355022933582511520:=0
def tw6143364685897941632:=0
def tw6004327273508974240:=0
def tw6153161185926609600:=0
def tw17719353884028660448:=0
def tw17160721263002973920:=0
def tw15855452677257524064:=0
def tw1612745081472757664:=0
def tw18150871414862665632:=0
def tw12641713552039474209:=0
def tw13148137046532377729:=0
def tw17928850812398307489:=0
def tw15945297592481170657:=0
def tw6066512382346792193:=0
def tw7452132004051139841:=0
def tw161168013418133825:=0
def tw7584752001672064353:=0
def tw5186737108995215777:=0
def tw17182228373113334177:=0
def tw6329773908952232481:=0
def tw17821259288137396769:=0
def tw17156535994107016769:=0
def tw4866507863682096737:=0
def tw10107714011785109089:=0
def tw3758996879327008385:=0
def tw10764894940107783809:=0
def tw13881905449303906977:=0
def tw13558341627781704353:=0
def tw7555254505998654209:=0
def tw8051050300561697569:=0
def tw112251826115947297:=0
def tw14509548896922859329:=0
def tw4020786385429962689:=0
def tw11746872189147736162:=0
def tw17259461567089845378:=0
def tw13221020843656517794:=0
def tw17631777335309353154:=0
def tw14548567030989753570:=0
def tw36828337893860738:=0
def tw15608045566331292066:=0
def tw14628898551946844578:=0
def tw13834194699401603586:=0
def tw10345352442049628706:=0
def tw637600577090460226:=0
def tw7132406822518659682:=0
def tw463839953677885058:=0
def tw124252945222843074:=0
def tw11099387001981553378:=0
def tw17912139903642707714:=0
def tw5231873447067303778:=0
def tw12263239349218458530:=0
def tw7361549622041601986:=0
def tw4298352868357940194:=0
def tw3497744815701112867:=0
def tw17856815444265512035:=0
def tw5439428809099570307:=0
def tw5505104812120706467:=0
def tw9201955129449863619:=0
def tw11912297989753802243:=0
def tw14944878174670104099:=0
def tw6224224348252407363:=0
def tw17930964992535755363:=0
def tw8486180084419955299:=0
def tw12603423075752176355:=0
def tw16735383839619528451:=0
def tw5694162914120098627:=0
def tw16599305670728824707:=0
def tw5153807941151744963:=0
def tw6838433360165498851:=0
def tw2344943078702287876:=0
def tw961139699864134660:=0
def tw17435303396576345124:=0
def tw5019466470113814596:=0
def tw17177540032017725540:=0
def tw9053679592256040068:=0
def tw17813021682979876100:=0
def tw6394633842309274948:=0
def tw17483781520534762852:=0
def tw14496509764393083268:=0
def tw6426351759880822148:=0
def tw13034758571728731556:=0
def tw9076773947703850564:=0
def tw8089025489060349572:=0
def tw3132933050214838916:=0
def tw11167132157402152580:=0
def tw716775399941149380:=0
def tw8816050841885853380:=0
def tw7526715614061610692:=0
def tw11126736990982934244:=0
def tw1538542752643794660:=0
def tw13531487638289443556:=0
def tw14424513568942491396:=0
def tw1262167965002411812:=0
def tw8016091892414042916:=0
def tw12453851389112072004:=0
def tw3999639341108084580:=0
def tw2125257540339400676:=0
def tw1626325735877124068:=0
def tw15858227767918362757:=0
def tw8850451546683472101:=0
def tw2240364509776733477:=0
def tw4826308896110128485:=0
def tw9039730937322587557:=0
def tw5420169836963391909:=0
def tw17457553251645267621:=0
def tw18288076333931192005:=0
def tw5737579845938916133:=0
def tw14851559861650540325:=0
def tw13030884336658008901:=0
def tw9316553919285730213:=0
def tw18159586402593846181:=0
def tw14502955199057737766:=0
def tw6581750285355769990:=0
def tw5023949635358652582:=0
def tw13704458273704863942:=0
def tw14772513053102493894:=0
def tw4446620552915943686:=0
def tw6041013138166532422:=0
def tw5506816547468035398:=0
def tw7354228858435123526:=0
def tw9828769480847420838:=0
def tw16832090970395475462:=0
def tw2218637468026906182:=0
def tw10448451568266091174:=0
def tw7464845044300400294:=0
def tw12848985061576858278:=0
def tw977417757378481862:=0
def tw10441640784518660806:=0
def tw14611580592511736518:=0
def tw12224960978549858054:=0
def tw6579746615801341894:=0
def tw4815918212371719175:=0
def tw10566545047549804583:=0
def tw12147053411691003943:=0
def tw8741436246869320807:=0
def tw14317241588420347111:=0
def tw9748387264392895751:=0
def tw12956662629477628167:=0
def tw215811152609518919:=0
def tw4409232031159073095:=0
def tw6056552510876820903:=0
def tw5755887417243680295:=0
def tw913869159595480647:=0
def tw12072619009095164551:=0
def tw9245593820251343591:=0
def tw9124193284224264967:=0
def tw6605080539716313927:=0
def tw6288423105127726055:=0
def tw13924485453097596936:=0
def tw11016365765943395432:=0
def tw14686892648853528680:=0
def tw5271510634903352456:=0
def tw11529568501617439912:=0
def tw3014131144615808232:=0
def tw4261622877253726440:=0
def tw7260518367398790440:=0
def tw14191598038583379304:=0
def tw17516993533001228712:=0
def tw8679635744482668008:=0
def tw15888354798787459592:=0
def tw7082830564607493672:=0
def tw14204097352860091976:=0
def tw4842558044573297288:=0
def tw17246412771824773800:=0
def tw2430826174154801896:=0
def tw17661301920480223976:=0
def tw3972781193727861512:=0
def tw17610538474100942664:=0
def tw14475135941371052936:=0
def tw14257633076108535720:=0
def tw5126126549460424648:=0
def tw17767868941613693961:=0
def tw1874646049788716073:=0
def tw5256790930511520809:=0
def tw14022920860780263465:=0
def tw2672133363759387817:=0
def tw2010279178311425289:=0
def tw3742812549725066537:=0
def tw9065041058947999145:=0
def tw5584582323374665129:=0
def tw18363657559685411305:=0
def tw10971303326671327721:=0
def tw18047168269649241577:=0
def tw704710333714533897:=0
def tw15860340427405533705:=0
def tw492665126298039817:=0
def tw4894983568630733353:=0
def tw6130774803386616393:=0
def tw13114694331631047273:=0
def tw2317629967226259145:=0
def tw5721878161529937705:=0
def tw16324457136423030601:=0
def tw9385195600843108169:=0
def tw11814408959785080681:=0
def tw16621880381719935913:=0
def tw8549080947848835082:=0
def tw15723448697793334314:=0
def tw8012200730398856234:=0
def tw3290690576995335242:=0
def tw2548247344443842730:=0
def tw15193345753747414186:=0
def tw16358094192758503626:=0
def tw11139296904544517386:=0
def tw3448342965530729802:=0
def tw3950373342315281738:=0
def tw17783308754677419402:=0
def tw13642363073914572234:=0
def tw9134597915298289162:=0
def tw2505546881315447338:=0
def tw6360623381780513354:=0
def tw1642233267837882986:=0
def tw16342194768185300586:=0
def tw18298511735292512938:=0
def tw9828018692013189994:=0
def tw2860135388552678314:=0
def tw1157561015802449866:=0
def tw12205973579250399210:=0
def tw3185970361911333899:=0
def tw6889253192136730699:=0
def tw1522434538009503851:=0
def tw9442993720206821515:=0
def tw11615838177854608587:=0
def tw13592387847847278827:=0
def tw7569582426947177739:=0
def tw9198327492037479723:=0
def tw11555176854379215243:=0
def tw4628597829976664459:=0
def tw8424405090114429355:=0
def tw14096910282173085099:=0
def tw9844192697089004043:=0
def tw7458729241280052779:=0
def tw18289253136100961899:=0
def tw2949442956959429291:=0
def tw9931234686921504459:=0
def tw5708513798756182827:=0
def tw478522541919805259:=0
def tw365565175993894763:=0
def tw7882450103816023979:=0
def tw115761414283505611:=0
def tw3046594363262153707:=0
def tw16950805798536120299:=0
def tw12242287078764038220:=0
def tw6226875212986125420:=0
def tw3711370133301692556:=0
def tw17288000414516452524:=0
def tw10876430364223813836:=0
def tw12099819236401451308:=0
def tw4505512766956229932:=0
def tw10975016399406269772:=0
def tw3475145866573029708:=0
def tw8400368835437849996:=0
def tw1463620978572162604:=0
def tw2379971790551739948:=0
def tw4305296298673073740:=0
def tw11773451146714123884:=0
def tw7052983863107973772:=0
def tw11869932121815484236:=0
def tw467713937371707244:=0
def tw6933508963938107340:=0
def tw11506993668325923853:=0
def tw3480034434660134957:=0
def tw142780350396428333:=0
def tw1945581780569290925:=0
def tw11575936488801108493:=0
def tw15762269600675472973:=0
def tw12252826566743081549:=0
def tw8011501272671220301:=0
def tw4894156213823517325:=0
def tw6409713346328319693:=0
def tw15681668287376603917:=0
def tw14809255856888771341:=0
def tw7455072140052546477:=0
def tw8747931134999316429:=0
def tw11206580967705239501:=0
def tw1440760263328163789:=0
def tw17349653290164278253:=0
def tw12848638391424431182:=0
def tw16546787791454770286:=0
def tw11773349832341404782:=0
def tw6360882618667694254:=0
def tw3213673706133142734:=0
def tw12806629880801834254:=0
def tw16201925099887994254:=0
def tw18225180393577233806:=0
def tw3352033808193037838:=0
def tw12082374628220951054:=0
def tw5373279388714528302:=0
def tw6230861133989187150:=0
def tw9871208090061098574:=0
def tw13330595133269889678:=0
def tw13940634233559230126:=0
def tw14236199221699168942:=0
def tw2164291921452684974:=0
def tw16554664784294603630:=0
def tw10524184544406897550:=0
def tw1290315395486764974:=0
def tw17860084004314330062:=0
def tw3962357881396453358:=0
def tw7001723529039843343:=0
def tw15211103533721673775:=0
def tw14587291845519530063:=0
def tw16177074437855733935:=0
def tw14304403781597749455:=0
def tw4273487614954142927:=0
def tw10500069526318772495:=0
def tw13943551779229758863:=0
def tw15183398716102026639:=0
def tw2280010529731184047:=0
def tw9382141441631444431:=0
def tw10075527947394487823:=0
def tw16063915400814187023:=0
def tw8355248915505671695:=0
def tw3326459169954154063:=0
def tw13615061711433143951:=0
def tw13503324635407191823:=0
def tw8704463904883099407:=0
def tw207506347317438255:=0
def tw15618104612160544591:=0
def tw1810113809882497935:=0
def tw2121617340939445199:=0
def tw15152430607181049807:=0
def tw7765857625708929007:=0
def tw1804963128763074608:=0
def tw9013754280756004944:=0
def tw2095127858618458192:=0
def tw17862458885905593488:=0
def tw7427534545520194736:=0
def tw17838840866435639536:=0
def tw5263192124645236976:=0
def tw1069295317734216976:=0
def tw14041048099021986096:=0
def tw11622770551993288048:=0
def tw17070661954181633520:=0
def tw7891753613841716752:=0
def tw2368450674719837744:=0
def tw13350560925871503984:=0
def tw11780522862036080336:=0
def tw1137765792945124080:=0
def tw17702937839135881968:=0
def tw9396872943336233808:=0
def tw5871761342567776144:=0
def tw3737601293522964432:=0
def tw675889700768621617:=0
def tw15923656765763571825:=0
def tw2652823719728435345:=0
def tw17511270526663573649:=0
def tw4096810707304631473:=0
def tw8043010903626821841:=0
def tw12706627675203329265:=0
def tw10110446364577076497:=0
def tw18348217634064778513:=0
def tw5379750993822677297:=0
def tw14514853018817271217:=0
def tw5980128222820016625:=0
def tw7995300490209832433:=0
def tw8597823208948247089:=0
def tw14045380738839352913:=0
def tw9209060221126828657:=0
def tw1925768698044304017:=0
def tw10870840702344419089:=0
def tw10623588040021659441:=0
def tw13396252105406625585:=0
def tw11705312871540264849:=0
def tw2404377478971152305:=0
def tw8985927155536019409:=0
def tw10355867811967017937:=0
def tw17711906969323169810:=0
def tw3192549580772643922:=0
def tw3016335320105870418:=0
def tw9405452945316428914:=0
def tw10681874057662496914:=0
def tw13996096641414510834:=0
def tw717665127761849746:=0
def tw1148534938155345458:=0
def tw815799680490390162:=0
def tw3413337769341987506:=0
def tw7047684372891725490:=0
def tw7615157833553622866:=0
def tw14518271640121521042:=0
def tw14790282194211158994:=0
def tw13452126870663742579:=0
def tw17738106203647103091:=0
def tw6271176204079890579:=0
def tw2862722768059396275:=0
def tw1076214604301045971:=0
def tw10670402826550069619:=0
def tw12149185250504297875:=0
def tw10139452019360256563:=0
def tw7050095758274129459:=0
def tw7207801098558874195:=0
def tw16970127433803316851:=0
def tw3718278313130620531:=0
def tw7432658490707716755:=0
def tw16035709482129977075:=0
def tw6127045918656571379:=0
def tw17142983507336411123:=0
def tw576299429203172339:=0
def tw385094455746419796:=0
def tw5117815804181230708:=0
def tw14369977874294211700:=0
def tw8952468251309738164:=0
def tw2874616277595173076:=0
def tw5031997712481826036:=0
def tw8330367280315251988:=0
def tw17164399801397632276:=0
def tw11985568519368121652:=0
def tw1872816349908225332:=0
def tw11567045527827833140:=0
def tw10370024229913591092:=0
def tw1542357370511396180:=0
def tw12361622347734770068:=0
def tw14580259717280775604:=0
def tw2678527220730794420:=0
def tw3606266255309635028:=0
def tw1090222282052974132:=0
def tw12667244065978642036:=0
def tw7046479811691841172:=0
def tw15103351629226744468:=0
def tw2910621044981103252:=0
def tw4132924789645532916:=0
def tw7516929558431594228:=0
def tw15604535099285228308:=0
def tw10957856154128932628:=0
def tw2024222636910269364:=0
def tw8379340162652552180:=0
def tw16084544374448160789:=0
def tw1860919493334046741:=0
def tw16506760036242466837:=0
def tw14704039913994417173:=0
def tw2512928852682254389:=0
def tw6072928833262311605:=0
def tw3254981811896647989:=0
def tw4995233511656636821:=0
def tw13583047246451298709:=0
def tw14795658361659587989:=0
def tw3034345408064786869:=0
def tw17863287091891359189:=0
def tw14342221901388962261:=0
def tw12487507468551715317:=0
def tw2264591016743810581:=0
def tw13947145896141100565:=0
def tw17658257076183774773:=0
def tw11179841356986475093:=0
def tw13297308673075709589:=0
def tw17343864913696439061:=0
def tw10076549266054043477:=0
def tw7040865220554661717:=0
def tw11297699009054484373:=0
def tw13573777255239522229:=0
def tw11436653391707567061:=0
def tw7453278052726105077:=0
def tw17454703799066479638:=0
def tw1156833705551737974:=0
def tw2414886351319106742:=0
def tw15029876734944583958:=0
def tw16481251298573711670:=0
def tw13711221849271154006:=0
def tw14112506666246536662:=0
def tw15832454146253513238:=0
def tw15780129054617329238:=0
def tw3615739545931270870:=0
def tw15653469194035477206:=0
def tw10594398723444407030:=0
def tw8106737832221214486:=0
def tw1227212277457881878:=0
def tw2999052156642355030:=0
def tw1473681300978547670:=0
def tw9238451746351796182:=0
def tw1178503907025425366:=0
def tw15901799947295105014:=0
def tw15028850905264140278:=0
def tw6814806118853696502:=0
def tw7625842922417970231:=0
def tw10572952692656121911:=0
def tw6793146353065634967:=0
def tw16018693949134493911:=0
def tw7809998917965878519:=0
def tw3234508496383704311:=0
def tw4481197342929246551:=0
def tw7682123828502877559:=0
def tw9422952704266026551:=0
def tw11954398586448542263:=0
def tw4611784382927355479:=0
def tw9406291314893416119:=0
def tw12902265566422876887:=0
def tw2102836124450119415:=0
def tw2341397762664457975:=0
def tw14760729195608135447:=0
def tw6314075958141689719:=0
def tw8715406609266798616:=0
def tw1546801950284192824:=0
def tw2683393463005382712:=0
def tw10083376456856951928:=0
def tw9209189780573667448:=0
def tw14877591812318972056:=0
def tw1326140877221311704:=0
def tw7212977121701813464:=0
def tw12780319740960399576:=0
def tw6258483907450174776:=0
def tw11169084749572861240:=0
def tw14735156968814469592:=0
def tw16892054602399405656:=0
def tw10553804722598359736:=0
def tw3647606017111476952:=0
def tw4009595437875004120:=0
def tw3798894381008975608:=0
def tw7507807293765400568:=0
def tw6535584522744833081:=0
def tw3706439770339923001:=0
def tw16083417073806730393:=0
def tw10405445793615246489:=0
def tw9968406506993902841:=0
def tw11449689572636398873:=0
def tw4743012020374190361:=0
def tw15825167741862441273:=0
def tw18155522873689086361:=0
def tw6360569752478917081:=0
def tw7557524192334055929:=0
def tw7192403137359689273:=0
def tw13803976656310991481:=0
def tw10981836124595639097:=0
def tw3850488291483427737:=0
def tw9599223510371607449:=0
def tw8127001015272646553:=0
def tw16668572951509303225:=0
def tw15548032637873227769:=0
def tw16247908265072496633:=0
def tw16884041314601675802:=0
def tw10950977235834714202:=0
def tw6567120978228787290:=0
def tw5397095722346081402:=0
def tw17652928552267182234:=0
def tw10454679425607164154:=0
def tw17445135630613357850:=0
def tw1575289238264247642:=0
def tw1597218106838399418:=0
def tw7629528581112080890:=0
def tw7827064950669021754:=0
def tw9805872105241107034:=0
def tw17180545731415725690:=0
def tw11751411648337962682:=0
def tw5923772326504806138:=0
def tw9817058008208918266:=0
def tw5200818673962669850:=0
def tw13092508122223833882:=0
def tw6186543318009321434:=0
def tw5457788766249054202:=0
def tw9329223426540990555:=0
def tw3076445851873418459:=0
def tw9180397821729921275:=0
def tw4053265482667507067:=0
def tw12921556128947227003:=0
def tw16069678015845715323:=0
def tw3542122635021022715:=0
def tw2174935416136644123:=0
def tw1696167396766908987:=0
def tw7920300433641940539:=0
def tw5113013701674389115:=0
def tw2759669474093568731:=0
def tw14865180893066069755:=0
def tw4934955243638239035:=0
def tw14983351388446254939:=0
def tw13095784483131346779:=0
def tw18149985291517190043:=0
def tw10100869412450112443:=0
def tw4510353001982792699:=0
def tw11596586313712378908:=0
def tw10142041493534345308:=0
def tw6373451582771606748:=0
def tw8133917146826361052:=0
def tw3678346803602160892:=0
def tw16012894284271778044:=0
def tw15345548562836840796:=0
def tw9515904079282410844:=0
def tw3880667775617881468:=0
def tw4145693628249963996:=0
def tw14047972640486507100:=0
def tw6801854840701903452:=0
def tw162140279281601212:=0
def tw15441916296943058652:=0
def tw6400174935724099452:=0
def tw2719125345241206684:=0
def tw18137978839595559900:=0
def tw7644817702871568380:=0
def tw2969312172073181180:=0
def tw14328741871993133181:=0
def tw13207415235859196093:=0
def tw2355970288469829853:=0
def tw4516293341843293469:=0
def tw14856881205538941309:=0
def tw14504693074630315389:=0
def tw4061517460804262301:=0
def tw8903172154558436861:=0
def tw10152495812111011453:=0
def tw17109432423686284989:=0
def tw9339813474821909245:=0
def tw3904644838812052221:=0
def tw11149710954508048157:=0
def tw17245635734930374461:=0
def tw16171324885847613437:=0
def tw14055851574148880478:=0
def tw10544067610559965438:=0
def tw931307152672075006:=0
def tw16790794058924121598:=0
def tw8721816139804184158:=0
def tw7675094523348806238:=0
def tw8671827563968766590:=0
def tw10785113530874042142:=0
def tw14313261685970315038:=0
def tw10359923519903099774:=0
def tw1764229328796923935:=0
def tw15410352200526191647:=0
def tw5533492197471906911:=0
def tw3656541854144783583:=0
def tw10349729921157461247:=0
def tw10165792821897917695:=0
def tw16132776244966995263:=0
def tw14936576034507310399:=0
def tw1985106634952365503:=0
def tw12116131144924618207:=0
def tw3495550328598757887:=0
def tw17308250772981458431:=0
def tw4540022582957416031:=0
def tw4030882730512733823:=0
def tw2221710722552686207:=0
def tw12277225509456762527:=0
def tw16027922971297238815:=0
def tw10968424166250050335:=0
def tw6142087979413734207:=0
def tw2432117003505825663:=0
def tw7193259610602739615:=0
def tw6492756690323222527:=0
def tw13544671357505833983:=0
def tw17825905687782926609:=0
end PySem.W.Fast
set_option linter.all false
set_option Elab.async false
set_option maxRecDepth 100000
abbrev mk:=@List.getElem?_eq_getElem
abbrev CM:=@List.getElem?_eq_some_iff
abbrev CO:=@PySem.Heap.get?_push_of_some
abbrev CP:=@List.length_map
abbrev CQ:=@List.mem_singleton
abbrev CS:=@List.getElem?_map
abbrev CU:=@List.mem_of_getElem?
abbrev CV:=@PySem.Heap.get?_update_other
abbrev CW:=@PySem.Heap.get?_push_size
abbrev CY:=@List.size_toArray
abbrev CZ:=@List.getElem_mem
abbrev C4:=@PySem.Heap.get?_update_self
abbrev C5:=@List.length_cons
abbrev C6:=@List.map_append
abbrev C7:=@List.mem_append
abbrev C8:=@List.map_map
abbrev C9:=@List.mem_cons
abbrev C_:=@List.mem_cons_of_mem
abbrev Da:=@Nat.lt_of_lt_of_le
abbrev Db:=@Nat.ne_of_lt
abbrev Dc:=@List.getElem?_append_right
abbrev Dd:=@List.getElem?_append_left
abbrev Df:=@List.length_append
abbrev Dg:=@Nat.le_refl
abbrev Dh:=@Nat.zero_le
abbrev Di:=@Bool.false_ne_true
abbrev Dj:=@PySem.Heap.lt_size
abbrev Dk:=@List.getElem?_cons_succ
abbrev Dl:=@List.map_cons
abbrev Dm:=@Nat.le_trans
abbrev Do:=@Nat.lt_irrefl
abbrev Dp:=@Nat.lt_succ_self
abbrev Dq:=@List.append_nil
abbrev Dr:=@List.getElem?_set_self
abbrev Ds:=@List.take_length
abbrev Du:=@List.length_take
abbrev Dv:=@List.length_drop
abbrev Dw:=@Nat.lt_of_le_of_lt
abbrev Dx:=@List.length_eq_zero_iff
abbrev Dy:=@List.mem_map
abbrev Dz:=@List.all_eq_true
abbrev DA:=@Nat.add_le_add_left
abbrev DB:=@List.nil_append
abbrev DC:=@Int.emod_nonneg
abbrev DD:=@Int.emod_lt_of_pos
abbrev DE:=@Int.toNat_of_nonneg
abbrev DF:=@Nat.min_eq_left
abbrev DG:=@List.drop_zero
namespace L2
open PySem PySem.Spec PyProof.Rows
noncomputable abbrev bS:=Sum Int Str
noncomputable def mI:bS->Value->Bool
 | .inl k,v=>Value.isInt k v
 | .inr x,v=>Value.isStrOf x v
noncomputable def Ae(w:World):bS->Int
 | .inl k=>hashInt k
 | .inr x=>hashStr w x
theorem bu:∀{k:bS} {v:Value},mI k v=true->(∃i t,k=Sum.inl i/\v=Value.int i t)\/(∃x t,k=Sum.inr x/\v=Value.str x t)
 | .inl i,v,h=>by
  obtain⟨t,e⟩:=Value.isInt_shape (k:=i) (v:=v) h;exact .inl ⟨i,t,rfl,e⟩
 | .inr x,v,h=>by
  obtain⟨t,e⟩:=Value.isStrOf_shape (x:=x) (v:=v) h;exact .inr ⟨x,t,rfl,e⟩
theorem uF(i:Int)(t:Tok):mI (.inl i) (.int i t)=true:=by simp[mI,Value.isInt]
theorem uX(x:Str)(t:Tok):mI (.inr x) (.str x t)=true:=by simp[mI,Value.isStrOf]
theorem yH(a b:Int):decide ((Sum.inl a:bS)=Sum.inl b)=(a==b):=by
 by_cases e:a=b
 ·subst e;simp
 ·have h:¬ (Sum.inl a:bS)=Sum.inl b:=fun q=>e (Sum.inl.inj q)
  rw[decide_eq_false h];exact(beq_eq_false_iff_ne.mpr e).symm
theorem yv(a b:Str):decide ((Sum.inr a:bS)=Sum.inr b)=decide (a=b):=by
 by_cases e:a=b
 ·subst e;simp
 ·have h:¬ (Sum.inr a:bS)=Sum.inr b:=fun q=>e (Sum.inr.inj q)
  rw[decide_eq_false h,decide_eq_false e]
theorem yi(a:Int)(b:Str):decide ((Sum.inl a:bS)=Sum.inr b)=false:=decide_eq_false (fun q=>nomatch q)
theorem yB(a:Str)(b:Int):decide ((Sum.inr a:bS)=Sum.inl b)=false:=decide_eq_false (fun q=>nomatch q)
noncomputable def bi(prog:Program)(w:World):PySem.KeyKind prog w bS where
 is:=mI
 hash:=Ae w
 inj:=fun v a b ha hb=>by
  rcases bu ha with⟨i,t,rfl,rfl⟩ | ⟨x,t,rfl,rfl⟩
  ·rcases bu hb with⟨j,u,rfl,e⟩ | ⟨y,u,rfl,e⟩
   ·injection e with e1 _;rw[e1]
   ·exact nomatch e
  ·rcases bu hb with⟨j,u,rfl,e⟩ | ⟨y,u,rfl,e⟩
   ·exact nomatch e
   ·injection e with e1 _;rw[e1]
 byValue:=fun k v h=>by
  rcases bu h with⟨i,t,rfl,rfl⟩ | ⟨x,t,rfl,rfl⟩<;>rfl
 pyHash:=fun hv h=>by
  rcases bu hv with⟨i,t,rfl,rfl⟩ | ⟨x,t,rfl,rfl⟩
  ·exact wpAny_pyHash_int h
  ·exact wpAny_pyHash_str h
 eqBool:=fun hu hv h=>by
  rcases bu hu with⟨i,t,rfl,rfl⟩ | ⟨x,t,rfl,rfl⟩
  ·rcases bu hv with⟨j,u,rfl,rfl⟩ | ⟨y,u,rfl,rfl⟩
   ·rw[yH]at h;exact wpAny_eqBool_int h
   ·rw[yi]at h;exact SeqAt.EqAt.int_str i t y u _ _ _ _ h
  ·rcases bu hv with⟨j,u,rfl,rfl⟩ | ⟨y,u,rfl,rfl⟩
   ·rw[yB]at h;exact SeqAt.EqAt.str_int x t j u _ _ _ _ h
   ·rw[yv]at h;exact wpAny_eqBool_str h
 «strs»:=fun k x t v h=>by
  rcases bu h with⟨i,u,rfl,e⟩ | ⟨y,u,rfl,e⟩
  ·exact nomatch e
  ·injection e with e1 _
   subst e1;cases v<;>rfl
theorem pw(prog:Program)(w:World)(i:Int)(t:Tok):(bi prog w).is (.inl i) (.int i t)=true:=uF i t
theorem pP(prog:Program)(w:World)(x:Str)(t:Tok):(bi prog w).is (.inr x) (.str x t)=true:=uX x t
inductive V where
 |non | bl (b:Bool) | int (i:Int) | str (x:Str) | byt (b:Array UInt8) | flt (b:UInt64) | ref (a:Addr) | ty (n:String)
 deriving DecidableEq
noncomputable def aG:V->Value->Prop
 | .non,u=>u=Value.none
 | .bl b,u=>u=Value.bool b
 | .int i,u=>∃t,u=Value.int i t
 | .str x,u=>∃t,u=Value.str x t
 | .byt b,u=>∃t,u=Value.bytes b t
 | .flt b,u=>∃t,u=Value.float b t
 | .ref a,u=>u=Value.ref a
 | .ty n,u=>u=Value.type n
noncomputable abbrev aH:List V->List Value->Prop:=Paired aG
theorem aH.length{xs:List V}{us:List Value}(r:aH xs us):xs.length=us.length:=Paired.length r
theorem aH.get:∀{xs:List V} {us:List Value} {i:Nat} {x:V},aH xs us->xs[i]?=some x->∃u,us[i]?=some u/\aG x u
 |_,_,_,_,.nil,e=>by simp at e
 |_,_,0,_,.cons r _,e=>by simp at e;subst e;exact⟨_,rfl,r⟩
 |_,_,i+1,x,.cons _ t,e=>by
  obtain⟨u,h1,h2⟩:=aH.get (i:=i) (x:=x) t (by simpa using e);exact⟨u,by simpa using h1,h2⟩
theorem aH.append:∀{xs ys:List V} {us ws:List Value},aH xs us->aH ys ws->aH (xs++ys) (us++ws)
 |_,_,_,_,.nil,s=>s
 |_,_,_,_,.cons r t,s=>.cons r (aH.append t s)
theorem aH.take:∀{xs:List V} {us:List Value} (n:Nat),aH xs us->aH (xs.take n) (us.take n)
 |_,_,0,_=>.nil
 |_,_,_+1,.nil=>.nil
 |_,_,n+1,.cons r t=>.cons r (aH.take n t)
theorem aH.drop:∀{xs:List V} {us:List Value} (n:Nat),aH xs us->aH (xs.drop n) (us.drop n)
 |_,_,0,r=>r
 |_,_,_+1,.nil=>.nil
 |_,_,n+1,.cons _ t=>aH.drop n t
noncomputable def fj:Option V->Option Value->Prop
 |some v,some u=>aG v u
 |none,none=>True
 |_,_=>False
noncomputable def KV{κ:Type}:List (κ×V)->List (κ×Value)->Prop:=Paired fun(p:κ×V) (q:κ×Value)=>p.1=q.1/\aG p.2 q.2
noncomputable def kV:bS->V
 | .inl i=>.int i
 | .inr x=>.str x
inductive HO where
  |lst (xs:List V)
  |tup (xs:List V)
  |dK (kvs:List (bS×V)) | dT (kvs:List (List bS×V))
  |set(S:Int->Bool) (n:Nat)
  |ins (C dx:Addr) (fs:List (Str×V))
  |own (x:Addr)
  |xd (fs:List (Str×V))
  |met (f x:Addr)
  |rng (lo hi:Int)
  |frz (o:Obj) (u:HO)
  |tbl (ps:Array Value)
  |ext (φ:Heap->Prop)
noncomputable abbrev Hp:=Addr->Option HO
noncomputable def ar(H:Hp)(a:Addr)(o:HO):Hp:=fun b=>if b=a then some o else H b
theorem ac{H:Hp}{a:Addr}{o:HO}:ar H a o a=some o:=by unfold ar;rw[if_pos rfl]
theorem ah{H:Hp}{a b:Addr}{o:HO}(h:b≠a):ar H a o b=H b:=by unfold ar;rw[if_neg h]
theorem jd{H:Hp}{a:Addr}{o u:HO}:ar (ar H a o) a u=ar H a u:=by
 funext b;unfold ar;split<;>rfl
theorem zl{H:Hp}{a b:Addr}{o u:HO}(h:H a=some o)(h':H b=some u)(d:o≠u):a≠b:=by
 intro e;subst e;rw[h]at h';exact d (Option.some.inj h')
theorem au{H:Hp}{a b:Addr}{o:HO}(h:H a=some o)(h':H b=none):a≠b:=by
 intro e;subst e;rw[h]at h';cases h'
section
variable (P:Program)(w:World)
noncomputable def aX(H:Hp)(h:Heap)(a:Addr):HO->Prop
 | .lst xs=>xs.length<=sizeLine/\∃(its:List Value) (n:Nat),aH xs its/\h.get? a=some {cls:=.type "list",data:=.seq its.toArray n}
 | .tup xs=>xs.length<=sizeLine/\∃its:List Value,aH xs its/\IsTup h a its.toArray
 | .dK kvs=>kvs.length<=sizeLine/\(a==sysModules)=false/\∃vs,KV kvs vs/\h.DictOf (bi P w) a vs
 | .dT kvs=>kvs.length<=sizeLine/\(a==sysModules)=false/\∃xs:List (List bS×Addr×Value),
   Paired (fun(p:List bS×V) (q:List bS×Addr×Value)=>p.1=q.1/\H q.2.1=some (.tup (p.1.map kV))/\aG p.2 q.2.2) kvs xs /\
   ∃o es ep,h.get? a=some o/\o.ExactDict/\o.data=.dict es ep/\es.toList=xs.map (entryOfKey (tupleKind (bi P w)))/\(xs.map (·.1)).Nodup
 | .set S n=>h.SetOf (intKind P w) a S n
 | .ins C dx fs=>H dx=some (.own a)/\fs.length<=1000/\dx≠a/\h.get? a=some (PySem.W.instObj C dx) /\
   ∃mA,h.Ns1 dx mA/\(∀f,fj (fs.lookup f) (mA f))/\PySem.Within mA (fs.map (·.1))
 | .own _=>∃o,h.get? a=some o
 | .xd fs=>∃mA,h.Ns1 a mA/\∀f,fj (fs.lookup f) (mA f)
 | .rng lo hi=>∃t u v,h.get? a=some {cls:=.type "range",data:=.fields #[.int lo t,.int hi u,.int 1 v]}
 | .frz o u=>h.get? a=some o/\aX H h a u
 | .tbl ps=>h.get? a=some {cls:=.none,data:=.fields ps}
 | .met f x=>h.get? a=some (PySem.W.methodObj (.ref f) (.ref x))
 | .ext φ=>φ h/\(∃o,h.get? a=some o)/\∀h1 h2:Heap,φ h1->(∀o,h1.get? a=some o->h2.get? a=some o)->φ h2
noncomputable def ip(H:Hp)(h:Heap):Prop:=∀a o,H a=some o->aX P w H h a o
end
section
variable {P:Program}{w:World}{H H':Hp}{h h':Heap}{a:Addr}{o:HO}
theorem aX.lt(x:aX P w H h a o):a<h.objs.size:=by
 cases o with
 |lst xs=>obtain⟨_,_,_,_,e⟩:=x;exact Dj e
 |tup xs=>obtain⟨_,_,_,p⟩:=x;exact p.lt
 |dK kvs=>obtain⟨_,_,_,_,o,_,_,e,_⟩:=x;exact Dj e
 |dT kvs=>obtain⟨_,_,_,_,o,_,_,e,_⟩:=x;exact Dj e
 |set S n=>obtain⟨o,_,_,_,e,_⟩:=x;exact Dj e
 |ins C dx fs=>obtain⟨_,_,_,e,_⟩:=x;exact Dj e
 |own y=>obtain⟨_,e⟩:=x;exact Dj e
 |xd fs=>obtain⟨_,⟨_,_,_,e,_⟩,_⟩:=x;exact Dj e
 |rng lo hi=>obtain⟨_,_,_,e⟩:=x;exact Dj e
 |frz ob u=>obtain⟨e,_⟩:=x;exact Dj e
 |tbl ps=>exact Dj (show h.get? a=some _ from x)
 |met f y=>exact Dj (show h.get? a=some _ from x)
 |ext φ=>obtain⟨_,⟨_,e⟩,_⟩:=x;exact Dj e
theorem Paired.mapP{α β:Type}{F G:α->β->Prop}:∀{l₁:List α} {l₂:List β},Paired F l₁ l₂->(∀a b,F a b->G a b)->Paired G l₁ l₂
 |_,_,.nil,_=>.nil
 |_,_,.cons r t,f=>.cons (f _ _ r) (Paired.mapP t f)
theorem aX.stay(x:aX P w H h a o)(k:∀b u,(b=a\/H b=some (.own a))->h.get? b=some u->h'.get? b=some u)
  (ho:∀b,H b=some (.own a)->H' b=some (.own a)) (ht:∀b xs,H b=some (.tup xs)->H' b=some (.tup xs)):aX P w H' h' a o:=by
 induction o with
 |lst xs=>obtain⟨z,its,n,r,e⟩:=x;exact⟨z,its,n,r,k _ _ (.inl rfl) e⟩
 |tup xs=>obtain⟨z,its,r,ob,e,c⟩:=x;exact⟨z,its,r,ob,k _ _ (.inl rfl) e,c⟩
 |dK kvs=>obtain⟨z,y,vs,r,ob,es,ep,e,c⟩:=x;exact⟨z,y,vs,r,ob,es,ep,k _ _ (.inl rfl) e,c⟩
 |dT kvs=>
  obtain⟨z,y,xs,r,ob,es,ep,e,c⟩:=x;exact⟨z,y,xs,Paired.mapP r fun p q z=>⟨z.1,ht _ _ z.2.1,z.2.2⟩,ob,es,ep,k _ _ (.inl rfl) e,c⟩
 |set S n=>obtain⟨ob,es,ep,t,e,c⟩:=x;exact⟨ob,es,ep,t,k _ _ (.inl rfl) e,c⟩
 |ins C dx fs=>
  obtain⟨d,z,ne,e,mA,⟨od,es,ep,e2,c⟩,r⟩:=x;exact⟨ho _ d,z,ne,k _ _ (.inl rfl) e,mA,⟨od,es,ep,k _ _ (.inr d) e2,c⟩,r⟩
 |own y=>obtain⟨ob,e⟩:=x;exact⟨ob,k _ _ (.inl rfl) e⟩
 |xd fs=>obtain⟨mA,⟨od,es,ep,e,c⟩,r⟩:=x;exact⟨mA,⟨od,es,ep,k _ _ (.inl rfl) e,c⟩,r⟩
 |rng lo hi=>obtain⟨t,u,v,e⟩:=x;exact⟨t,u,v,k _ _ (.inl rfl) e⟩
 |frz ob u ih=>obtain⟨e,q⟩:=x;exact⟨k _ _ (.inl rfl) e,ih q⟩
 |tbl ps=>
  have e:h.get? a=some {cls:=.none,data:=.fields ps}:=x;show h'.get? a=some {cls:=.none,data:=.fields ps};exact k a _ (.inl rfl) e
 |met f y=>
  have e:h.get? a=some (PySem.W.methodObj (.ref f) (.ref y)):=x;show h'.get? a=some (PySem.W.methodObj (.ref f) (.ref y));exact k a _ (.inl rfl) e
 |ext φ=>obtain⟨p,⟨o,e⟩,st⟩:=x;exact⟨st _ _ p fun o q=>k _ _ (.inl rfl) q,⟨o,k _ _ (.inl rfl) e⟩,st⟩
theorem ip.lt(x:ip P w H h)(e:H a=some o):a<h.objs.size:=(x a o e).lt
theorem ip.fresh(x:ip P w H h)(e:h.objs.size<=a):H a=none:=by
 cases q:H a with
 |none=>rfl
 |some u=>exact absurd (Da (x.lt q) e) (Do _)
theorem ip.kept(x:ip P w H h)(k:∀b u,h.get? b=some u->h'.get? b=some u):ip P w H h':=fun a o e=>
 (x a o e).stay (fun b u _ q=>k b u q) (fun _ q=>q) fun _ _ q=>q
theorem ip.laid(x:ip P w H h)(k:∀b u,h.get? b=some u->h'.get? b=some u)(hp:h.objs.size<=a)(new:aX P w (ar H a o) h' a o):ip P w (ar H a o) h':=fun b u e=>by
 have hn:=x.fresh hp
 by_cases hb:b=a
 ·subst hb;rw[ac]at e;cases e;exact new
 ·rw[ah hb]at e
  exact(x b u e).stay (fun c v _ q=>k c v q) (fun c q=>by rw[ah (au q hn)];exact q) fun c xs q=>by rw[ah (au q hn)];exact q
end
noncomputable def Rd(H:Hp)(a:Addr)(u:HO):Prop:=H a=some u\/∃o,H a=some (.frz o u)
theorem Rd.ok{P:Program}{w:World}{H:Hp}{h:Heap}{a:Addr}{u:HO}(r:Rd H a u)(x:ip P w H h):aX P w H h a u:=by
 rcases r with r | ⟨o,r⟩
 ·exact x a u r
 ·obtain⟨_,q⟩:=x a _ r
  exact q
noncomputable def zt:Option HO->Prop
 |some (.lst _)=>True
 |some (.dK _)=>True
 |some (.dT _)=>True
 |some (.set _ _)=>True
 |some (.ins _ _ _)=>True
 |some (.ext _)=>True
 |_=>False
section
variable {P:Program}{w:World}{H:Hp}{h h':Heap}{x e:Addr}{o':HO}
theorem ip.write(ok:ip P w H h)(mu:zt (H x))(he:e=x\/H e=some (.own x))(k:∀b u,b≠e->h.get? b=some u->h'.get? b=some u)(heo:∃u,h'.get? e=some u)
  (new:aX P w (ar H x o') h' x o'):ip P w (ar H x o') h':=fun b u q=>by
 have nown:∀c y,H c=some (.own y)->c≠x:=fun c y r z=>by subst z;rw[r]at mu;exact mu
 have ntup:∀c xs,H c=some (.tup xs)->c≠x:=fun c xs r z=>by subst z;rw[r]at mu;exact mu
 by_cases hb:b=x
 ·subst hb;rw[ac]at q;cases q;exact new
 ·rw[ah hb]at q
  by_cases hbe:b=e
  ·have q':H b=some (.own x):=by
    rcases he with z | z
    ·exact absurd (hbe.trans z) hb
    ·rw[hbe];exact z
   rw[q]at q';cases q'
   obtain⟨v,hv⟩:=heo;exact⟨v,by rw[hbe];exact hv⟩
  ·refine(ok b u q).stay (fun c v hc r=>k c v ?_ r) (fun c r=>by rw[ah (nown c b r)];exact r) fun c xs r=>by rw[ah (ntup c xs r)];exact r
   rcases hc with rfl | hc
   ·exact hbe
   ·rintro rfl
    rcases he with z | z
    ·exact nown c b hc z
    ·rw[hc]at z;cases z;exact hb rfl
end
structure Un(fs ex:List Addr)(H H':Hp)(h h':Heap):Prop where
 keep:∀b o,h.get? b=some o->H b=none->b∉fs->b∉ex->h'.get? b=some o
 slot:∀b o,h.get? b=some o->H b=none->b∈fs->b∉ex->∃sl,h'.get? b=some {o with slots:=sl}
 free:∀b o,h.get? b=some o->H b=none->b∉ex->H' b=none
 there:∀b o,h.get? b=some o->b∉ex->∃o',h'.get? b=some o'
 tups:∀b xs,H b=some (.tup xs)->H' b=some (.tup xs)
 frzs:∀b o u,H b=some (.frz o u)->H' b=some (.frz o u)
 tbls:∀b ps,H b=some (.tbl ps)->∃more,H' b=some (.tbl (ps++more))
section
variable {fs fs' ex ex':List Addr}{H H1 H2:Hp}{h h1 h2 h':Heap}{a x e:Addr}{o:HO}
theorem Un.any(u:Un fs ex H H1 h h1){b:Addr}{ob:Obj}(q:h.get? b=some ob)(n:H b=none)(hx:b∉ex):∃sl,h1.get? b=some {ob with slots:=sl}:=by
 by_cases hb:b∈fs
 ·exact u.slot b ob q n hb hx
 ·exact⟨ob.slots,u.keep b ob q n hb hx⟩
theorem Un.kept(k:∀b u,h.get? b=some u->h'.get? b=some u):Un fs ex H H h h':=
 ⟨fun b ob q _ _ _=>k b ob q,fun b ob q _ _ _=>⟨ob.slots,k b ob q⟩,fun _ _ _ n _=>n,fun b ob q _=>⟨ob,k b ob q⟩,fun _ _ q=>q,fun _ _ _ q=>q,fun _ ps q=>⟨#[],by rw[q];simp⟩⟩
theorem Un.refl:Un fs ex H H h h:=Un.kept fun _ _ q=>q
theorem Un.laid(k:∀b u,h.get? b=some u->h'.get? b=some u)(hp:h.objs.size<=a)(hn:H a=none):Un fs ex H (ar H a o) h h' where
 keep:=fun b u q _ _ _=>k b u q
 slot:=fun b u q _ _ _=>⟨u.slots,k b u q⟩
 free:=fun b u q n _=>by rw[ah (Db (Da (Dj q) hp))];exact n
 there:=fun b u q _=>⟨u,k b u q⟩
 tups:=fun b xs q=>by rw[ah (au q hn)];exact q
 frzs:=fun b u xs q=>by rw[ah (au q hn)];exact q
 tbls:=fun b ps q=>⟨#[],by rw[ah (au q hn),q];simp⟩
theorem Un.write(mu:zt (H x))(he:e=x\/H e=some (.own x))(k:∀b u,b≠e->h.get? b=some u->h'.get? b=some u)(heo:∃u,h'.get? e=some u):Un fs ex H (ar H x o) h h':=by
 have hx:∀b,H b=none->b≠x:=fun b n z=>by subst z;rw[n]at mu;exact mu
 have hb:∀b,H b=none->b≠e:=fun b n z=>by
  subst z;rcases he with r | r
  ·exact hx b n r
  ·rw[n]at r;cases r
 have hm:∀b u,H b=some u->¬ zt (some u)->b≠x:=fun b u q nm z=>by subst z;rw[q]at mu;exact nm mu
 refine⟨fun b u q n _ _=>k b u (hb b n) q,fun b u q n _ _=>⟨u.slots,k b u (hb b n) q⟩,fun b u q n _=>by rw[ah (hx b n)];exact n,fun b u q _=>?_,
  fun b xs q=>by rw[ah (hm b _ q fun z=>z)];exact q,fun b u xs q=>by rw[ah (hm b _ q fun z=>z)];exact q,fun b ps q=>⟨#[],by rw[ah (hm b _ q fun z=>z),q];simp⟩⟩
 by_cases hbe:b=e
 ·subst hbe;exact heo
 ·exact⟨u,k b u hbe q⟩
end
noncomputable def zL(h:Heap)(H:Hp):List Addr:=(List.range h.objs.size).filter fun a=>(H a).isSome
noncomputable def oI(h:Heap)(H:Hp):Heap:=PySem.W.hideAll h (zL h H)
theorem uA(h:Heap)(H:Hp):(oI h H).objs.size=h.objs.size:=PySem.W.hideAll_size _ _
theorem u8{h:Heap}{H:Hp}{b:Addr}{o:Obj}(e:h.get? b=some o)(n:H b=none):(oI h H).get? b=some o:=
 PySem.W.hideAll_get _ e fun hm=>by
  have q:(H b).isSome=true:=(List.mem_filter.mp hm).2;rw[n]at q;simp at q
theorem wX{h:Heap}{H:Hp}{b:Addr}{o:Obj}(e:(oI h H).get? b=some o):h.get? b=some o/\H b=none:=by
 have e':h.get? b=some o:=PySem.W.of_hideAll (zL h H) e;refine⟨e',?_⟩;cases q:H b with
 |none=>rfl
 |some x=>
  have hm:b∈zL h H:=List.mem_filter.mpr ⟨List.mem_range.mpr (Dj e'),by simp[q]⟩;have z:(oI h H).get? b=none:=PySem.W.hideAll_none (zL h H) hm;rw[z]at e;cases e
noncomputable def wU(g h:Heap)(L:Addr):List (Addr×Obj):=(List.range h.objs.size).filterMap fun a=>if a=L\/(g.get? a).isSome=true then none else(h.get? a).map fun o=>(a,o)
noncomputable def bD(g h:Heap)(L d:Addr):List (Addr×Obj):=(wU g h L).filter fun p=>decide (p.1≠d)
structure Mod(K:PySem.W.Frag)(mg:Str->Option Value)(base:Heap):Prop where
 kin:K.In base
 glob:base.Ns mainGlobals mg
 blt:∃mb,base.Ns builtinsNs mb/\∀x:Str,x≠"__name__"->mb x=bootBuiltins x
 nolimit:base.NoLimit
structure Cx where
 prog:Program
 w:World
 K:PySem.W.Frag
 mg:Str->Option Value
 base:Heap
 A:Around
 N:List Str
 s₀:Shared
 H₀:Hp
 env:Env
 outer:List Env
 stack:List Env
 ex:List Addr
 fn:Str->Bool
 calm:Bool
 pn:List (Addr×Obj)
 xe:Value->Shared->Prop
noncomputable def iJ(l:List Env):List Addr:=l.filterMap (·.frame)
noncomputable abbrev Cx.fs(X:Cx):List Addr:=iJ X.outer
noncomputable def zR(sc:Scope)(x:Str):Prop:=sc.names.lookup x=some .local\/sc.names.lookup x=some .cell\/sc.names.lookup x=some .free
noncomputable def Loc(sc:Scope)(x:Str):Prop:=sc.names.lookup x=some .local\/sc.names.lookup x=some .cell
noncomputable def As(env:Env)(h:Heap)(m:Str->Option Value)(x:Str)(u:Value):Prop:=
 (env.kindOf x=some .local/\m x=some u)\/((env.kindOf x=some .cell\/env.kindOf x=some .free)/\∃c,env.cells.lookup x=some c/\h.IsCell c (some u))
structure Cx.Ok(X:Cx):Prop where
 mod:Mod X.K X.mg X.base
 kind:X.env.scope.kind=.function
 glob:X.env.globals=mainGlobals
 blt:X.env.builtins=builtinsNs
 above:X.s₀.heap.objs.size<=X.env.locals
 inj:∀x y c,X.env.cells.lookup x=some c->X.env.cells.lookup y=some c->x=y
 has:∀x,(X.env.kindOf x=some .cell\/X.env.kindOf x=some .free)->∃c,X.env.cells.lookup x=some c
 cab:∀x c,X.fn x=true->X.env.cells.lookup x=some c->X.s₀.heap.objs.size<=c
 hd:X.calm=true->X.A.handled=none
 frames:X.A.frames=some X.stack
 stk:X.stack=X.outer\/(X.stack=X.env::X.outer/\X.env.frame=some X.env.locals)
 exf:∀b∈X.ex,b≠X.env.locals/\∀x c,X.env.cells.lookup x=some c->c≠b
 bs:∀b o,X.base.get? b=some o->X.s₀.heap.get? b=some o/\X.H₀ b=none
 bsz:X.base.objs.size<=X.s₀.heap.objs.size
 noex:∀b o,X.base.get? b=some o->b∉X.ex
 exfs:∀b∈X.ex,b∉X.fs
 funs:X.s₀.heap.FunFrames X.base X.outer
 frf:∀b∈X.fs,X.H₀ b=none
structure Inv(X:Cx)(pins:List (Addr×Obj))(σ:List (Option V))(H:Hp)(s:Shared):Prop where
 ok:X.Ok
 os:s.os=X.s₀.os
 bare:AllBare s.gens
 base:Un X.fs X.ex X.H₀ H X.s₀.heap s.heap
 loc:∃m,s.heap.Ns X.env.locals m/\∀(i:Nat) (x:Str) (v:V),X.N[i]?=some x->σ[i]?=some (some v)->zR X.env.scope x->∃u,aG v u/\As X.env s.heap m x u
 cell:∀x c,X.env.cells.lookup x=some c->∃v,s.heap.IsCell c v
 free:H X.env.locals=none
 freeC:∀x c,X.env.cells.lookup x=some c->H c=none
 pin:∀p∈X.pn++pins,s.heap.get? p.1=some p.2/\H p.1=none/\p.1≠X.env.locals/\p.1∉X.fs/\∀v,p.2.data≠.cell v
 hok:ip X.prog X.w H s.heap
 len:σ.length=X.N.length
section
variable {X:Cx}{pins:List (Addr×Obj)}{σ:List (Option V)}{H H':Hp}{s:Shared}{h':Heap}
theorem Cx.Ok.nofr(ok:X.Ok){b:Addr}{o:Obj}(e:X.base.get? b=some o):b∉X.fs:=fun hb=>by
 have:=(ok.funs.mem hb).1;rw[e]at this;cases this
theorem Inv.bs(I:Inv X pins σ H s):∀b o,X.base.get? b=some o->s.heap.get? b=some o/\H b=none:=fun b o e=>
 ⟨I.base.keep b o (I.ok.bs b o e).1 (I.ok.bs b o e).2 (I.ok.nofr e) (I.ok.noex b o e),I.base.free b o (I.ok.bs b o e).1 (I.ok.bs b o e).2 (I.ok.noex b o e)⟩
theorem Inv.bk(I:Inv X pins σ H s):∀b o,X.base.get? b=some o->s.heap.get? b=some o:=fun b o e=>(I.bs b o e).1
theorem Inv.mod(I:Inv X pins σ H s):Mod X.K X.mg X.base:=I.ok.mod
theorem Inv.kIn(I:Inv X pins σ H s):X.K.In s.heap:=I.ok.mod.kin.keeps I.bk
theorem Inv.lt(I:Inv X pins σ H s):X.env.locals<s.heap.objs.size:=let ⟨_,hn,_⟩:=I.loc;hn.lt
theorem Inv.sz(I:Inv X pins σ H s):X.s₀.heap.objs.size<=s.heap.objs.size:=Dm I.ok.above (Nat.le_of_lt I.lt)
theorem Inv.nofs(I:Inv X pins σ H s){a:Addr}(h:s.heap.objs.size<=a):a∉X.fs:=fun hb=>by
 obtain⟨_,o,ho,_⟩:=I.ok.funs.mem hb;exact absurd (Da (Dj ho) (Dm I.sz h)) (Do _)
theorem Inv.cne(I:Inv X pins σ H s):∀x c,X.env.cells.lookup x=some c->c≠X.env.locals:=fun x c e z=>by
 obtain⟨v,o,ho,hd⟩:=I.cell x c e;obtain⟨m,⟨o',es,ep,ho',hd',_⟩,_⟩:=I.loc;rw[z,ho']at ho;cases ho;rw[hd']at hd;cases hd
theorem Inv.funs(I:Inv X pins σ H s):s.heap.FunFrames X.base X.outer:=by
 have all:∀(l:List Env),(∀b∈iJ l,b∈X.fs)->X.s₀.heap.FunFrames X.base l->s.heap.FunFrames X.base l:=by
  intro l
  induction l with
  |nil=>intro _ _;trivial
  |cons env r ih=>
   intro hs hl;obtain⟨hk,⟨L,o,hf,hn,ho,hd⟩,hr⟩:=hl;have hL:L∈X.fs:=hs L (by unfold iJ;rw[List.filterMap_cons,hf];exact List.mem_cons_self);obtain⟨sl,e⟩:=I.base.slot L o ho (I.ok.frf L hL) hL fun z=>I.ok.exfs L z hL;exact⟨hk,⟨L,_,hf,hn,e,hd⟩,ih (fun b hb=>hs b (by unfold iJ;rw[List.filterMap_cons,hf];exact C_ _ hb)) hr⟩
 exact all X.outer (fun _ hb=>hb) I.ok.funs
theorem Inv.stack(I:Inv X pins σ H s):s.heap.FunFrames X.base X.stack:=by
 rcases I.ok.stk with e | ⟨e,hf⟩
 ·rw[e];exact I.funs
 ·rw[e]
  obtain⟨m,hn,_⟩:=I.loc;refine .cons (by rw[I.ok.kind];decide) hf hn ?_ I.funs;exact Heap.get?_none_of_le (Dm I.ok.bsz I.ok.above)
theorem Inv.stkSub(I:Inv X pins σ H s):∀b∈iJ X.stack,b∈X.env.locals::X.fs:=fun b hb=>by
 rcases I.ok.stk with e | ⟨e,hf⟩
 ·rw[e]at hb;exact C_ _ hb
 ·rw[e]at hb
  unfold iJ at hb;rw[List.filterMap_cons,hf]at hb;exact hb
theorem Inv.stkFree(I:Inv X pins σ H s):∀b∈iJ X.stack,H b=none:=fun b hb=>by
 rcases C9.mp (I.stkSub b hb) with e | hb
 ·rw[e];exact I.free
 ·obtain⟨_,o,ho,_⟩:=I.ok.funs.mem hb
  exact I.base.free b o ho (I.ok.frf b hb) fun z=>I.ok.exfs b z hb
theorem Inv.step{g':Array GenState}{t':Nat}{d':Drawn}{ch:List Addr}(I:Inv X pins σ H s)
  (hch:∀b∈ch,(b∈X.ex\/X.s₀.heap.objs.size<=b)/\b≠X.env.locals/\(∀x c,X.env.cells.lookup x=some c->c≠b)/\∀p∈X.pn++pins,p.1≠b)
  (keep:∀b o,b≠X.env.locals->b∉X.fs->b∉ch->s.heap.get? b=some o->H b=none->h'.get? b=some o)
  (slot:∀b o,b≠X.env.locals->b∈X.fs->b∉ch->s.heap.get? b=some o->H b=none->∃sl,h'.get? b=some {o with slots:=sl}) (free:∀b o,b∉ch->s.heap.get? b=some o->H b=none->H' b=none)
  (there:∀b o,b∉ch->s.heap.get? b=some o->∃o',h'.get? b=some o')
  (tups:∀b xs,H b=some (.tup xs)->H' b=some (.tup xs)) (frzs:∀b o u,H b=some (.frz o u)->H' b=some (.frz o u)) (tbls:∀b ps,H b=some (.tbl ps)->∃more,H' b=some (.tbl (ps++more)))
  (ns:∀m,s.heap.Ns X.env.locals m->h'.Ns X.env.locals m) (hok:ip X.prog X.w H' h') (hg:AllBare g') :
  Inv X pins σ H' {s with heap:=h',gens:=g',drawn:=d',toks:=t' }:=by
 have neL:∀b o,X.s₀.heap.get? b=some o->b≠X.env.locals:=fun b o e=>Db (Da (Dj e) I.ok.above);have neC:∀b o,X.s₀.heap.get? b=some o->b∉X.ex->b∉ch:=fun b o e hx hb=>by
  rcases(hch b hb).1 with z | z
  ·exact hx z
  ·exact absurd (Da (Dj e) z) (Do _)
 have cellK:∀x c,X.env.cells.lookup x=some c->∀v,s.heap.IsCell c v->h'.IsCell c v:=fun x c e v ⟨o,ho,hd⟩=>by
  have nch:c∉ch:=fun z=>(hch c z).2.2.1 x c e rfl
  by_cases hc:c∈X.fs
  ·obtain⟨sl,q⟩:=slot c o (I.cne x c e) hc nch ho (I.freeC x c e)
   exact⟨_,q,hd⟩
  ·exact⟨o,keep c o (I.cne x c e) hc nch ho (I.freeC x c e),hd⟩
 refine⟨I.ok,I.os,hg,⟨fun b o e n hb hx=>?_,fun b o e n hb hx=>?_,fun b o e n hx=>?_,fun b o e hx=>?_,fun b xs e=>tups b xs (I.base.tups b xs e),fun b o xs e=>frzs b o xs (I.base.frzs b o xs e),fun b ps e=>?_⟩,?_,fun x c e=>?_,?_,fun x c e=>?_,fun p hp=>?_,hok,I.len⟩
 ·exact keep b o (neL b o e) hb (neC b o e hx) (I.base.keep b o e n hb hx) (I.base.free b o e n hx)
 ·obtain⟨sl,e1⟩:=I.base.slot b o e n hb hx
  obtain⟨sl',e2⟩:=slot b _ (neL b o e) hb (neC b o e hx) e1 (I.base.free b o e n hx);exact⟨sl',e2⟩
 ·obtain⟨o',e1⟩:=I.base.there b o e hx
  exact free b o' (neC b o e hx) e1 (I.base.free b o e n hx)
 ·obtain⟨o',e1⟩:=I.base.there b o e hx
  exact there b o' (neC b o e hx) e1
 ·obtain⟨m1,e1⟩:=I.base.tbls b ps e
  obtain⟨m2,e2⟩:=tbls b _ e1;exact⟨m1++m2,by rw[e2,Array.append_assoc]⟩
 ·obtain⟨m,hn,hl⟩:=I.loc
  refine⟨m,ns m hn,fun i x v e1 e2 e3=>?_⟩;obtain⟨u,r,l⟩:=hl i x v e1 e2 e3;refine⟨u,r,?_⟩;rcases l with l | ⟨k,c,e,z⟩
  ·exact .inl l
  ·exact .inr ⟨k,c,e,cellK x c e _ z⟩
 ·obtain⟨v,z⟩:=I.cell x c e
  exact⟨v,cellK x c e v z⟩
 ·obtain⟨m,⟨o,_,_,ho,_⟩,_⟩:=I.loc
  exact free _ o (fun z=>(hch _ z).2.1 rfl) ho I.free
 ·obtain⟨v,o,ho,hd⟩:=I.cell x c e
  exact free c o (fun z=>(hch c z).2.2.1 x c e rfl) ho (I.freeC x c e)
 ·obtain⟨e,n,ne,nf,d⟩:=I.pin p hp
  have nch:p.1∉ch:=fun z=>(hch p.1 z).2.2.2 p hp rfl;exact⟨keep p.1 p.2 ne nf nch e n,free p.1 p.2 nch e n,ne,nf,d⟩
theorem Inv.un{t':Nat}(I:Inv X pins σ H s)(u:Un X.fs [] H H' s.heap h')(hok:ip X.prog X.w H' h'):Inv X pins σ H' {s with heap:=h',toks:=t' }:=by
 obtain⟨m,⟨o,es,ep,ho,r⟩,_⟩:=id I.loc;obtain⟨sl,hL⟩:=u.any ho I.free (by simp);exact I.step (g':=s.gens) (d':=s.drawn) (ch:=[]) (fun _ z=>nomatch z) (fun b o _ hb _ e n=>u.keep b o e n hb (by simp)) (fun b o _ hb _ e n=>u.slot b o e n hb (by simp)) (fun b o _ e n=>u.free b o e n (by simp)) (fun b o _ e=>u.there b o e (by simp)) u.tups u.frzs u.tbls (fun m' hm=>by
  obtain⟨o',es',ep',ho',r'⟩:=hm;rw[ho]at ho';cases ho'
  exact⟨_,es',ep',hL,r'⟩) hok I.bare
theorem Inv.call{g':Array GenState}{t':Nat}{d':Drawn}{ch:List Addr}(I:Inv X pins σ H s)(u:Un (iJ X.stack) ch H H' s.heap h')(hok:ip X.prog X.w H' h')(hg:AllBare g')
  (hch:∀b∈ch,(b∈X.ex\/X.s₀.heap.objs.size<=b)/\b≠X.env.locals/\(∀x c,X.env.cells.lookup x=some c->c≠b)/\∀p∈X.pn++pins,p.1≠b) :
  Inv X pins σ H' {s with heap:=h',gens:=g',drawn:=d',toks:=t' }:=by
 obtain⟨m,⟨o,es,ep,ho,r⟩,_⟩:=id I.loc;obtain⟨sl,hL⟩:=u.any ho I.free fun z=>(hch _ z).2.1 rfl;exact I.step (ch:=ch) hch (fun b o hL hb hc e n=>u.keep b o e n (fun z=>(C9.mp (I.stkSub b z)).elim hL hb) hc) (fun b o _ _ hc e n=>u.any e n hc) (fun b o hc e n=>u.free b o e n hc) (fun b o hc e=>u.there b o e hc) u.tups u.frzs u.tbls (fun m' hm=>by
  obtain⟨o',es',ep',ho',r'⟩:=hm;rw[ho]at ho';cases ho'
  exact⟨_,es',ep',hL,r'⟩) hok hg
theorem Inv.turned{t':Nat}{it:Addr}(I:Inv X pins σ H s)(k:∀b o,b≠it->s.heap.get? b=some o->h'.get? b=some o)(hn:H it=none)(hL:it≠X.env.locals)
  (h1:it∈X.ex\/X.s₀.heap.objs.size<=it) (h2:∀x c,X.env.cells.lookup x=some c->c≠it) (h3:∀p∈X.pn++pins,p.1≠it):Inv X pins σ H {s with heap:=h',toks:=t' }:=by
 have nit:∀b u,H b=some u->b≠it:=fun b u e z=>by rw[z,hn]at e;cases e
 refine I.step (g':=s.gens) (d':=s.drawn) (ch:=[it]) (fun b hb=>?_) (fun b o _ _ hc e _=>k b o (fun z=>hc (by simp[z])) e) (fun b o _ _ hc e _=>⟨o.slots,k b o (fun z=>hc (by simp[z])) e⟩) (fun _ _ _ _ n=>n)
  (fun b o hc e=>⟨o,k b o (fun z=>hc (by simp[z])) e⟩) (fun _ _ e=>e) (fun _ _ _ e=>e) (fun b ps e=>⟨#[],by rw[e];simp⟩) (fun m hm=>?_) (fun b u e=>?_) I.bare
 ·have e:b=it:=by simpa using hb
  subst e;exact⟨h1,hL,h2,h3⟩
 ·obtain⟨o,es,ep,ho,r⟩:=hm
  exact⟨o,es,ep,k _ o (Ne.symm hL) ho,r⟩
 ·refine(I.hok b u e).stay (fun c v hc q=>k c v ?_ q) (fun _ q=>q) fun _ _ q=>q
  rcases hc with z | z
  ·rw[z];exact nit b u e
  ·exact nit c _ z
theorem Inv.tok(I:Inv X pins σ H s)(t:Nat):Inv X pins σ H {s with toks:=t}:=I.un (h':=s.heap) (t':=t) Un.refl I.hok
theorem Inv.kept{t':Nat}(I:Inv X pins σ H s)(k:∀b u,s.heap.get? b=some u->h'.get? b=some u):Inv X pins σ H {s with heap:=h',toks:=t' }:=I.un (Un.kept k) (I.hok.kept k)
theorem Inv.laid{a:Addr}{o:HO}{t':Nat}(I:Inv X pins σ H s)(k:∀b u,s.heap.get? b=some u->h'.get? b=some u)(hp:s.heap.objs.size<=a)(new:aX X.prog X.w (ar H a o) h' a o) :
  Inv X pins σ (ar H a o) {s with heap:=h',toks:=t' }:=I.un (Un.laid k hp (I.hok.fresh hp)) (I.hok.laid k hp new)
theorem Inv.write{x e:Addr}{o:HO}{t':Nat}(I:Inv X pins σ H s)(mu:zt (H x))(he:e=x\/H e=some (.own x))(k:∀b u,b≠e->s.heap.get? b=some u->h'.get? b=some u)(heo:∃u,h'.get? e=some u)
  (new:aX X.prog X.w (ar H x o) h' x o):Inv X pins σ (ar H x o) {s with heap:=h',toks:=t' }:=I.un (Un.write mu he k heo) (I.hok.write mu he k heo new)
theorem Inv.pins_of{pins':List (Addr×Obj)}(I:Inv X pins σ H s)(h:∀p∈pins',s.heap.get? p.1=some p.2/\H p.1=none/\p.1≠X.env.locals/\p.1∉X.fs/\∀v,p.2.data≠.cell v):Inv X pins' σ H s:=
 ⟨I.ok,I.os,I.bare,I.base,I.loc,I.cell,I.free,I.freeC,fun p hp=>(C7.mp hp).elim (fun z=>I.pin p (List.mem_append_left _ z)) (h p),I.hok,I.len⟩
theorem kO{N:List Str}(hN:N.Nodup){i j:Nat}{x:Str}(a:N[i]?=some x)(b:N[j]?=some x):i=j:=by
 obtain⟨h1,e1⟩:=CM.mp a;obtain⟨h2,e2⟩:=CM.mp b;exact(List.getElem_inj hN).mp (e1.trans e2.symm)
theorem mW{M:Model}{A:Around}{E:Value->Shared->Prop}{i:Nat}{x:Str}{v:V}{u:Value}{Q:Unit->Shared->Prop}(I:Inv X pins σ H s)(hN:X.N.Nodup)(hi:X.N[i]?=some x)(hx:Loc X.env.scope x)(r:aG v u)
  (h:∀s',Inv X pins (σ.set i (some v)) H s'->(∃a,Heap.SameBut a s.heap s'.heap/\(a=X.env.locals\/X.env.cells.lookup x=some a))->Q () s') (hf:X.fn x=true\/X.env.scope.names.lookup x=some .local:=by first | exact .inl rfl | exact .inr rfl | assumption):wpAny M A (storeName X.env x u) Q E s:=by
 obtain⟨m,hn,hl⟩:=id I.loc;have hcls:(X.env.scope.kind==.class||(X.env.scope.kind==.module&&X.env.locals != X.env.globals))=false:=by rw[I.ok.kind];rfl
 have hiσ:i<σ.length:=by rw[I.len];exact(CM.mp hi).1
 have cne:=I.cne;have tracked:∀{a:Addr} {h':Heap},(∃o,s.heap.get? a=some o/\H a=none)->Heap.SameBut a s.heap h'->ip X.prog X.w H h':=fun{a h'} ha hs b ob e=>by
  obtain⟨_,_,hfree⟩:=ha;refine(I.hok b ob e).stay (fun c w' hc q=>(hs.2 c ?_).trans q) (fun _ q=>q) fun _ _ q=>q;rintro rfl;rcases hc with rfl | hc
  ·rw[hfree]at e;cases e
  ·rw[hfree]at hc;cases hc
 rcases hx with hk | hk
 ·refine wpAny_storeName_local hk hn (fun h' hn' hs=>?_) hcls
  obtain⟨oL,_,_,hoL,_⟩:=id hn;refine h _ ⟨I.ok,I.os,I.bare,⟨fun b o e n hb hx=>?_,fun b o e n hb hx=>?_,I.base.free,fun b o e hx=>?_,I.base.tups,I.base.frzs,I.base.tbls⟩,⟨_,hn',fun j y v' e1 e2 e3=>?_⟩,fun y c e=>?_,I.free,I.freeC,fun p hp=>?_,tracked ⟨oL,hoL,I.free⟩ hs,by simpa using I.len⟩ ⟨_,hs,.inl rfl⟩
  ·exact(hs.2 b (Db (Da (Dj e) I.ok.above))).trans (I.base.keep b o e n hb hx)
  ·obtain⟨sl,e1⟩:=I.base.slot b o e n hb hx
   exact⟨sl,(hs.2 b (Db (Da (Dj e) I.ok.above))).trans e1⟩
  ·obtain⟨o',e1⟩:=I.base.there b o e hx
   exact⟨o',(hs.2 b (Db (Da (Dj e) I.ok.above))).trans e1⟩
  ·by_cases hj:j=i
   ·subst hj
    rw[hi]at e1;cases e1
    rw[Dr hiσ]at e2;cases e2;exact⟨u,r,.inl ⟨hk,by simp⟩⟩
   ·rw[List.getElem?_set_ne (Ne.symm hj)]at e2
    obtain⟨u',r',q⟩:=hl j y v' e1 e2 e3;refine⟨u',r',?_⟩;rcases q with⟨k,e⟩ | ⟨k,c,e,z⟩
    ·refine .inl ⟨k,?_⟩
     have:y≠x:=fun e=>hj (kO hN e1 (e▸hi));simp[this,e]
    ·exact .inr ⟨k,c,e,z.sameBut hs (cne y c e)⟩
  ·obtain⟨w',z⟩:=I.cell y c e
   exact⟨w',z.sameBut hs (cne y c e)⟩
  ·obtain⟨e,n,ne,nf,d⟩:=I.pin p hp
   exact⟨(hs.2 p.1 ne).trans e,n,ne,nf,d⟩
 ·have hfn:X.fn x=true:=by
   rcases hf with z | z
   ·exact z
   ·rw[z]at hk;cases hk
  obtain⟨c,hc⟩:=I.ok.has x (.inl hk);obtain⟨w',z⟩:=I.cell x c hc;refine wpAny_storeName_cell I.ok.kind hk hc z (fun h' hc' hs=>?_);obtain⟨oc,hoc,hocd⟩:=id z;refine h {s with heap:=h' } ⟨I.ok,I.os,I.bare,⟨fun b o e n hb hx=>?_,fun b o e n hb hx=>?_,I.base.free,fun b o e hx=>?_,I.base.tups,I.base.frzs,I.base.tbls⟩,⟨m,hn.sameBut hs (Ne.symm (cne x c hc)),fun j y v' e1 e2 e3=>?_⟩,fun y c' e=>?_,I.free,I.freeC,fun p hp=>?_,tracked ⟨oc,hoc,I.freeC x c hc⟩ hs,by simpa using I.len⟩ ⟨c,hs,.inr hc⟩
  ·exact(hs.2 b (Db (Da (Dj e) (I.ok.cab x c hfn hc)))).trans (I.base.keep b o e n hb hx)
  ·obtain⟨sl,e1⟩:=I.base.slot b o e n hb hx
   exact⟨sl,(hs.2 b (Db (Da (Dj e) (I.ok.cab x c hfn hc)))).trans e1⟩
  ·obtain⟨o',e1⟩:=I.base.there b o e hx
   exact⟨o',(hs.2 b (Db (Da (Dj e) (I.ok.cab x c hfn hc)))).trans e1⟩
  ·by_cases hj:j=i
   ·subst hj
    rw[hi]at e1;cases e1
    rw[Dr hiσ]at e2;cases e2;exact⟨u,r,.inr ⟨.inl hk,c,hc,hc'⟩⟩
   ·rw[List.getElem?_set_ne (Ne.symm hj)]at e2
    obtain⟨u',r',q⟩:=hl j y v' e1 e2 e3;refine⟨u',r',?_⟩;rcases q with q | ⟨k,c',e,z'⟩
    ·exact .inl q
    ·refine .inr ⟨k,c',e,z'.sameBut hs ?_⟩
     rintro rfl;exact hj (kO hN e1 (I.ok.inj _ _ _ e hc▸hi))
  ·by_cases hcc:c'=c
   ·subst hcc;exact⟨_,hc'⟩
   ·obtain⟨w2,z2⟩:=I.cell y c' e
    exact⟨w2,z2.sameBut hs hcc⟩
  ·obtain⟨e,n,ne,nf,d⟩:=I.pin p hp
   refine⟨(hs.2 p.1 ?_).trans e,n,ne,nf,d⟩;intro q;rw[q,hoc]at e;have q':oc=p.2:=Option.some.inj e;exact d w' (by rw[<- q'];exact hocd)
theorem je{M:Model}{A:Around}{E:Value->Shared->Prop}{i:Nat}{x:Str}{v:V}{u:Value}{Q:Unit->Shared->Prop}(I:Inv X pins σ H s)(hN:X.N.Nodup)(hi:X.N[i]?=some x)(hx:Loc X.env.scope x)(r:aG v u)
  (h:∀s',Inv X pins (σ.set i (some v)) H s'->Q () s') (hf:X.fn x=true\/X.env.scope.names.lookup x=some .local:=by first | exact .inl rfl | exact .inr rfl | assumption):wpAny M A (storeName X.env x u) Q E s:=
 mW I hN hi hx r (fun s' I' _=>h s' I') hf
theorem Inv.call'{s':Shared}{ch:List Addr}(I:Inv X pins σ H s)(ho:s'.os=s.os)(u:Un (iJ X.stack) ch H H' s.heap s'.heap)(hok:ip X.prog X.w H' s'.heap)(hg:AllBare s'.gens)
  (hch:∀b∈ch,(b∈X.ex\/X.s₀.heap.objs.size<=b)/\b≠X.env.locals/\(∀x c,X.env.cells.lookup x=some c->c≠b)/\∀p∈X.pn++pins,p.1≠b):Inv X pins σ H' s':=by
 obtain⟨h',g',d',t',o'⟩:=s';have e:o'=s.os:=ho;subst e;exact I.call (g':=g') (t':=t') (d':=d') u hok hg hch
end
noncomputable abbrev XK:=Value->Option Addr->Hp->Prop
noncomputable abbrev St:=List (Option V)
noncomputable abbrev VK:=V->Hp->Prop
noncomputable abbrev TE:=St->Hp->VK->Prop
noncomputable abbrev TT:=St->Hp->(Bool->Hp->Prop)->Prop
noncomputable abbrev TA:=St->Hp->(List V->Hp->Prop)->Prop
structure iN where
 nx:St->Hp->Prop
 rt:VK
 bk:St->Hp->Prop:=fun _ _=>False
 ct:St->Hp->Prop:=fun _ _=>False
noncomputable abbrev TS:=iN->St->Hp->Prop
noncomputable def EP(X:Cx)(pins:List (Addr×Obj))(σ:St)(Q:VK)(u:Value)(s':Shared):Prop:=∃v H',Inv X pins σ H' s'/\aG v u/\Q v H'
noncomputable def TP(X:Cx)(pins:List (Addr×Obj))(σ:St)(Q:Bool->Hp->Prop)(b:Bool)(s':Shared):Prop:=∃H',Inv X pins σ H' s'/\Q b H'
noncomputable def AP(X:Cx)(pins:List (Addr×Obj))(σ:St)(Q:List V->Hp->Prop)(us:List Value)(s':Shared):Prop:=∃vs H',Inv X pins σ H' s'/\aH vs us/\Q vs H'
noncomputable def SP(X:Cx)(pins:List (Addr×Obj))(D:iN)(f:Flow)(s':Shared):Prop:=
 match f with
 | .next=>∃σ' H',Inv X pins σ' H' s'/\D.nx σ' H'
 | .brk=>∃σ' H',Inv X pins σ' H' s'/\D.bk σ' H'
 | .cont=>∃σ' H',Inv X pins σ' H' s'/\D.ct σ' H'
 | .ret u=>∃v σ' H',Inv X pins σ' H' s'/\aG v u/\D.rt v H'
noncomputable def PE(X:Cx)(e:Expr)(t:TE):Prop:=
 ∀(pins:List (Addr×Obj)) (s:Shared) (σ:St) (H:Hp) (Q:VK),Inv X pins σ H s->t σ H Q->wpAny (model X.prog X.w) X.A (eval e X.env) (EP X pins σ Q) X.xe s
noncomputable def PT(X:Cx)(e:Expr)(t:TT):Prop:=
 ∀(pins:List (Addr×Obj)) (s:Shared) (σ:St) (H:Hp) (Q:Bool->Hp->Prop),Inv X pins σ H s->t σ H Q->wpAny (model X.prog X.w) X.A (isTrue e X.env (eval e X.env)) (TP X pins σ Q) X.xe s
noncomputable def PW(X:Cx)(e:Expr)(t:TT):Prop:=
 ∀(whole:Sem Value) (pins:List (Addr×Obj)) (s:Shared) (σ:St) (H:Hp) (Q:Bool->Hp->Prop),Inv X pins σ H s->t σ H Q->wpAny (model X.prog X.w) X.A (isTrue e X.env whole) (TP X pins σ Q) X.xe s
theorem PW.pt{X:Cx}{e:Expr}{t:TT}(h:PW X e t):PT X e t:=h _
noncomputable def PA(X:Cx)(es:List Expr)(t:TA):Prop:=
 ∀(pos:Pos) (pins:List (Addr×Obj)) (s:Shared) (σ:St) (H:Hp) (Q:List V->Hp->Prop),Inv X pins σ H s->t σ H Q->wpAny (model X.prog X.w) X.A (spliced (backTo pos (starEach es X.env))) (AP X pins σ Q) X.xe s
noncomputable def PS(X:Cx)(st:Stmt)(t:TS):Prop:=
 ∀(pins:List (Addr×Obj)) (s:Shared) (σ:St) (H:Hp) (D:iN),Inv X pins σ H s->t D σ H->wpAny (model X.prog X.w) X.A (exec st X.env) (SP X pins D) X.xe s
noncomputable def qB(X:Cx)(st:List Stmt)(t:TS):Prop:=
 ∀(pins:List (Addr×Obj)) (s:Shared) (σ:St) (H:Hp) (D:iN),Inv X pins σ H s->t D σ H->wpAny (model X.prog X.w) X.A (execs st X.env) (SP X pins D) X.xe s
theorem bq{α:Type}{t:Sem α}{Q Q':α->Shared->Prop}{M:Model}{A:Around}{E:Value->Shared->Prop}{s:Shared}(h:wpAny M A t Q E s)(hQ:∀a s,Q a s->Q' a s):wpAny M A t Q' E s:=wpAny_mono h hQ fun _ _ x=>x
section
variable {X:Cx}
theorem CJ{a b:Expr}{ta tb:TE}(ha:PE X a ta)(hb:PE X b tb){pins:List (Addr×Obj)}{s:Shared}{σ:St}{H:Hp}{R:V->V->Hp->Prop}(I:Inv X pins σ H s)(h:ta σ H fun x H1=>tb σ H1 fun y H2=>R x y H2)
  {α:Type} {Q:α->Shared->Prop} {f:Value->Value->Sem α}
  (hf:∀v u s2 x y H2,Inv X pins σ H2 s2->aG x v->aG y u->R x y H2->wpAny (model X.prog X.w) X.A (f v u) Q X.xe s2) :
  wpAny (model X.prog X.w) X.A (eval a X.env) (fun v s₁=>wpAny (model X.prog X.w) X.A (eval b X.env) (fun u s₂=>wpAny (model X.prog X.w) X.A (f v u) Q X.xe s₂) X.xe s₁) X.xe s:=by
 refine bq (ha pins s σ H _ I h) fun v s1 ⟨x,H1,I1,r1,q1⟩=>?_;refine bq (hb pins s1 σ H1 _ I1 q1) fun u s2 ⟨y,H2,I2,r2,q2⟩=>?_;exact hf v u s2 x y H2 I2 r1 r2 q2
noncomputable def wa(i:Nat):TE:=fun σ H Q=>∃v,σ[i]?=some (some v)/\Q v H
noncomputable def tC(v:V):TE:=fun _ H Q=>Q v H
theorem y8{i:Nat}{x:Str}{pos:Pos}(hN:X.N[i]?=some x)(hv:zR X.env.scope x)(hd:(x==("__debug__":Str))=false:=by decide)(hcd:(x==("__classdict__":Str))=false:=by decide):PE X (.Name x pos) (wa i):=by
 intro pins s σ H Q I h;obtain⟨v,e,h⟩:=h;obtain⟨m,hn,hl⟩:=I.loc;obtain⟨u,r,l⟩:=hl i x v hN e hv;have fin:EP X pins σ Q u s:=⟨v,H,I,r,h⟩;rcases l with⟨hk,hm⟩ | ⟨hk,c,hc,hcell⟩
 ·exact wpAny_Name (wpAny_loadName_local I.ok.kind hk hn hm fin) hd
 ·rcases hk with hk | hk
  ·exact wpAny_Name (wpAny_loadName_cell I.ok.kind hk hc hcell fin) hd
  ·exact wpAny_Name (wpAny_loadName_free I.ok.kind hk hc hcell fin hcd) hd
theorem ae{i j pos}:PE X (.Constant (.int i) j pos) (tC (.int i)):=fun _ _ _ H _ I h=>wpAny_Constant_int ⟨.int i,H,I.tok _,⟨_,rfl⟩,h⟩
theorem yc{b j pos}:PE X (.Constant (.bool b) j pos) (tC (.bl b)):=fun _ _ _ H _ I h=>Constant_bool ⟨.bl b,H,I,rfl,h⟩
theorem yI{j pos}:PE X (.Constant .none j pos) (tC .non):=fun _ _ _ H _ I h=>Constant_none ⟨.non,H,I,rfl,h⟩
theorem lD{x j pos}:PE X (.Constant (.str x) j pos) (tC (.str x)):=fun _ _ _ H _ I h=>Calls.Constant_str ⟨.str x,H,I.tok _,⟨_,rfl⟩,h⟩
noncomputable def Gl(X:Cx)(x:Str):Prop:=X.env.kindOf x=some .globalImplicit
theorem dX{E:Value->Shared->Prop}{pins:List (Addr×Obj)}{s:Shared}{σ:St}{H:Hp}{x:Str}{u:Value}{pos:Pos}{Q:Value->Shared->Prop}(I:Inv X pins σ H s)(hg:Gl X x)(hm:X.mg x=some u)(h:Q u s)
  (hd:(x==("__debug__":Str))=false:=by decide):wpAny (model X.prog X.w) X.A (eval (.Name x pos) X.env) Q E s:=
 Calls.Name_function_global I.ok.kind hg (Calls.loadGlobal_global (by rw[I.ok.glob];exact I.mod.glob.keeps I.bk) hm h) hd
theorem fC{E:Value->Shared->Prop}{pins:List (Addr×Obj)}{s:Shared}{σ:St}{H:Hp}{x:Str}{u:Value}{pos:Pos}{Q:Value->Shared->Prop}(I:Inv X pins σ H s)(hg:Gl X x)(hm:X.mg x=none)(hv:bootBuiltins x=some u)(h:Q u s)
  (hn:x≠"__name__":=by decide) (hd:(x==("__debug__":Str))=false:=by decide):wpAny (model X.prog X.w) X.A (eval (.Name x pos) X.env) Q E s:=by
 obtain⟨mb,h1,h2⟩:=I.mod.blt;exact Calls.Name_function_global I.ok.kind hg (Calls.loadGlobal_builtin (by rw[I.ok.glob];exact I.mod.glob.keeps I.bk) hm (by rw[I.ok.blt];exact h1.keeps I.bk) ((h2 x hn).trans hv) h) hd
theorem cV{x:Str}{v:V}{u:Value}{pos:Pos}(hg:Gl X x)(hm:X.mg x=some u)(r:aG v u)(hd:(x==("__debug__":Str))=false:=by decide):PE X (.Name x pos) (tC v):=
 fun _ _ _ H _ I h=>dX I hg hm ⟨v,H,I,r,h⟩ hd
theorem o8{x:Str}{v:V}{u:Value}{pos:Pos}(hg:Gl X x)(hm:X.mg x=none)(hv:bootBuiltins x=some u)(r:aG v u)(hn:x≠"__name__":=by decide)(hd:(x==("__debug__":Str))=false:=by decide):PE X (.Name x pos) (tC v):=
 fun _ _ _ H _ I h=>fC I hg hm hv ⟨v,H,I,r,h⟩ hn hd
variable {a b:Expr}{ta tb:TE}{pos:Pos}
noncomputable def PC(X:Cx)(op:CmpOp)(a b:Expr)(t:TE):Prop:=
 ∀(pins:List (Addr×Obj)) (s:Shared) (σ:St) (H:Hp) (Q:VK),Inv X pins σ H s->t σ H Q ->
  wpAny (model X.prog X.w) X.A (eval a X.env) (fun v s₁=>wpAny (model X.prog X.w) X.A (eval b X.env) (fun u s₂=>wpAny (model X.prog X.w) X.A (compareOp op v u) (EP X pins σ Q) X.xe s₂) X.xe s₁) X.xe s
theorem wo(b:Expr){op:CmpOp}(h:op≠.In)(h2:op≠.NotIn):behindInMarks op b=false:=by
 have e1:(op==CmpOp.In)=false:=by cases op<;>first | rfl | exact absurd rfl h
 have e2:(op==CmpOp.NotIn)=false:=by cases op<;>first | rfl | exact absurd rfl h2
 cases b<;>simp[behindInMarks,e1,e2]
noncomputable def tB(t:TE):TT:=fun σ H Q=>t σ H fun x H1=>∃c,x=.bl c/\Q c H1
theorem vR{op:CmpOp}{t:TE}(h:PC X op a b t)(h1:behindInMarks op b=false:=by first | exact wo _ (by decide) (by decide) | rfl):PT X (.Compare a [op] [b] pos) (tB t):=by
 intro pins s σ H Q I hw;refine wpAny_isTrue_Compare1 (bq (h pins s σ H _ I hw) fun v s1 h1=>bq h1 fun u s2 h2=>bq h2 fun c s3 ⟨x,H1,I1,r1,q1⟩=>?_) h1;obtain⟨d,rfl,q⟩:=q1;cases r1;exact wpAny_truthy_bool ⟨H1,I1,q⟩
variable {tA tB':TT}{bD:List Expr}
noncomputable def yR(t u:TT):TT:=fun σ H Q=>t σ H fun c H1=>if c=true then u σ H1 Q else Q false H1
noncomputable def At(t u:TT):TT:=fun σ H Q=>t σ H fun c H1=>if c=true then Q true H1 else u σ H1 Q
noncomputable def yE(t:TT):TT:=fun σ H Q=>t σ H fun c H1=>Q (!c) H1
theorem nW(ha:PT X a tA):PW X (.BoolOp .And [a] pos) tA:=by
 intro wh pins s σ H Q I h;refine isTrue_and (bq (ha pins s σ H Q I h) fun c s1 e=>?_);cases c with
 |true=>exact isTrue_and_nil e
 |false=>exact e
theorem lA(ha:PT X a tA):PW X (.BoolOp .Or [a] pos) tA:=by
 intro wh pins s σ H Q I h;refine isTrue_or (bq (ha pins s σ H Q I h) fun c s1 e=>?_);cases c with
 |false=>exact isTrue_or_nil e
 |true=>exact e
theorem qT(ha:PT X a tA)(hb:PW X (.BoolOp .And (b::bD) pos) tB'):PW X (.BoolOp .And (a::b::bD) pos) (yR tA tB'):=by
 intro wh pins s σ H Q I h;refine isTrue_and (bq (ha pins s σ H _ I h) fun c s1 ⟨H1,I1,q1⟩=>?_);cases c with
 |true=>exact hb wh pins s1 σ H1 Q I1 q1
 |false=>exact⟨H1,I1,q1⟩
theorem pJ(ha:PT X a tA)(hb:PW X (.BoolOp .Or (b::bD) pos) tB'):PW X (.BoolOp .Or (a::b::bD) pos) (At tA tB'):=by
 intro wh pins s σ H Q I h;refine isTrue_or (bq (ha pins s σ H _ I h) fun c s1 ⟨H1,I1,q1⟩=>?_);cases c with
 |true=>exact⟨H1,I1,q1⟩
 |false=>exact hb wh pins s1 σ H1 Q I1 q1
theorem kE(ha:PT X a tA):PT X (.UnaryOp .Not a pos) (yE tA):=by
 intro pins s σ H Q I h;exact isTrue_not (ha pins s σ H (fun c H1=>Q (!c) H1) I h)
noncomputable def vG(ta tb:TE):TE:=fun σ H Q=>ta σ H fun x H1=>∃c,x=.bl c/\if c=true then tb σ H1 Q else Q (.bl false) H1
noncomputable def vX(ta:TE):TE:=fun σ H Q=>ta σ H fun x H1=>∃c,x=.bl c/\Q (.bl (!c)) H1
theorem k8{op}{t:TE}(h:PE X a t):PE X (.BoolOp op [a] pos) t:=fun pins s σ H Q I hw=>BoolOp_one (h pins s σ H Q I hw)
theorem iO(ha:PE X a ta)(hb:PE X (.BoolOp .And (b::bD) pos) tb):PE X (.BoolOp .And (a::b::bD) pos) (vG ta tb):=by
 intro pins s σ H Q I h;refine BoolOp_and (bq (ha pins s σ H _ I h) fun v s1 ⟨x,H1,I1,r1,q1⟩=>?_);obtain⟨c,rfl,q1⟩:=q1;cases r1;refine wpAny_truthy_bool ?_;cases c with
 |true=>exact hb pins s1 σ H1 Q I1 q1
 |false=>exact⟨.bl false,H1,I1,rfl,q1⟩
theorem wB(ha:PE X a ta):PE X (.UnaryOp .Not a pos) (vX ta):=by
 intro pins s σ H Q I h;refine UnaryOp_ (bq (ha pins s σ H _ I h) fun v s1 ⟨x,H1,I1,r1,q1⟩=>?_);obtain⟨c,rfl,q1⟩:=q1;cases r1;exact not_of (wpAny_truthy_bool ⟨.bl (!c),H1,I1,rfl,q1⟩)
noncomputable def Ao(t:TT)(ta tb:TE):TE:=fun σ H Q=>t σ H fun c H1=>if c=true then ta σ H1 Q else tb σ H1 Q
theorem qa{c:Expr}(hc:PT X c tA)(ha:PE X a ta)(hb:PE X b tb):PE X (.IfExp c a b pos) (Ao tA ta tb):=by
 intro pins s σ H Q I h;refine wpAny_IfExp (bq (hc pins s σ H _ I h) fun d s1 ⟨H1,I1,q1⟩=>?_);cases d with
 |true=>exact ha pins s1 σ H1 Q I1 q1
 |false=>exact hb pins s1 σ H1 Q I1 q1
end
noncomputable def bp(K:PySem.W.Frag)(H:Hp)(a:Addr)(xs:List V):Prop:=
 Rd H a (.lst xs) \/
  ∃(o:Obj) (its:Array Value) (n:Nat),K.lookup a=some o/\o.cls=.type "list"/\o.dict=none/\o.data=.seq its n/\its.size<=sizeLine/\aH xs its.toList
noncomputable def bv(K:PySem.W.Frag)(H:Hp)(a:Addr)(xs:List V):Prop:=
 Rd H a (.tup xs) \/
  ∃(o:Obj) (its:Array Value) (n:Nat),K.lookup a=some o/\o.cls=.type "tuple"/\o.data=.seq its n/\its.size<=sizeLine/\aH xs its.toList
noncomputable def zU:Value->Option V
 | .none=>some .non
 | .bool b=>some (.bl b)
 | .int i _=>some (.int i)
 | .str x _=>some (.str x)
 | .bytes b _=>some (.byt b)
 | .float b _=>some (.flt b)
 | .ref a=>some (.ref a)
 | .type n=>some (.ty n)
 |_=>none
theorem aG.abs{x:V}{u:Value}(r:aG x u):zU u=some x:=by
 cases x with
 |non=>cases r;rfl
 |bl _=>cases r;rfl
 |int _=>obtain⟨t,rfl⟩:=r;rfl
 |str _=>obtain⟨t,rfl⟩:=r;rfl
 |byt _=>obtain⟨t,rfl⟩:=r;rfl
 |flt _=>obtain⟨t,rfl⟩:=r;rfl
 |ref _=>cases r;rfl
 |ty _=>cases r;rfl
theorem aG.inj{x y:V}{u:Value}(r:aG x u)(q:aG y u):x=y:=Option.some.inj (r.abs.symm.trans q.abs)
theorem aH.inj:∀{xs ys:List V} {us:List Value},aH xs us->aH ys us->xs=ys
 |_,_,_,.nil,.nil=>rfl
 |_,_,_,.cons r t,.cons r' t'=>by rw[r.inj r',aH.inj t t']
section
variable {X:Cx}{pins:List (Addr×Obj)}{σ:St}{H:Hp}{s:Shared}{a:Addr}{xs ys:List V}
theorem bp.of{K:PySem.W.Frag}(h:H a=some (.lst xs)):bp K H a xs:=.inl (.inl h)
theorem bv.of{K:PySem.W.Frag}(h:H a=some (.tup xs)):bv K H a xs:=.inl (.inl h)
theorem Inv.list(I:Inv X pins σ H s)(h:bp X.K H a xs):∃its:List Value,aH xs its/\PlainL s.heap a its.toArray/\xs.length<=sizeLine:=by
 rcases h with h | ⟨o,its,n,hk,hc,hd,hs,hz,r⟩
 ·obtain⟨z,its,n,r,e⟩:=h.ok I.hok
  exact⟨its,r,⟨_,n,e,rfl,rfl,rfl⟩,z⟩
 ·refine⟨its.toList,r,⟨o,n,I.kIn a o hk,hc,hd,by simpa using hs⟩,?_⟩
  have e:=r.length;simp only[Array.length_toList]at e;omega
theorem Inv.tuple(I:Inv X pins σ H s)(h:bv X.K H a xs):∃its:List Value,aH xs its/\IsTup s.heap a its.toArray/\xs.length<=sizeLine:=by
 rcases h with h | ⟨o,its,n,hk,hc,hs,hz,r⟩
 ·obtain⟨z,its,r,p⟩:=h.ok I.hok
  exact⟨its,r,p,z⟩
 ·refine⟨its.toList,r,⟨o,I.kIn a o hk,hc,n,by simpa using hs⟩,?_⟩
  have e:=r.length;simp only[Array.length_toList]at e;omega
theorem Inv.list_inj(I:Inv X pins σ H s)(h:bp X.K H a xs)(h':bp X.K H a ys):xs=ys:=by
 obtain⟨its,r,⟨o,n,e,_,_,d⟩,_⟩:=I.list h;obtain⟨its',r',⟨o',n',e',_,_,d'⟩,_⟩:=I.list h';rw[e]at e';cases e'
 rw[d]at d'
 injection d' with d1 _
 have:its=its':=by simpa using congrArg Array.toList d1
 subst this;exact r.inj r'
end
noncomputable abbrev Cx.wish(X:Cx)(E:Value->Shared->Prop):Cx:={X with xe:=E}
noncomputable abbrev Cx.nox(X:Cx):Cx:=X.wish fun _ _=>False
theorem Cx.Ok.wish{X:Cx}(ok:X.Ok)(E:Value->Shared->Prop):(X.wish E).Ok:=
 ⟨ok.mod,ok.kind,ok.glob,ok.blt,ok.above,ok.inj,ok.has,ok.cab,ok.hd,ok.frames,ok.stk,ok.exf,ok.bs,ok.bsz,ok.noex,ok.exfs,ok.funs,ok.frf⟩
theorem Cx.Ok.unwish{X:Cx}{E:Value->Shared->Prop}(ok:(X.wish E).Ok):X.Ok:=
 ⟨ok.mod,ok.kind,ok.glob,ok.blt,ok.above,ok.inj,ok.has,ok.cab,ok.hd,ok.frames,ok.stk,ok.exf,ok.bs,ok.bsz,ok.noex,ok.exfs,ok.funs,ok.frf⟩
section
variable {X:Cx}{pins:List (Addr×Obj)}{σ:St}{H:Hp}{s:Shared}{E:Value->Shared->Prop}
theorem Inv.wish(I:Inv X pins σ H s)(E:Value->Shared->Prop):Inv (X.wish E) pins σ H s:=⟨I.ok.wish E,I.os,I.bare,I.base,I.loc,I.cell,I.free,I.freeC,I.pin,I.hok,I.len⟩
theorem Inv.unwish(I:Inv (X.wish E) pins σ H s):Inv X pins σ H s:=⟨I.ok.unwish,I.os,I.bare,I.base,I.loc,I.cell,I.free,I.freeC,I.pin,I.hok,I.len⟩
theorem SP.unwish{D:iN}{f:Flow}{s':Shared}(h:SP (X.wish E) pins D f s'):SP X pins D f s':=by
 cases f with
 |next=>obtain⟨σ',H',I,q⟩:=h;exact⟨σ',H',I.unwish,q⟩
 |brk=>obtain⟨σ',H',I,q⟩:=h;exact⟨σ',H',I.unwish,q⟩
 |cont=>obtain⟨σ',H',I,q⟩:=h;exact⟨σ',H',I.unwish,q⟩
 |ret u=>obtain⟨v,σ',H',I,r,q⟩:=h;exact⟨v,σ',H',I.unwish,r,q⟩
theorem qB.nox{st:List Stmt}{t:TS}(h:qB X.nox st t):qB X st t:=fun pins s σ H D I hw=>
 wpAny_mono (h pins s σ H D (I.wish _) hw) (fun _ _ q=>q.unwish) fun _ _ z=>False.elim z
end
section
variable {X:Cx}{st:Stmt}{bD:List Stmt}{t u:TS}{e:Expr}{te:TE}{pos:Pos}
noncomputable def wA:TS:=fun D σ H=>D.nx σ H
noncomputable def tF(t u:TS):TS:=fun D σ H=>t {D with nx:=u D} σ H
theorem aM:qB X [] wA:=fun _ _ σ H _ I h=>wpAny_execs_nil ⟨σ,H,I,h⟩
theorem ag(h1:PS X st t)(h2:qB X bD u):qB X (st::bD) (tF t u):=by
 intro pins s σ H D I h;refine wpAny_execs_cons (bq (h1 pins s σ H {D with nx:=u D} I h) fun f s1 q=>?_);cases f with
 |next=>
  obtain⟨σ',H',I',q⟩:=q;exact h2 pins s1 σ' H' D I' q
 |ret v=>exact q
 |brk=>exact q
 |cont=>exact q
theorem aj(h1:PS X st t):qB X [st] t:=by
 intro pins s σ H D I h;refine wpAny_execs_cons (bq (h1 pins s σ H D I h) fun f s1 q=>?_);cases f with
 |next=>exact wpAny_execs_nil q
 |ret v=>exact q
 |brk=>exact q
 |cont=>exact q
theorem Inv.quiet{pins:List (Addr×Obj)}{σ:St}{H:Hp}{s:Shared}(I:Inv X pins σ H s):interactive X.env=false:=by simp[interactive,I.ok.kind]
noncomputable def wt(te:TE):TS:=fun D σ H=>te σ H fun _ H1=>D.nx σ H1
theorem cQ(he:PE X e te)(hs:swapsWith e none pos.line X.env=pure false:=by rfl):PS X (.Expr e pos) (wt te):=by
 intro pins s σ H D I h;exact wpAny_Expr_any (bq (he pins s σ H _ I h) fun v s1 ⟨x,H1,I1,r1,q1⟩=>⟨σ,H1,I1,q1⟩) I.quiet hs
noncomputable def y4(te:TE):TS:=fun D σ H=>te σ H D.rt
theorem aA(he:PE X e te):PS X (.Return (some e) pos) (y4 te):=by
 intro pins s σ H D I h;exact wpAny_Return_some (bq (he pins s σ H _ I h) fun v s1 ⟨x,H1,I1,r1,q1⟩=>⟨x,σ,H1,I1,r1,q1⟩)
noncomputable def wu(c:TT)(t u:TS):TS:=fun D σ H=>c σ H fun b H1=>if b=true then t D σ H1 else u D σ H1
theorem bK{c:Expr}{a b:List Stmt}{tc:TT}(hc:PT X c tc)(ha:qB X a t)(hb:qB X b u):PS X (.If c a b pos) (wu tc t u):=by
 intro pins s σ H D I h;refine wpAny_If (bq (hc pins s σ H _ I h) fun d s1 ⟨H1,I1,q1⟩=>?_);cases d with
 |true=>exact ha pins s1 σ H1 D I1 q1
 |false=>exact hb pins s1 σ H1 D I1 q1
end
noncomputable abbrev TG:=V->St->Hp->(St->Hp->Prop)->Prop
noncomputable abbrev x_:=List V->St->Hp->(St->Hp->Prop)->Prop
noncomputable def PG(X:Cx)(target:Expr)(t:TG):Prop:=
 ∀(pins:List (Addr×Obj)) (s:Shared) (σ:St) (H:Hp) (v:V) (u:Value) (Q:St->Hp->Prop),Inv X pins σ H s->aG v u->t v σ H Q ->
  wpAny (model X.prog X.w) X.A (assign target X.env u) (fun _ s'=>∃σ' H',Inv X pins σ' H' s'/\Q σ' H') X.xe s
noncomputable def zw(X:Cx)(ts:List Expr)(t:x_):Prop:=
 ∀(pins:List (Addr×Obj)) (s:Shared) (σ:St) (H:Hp) (vs:List V) (us:List Value) (Q:St->Hp->Prop),Inv X pins σ H s->aH vs us->t vs σ H Q ->
  wpAny (model X.prog X.w) X.A (assignInOrder ((assignEach ts X.env).map (·.2)) us) (fun _ s'=>∃σ' H',Inv X pins σ' H' s'/\Q σ' H') X.xe s
section
variable {X:Cx}{pos:Pos}
noncomputable def j1(i:Nat):TG:=fun v σ H Q=>Q (σ.set i (some v)) H
theorem aC{i:Nat}{x:Str}(hN:X.N.Nodup)(hi:X.N[i]?=some x)(hx:Loc X.env.scope x)(hf:X.fn x=true\/X.env.scope.names.lookup x=some .local:=by first | exact .inl rfl | exact .inr rfl | assumption):PG X (.Name x pos) (j1 i):=by
 intro pins s σ H v u Q I r h;exact wpAny_assign_Name (je I hN hi hx r (fun s' I'=>⟨_,H,I',h⟩) hf)
noncomputable def xg:x_:=fun vs σ H Q=>vs=[]/\Q σ H
noncomputable def tm(t:TG)(u:x_):x_:=fun vs σ H Q=>∃v r,vs=v::r/\t v σ H fun σ' H'=>u r σ' H' Q
theorem ky:zw X [] xg:=by
 intro pins s σ H vs us Q I r h;obtain⟨e,h⟩:=h;subst e;cases r;exact assignInOrder_nil ⟨σ,H,I,h⟩
theorem cT{e:Expr}{es:List Expr}{t:TG}{u:x_}(h1:PG X e t)(h2:zw X es u)
  (hs:(assignEach (e::es) X.env).map (·.2)=assign e X.env::(assignEach es X.env).map (·.2):=by rfl):zw X (e::es) (tm t u):=by
 intro pins s σ H vs us Q I r h;obtain⟨v,vr,e1,h⟩:=h;subst e1;cases r with
 |cons r rr=>
  rw[hs];refine assignInOrder_cons (bq (h1 pins s σ H _ _ _ I r h) fun _ s1 ⟨σ1,H1,I1,q1⟩=>?_);exact h2 pins s1 σ1 H1 _ _ Q I1 rr q1
noncomputable def vK(K:PySem.W.Frag)(n:Nat)(t:x_):TG:=fun v σ H Q=>∃a xs,v=.ref a/\bv K H a xs/\xs.length=n/\t xs σ H Q
theorem nJ{es:List Expr}{k:Nat}{t:x_}{n:Nat}(hc:X.calm=true)(h:zw X es t)
  (hn:(assignEach es X.env).length=n:=by rfl) (hst:(assignEach es X.env).findIdx? (·.1)=none:=by rfl):PG X (.Tuple es k pos) (vK X.K n t):=by
 intro pins s σ H v u Q I r hw;obtain⟨a,xs,e1,hq,hl,hw⟩:=hw;subst e1;cases r;obtain⟨its,rv,ht,hz⟩:=I.tuple hq;refine assign_Tuple_tuple (I.ok.hd hc) ht (by simp[hn,<- hl,rv.length]) hst fun h' hx=>?_;have I1:Inv X pins σ H {s with heap:=h' }:=I.kept (t':=s.toks) fun b o e=>hx b o (Db (Dj e)) e;exact h pins _ σ H xs _ Q I1 (by simpa using rv) hw
noncomputable def xx(te:TE)(g:TG):TS:=fun D σ H=>te σ H fun x H1=>g x σ H1 D.nx
theorem ay{i:Nat}{x:Str}{e:Expr}{te:TE}{pos':Pos}(hN:X.N.Nodup)(hi:X.N[i]?=some x)(hx:Loc X.env.scope x)(he:PE X e te)(hs:swapsWith e (some (.Name x pos')) pos.line X.env=pure false:=by rfl)(hf:X.fn x=true\/X.env.scope.names.lookup x=some .local:=by first | exact .inl rfl | exact .inr rfl | assumption) :
  PS X (.Assign [.Name x pos'] e pos) (xx te (j1 i)):=by
 intro pins s σ H D I h;refine wpAny_Assign_Name (bq (he pins s σ H _ I h) fun v s1 ⟨y,H1,I1,r1,q1⟩=>?_) hs;exact je I1 hN hi hx r1 (fun s2 I2=>⟨_,H1,I2,q1⟩) hf
end
section
variable {X:Cx}{pos:Pos}
end
structure It where
 go:Nat->Hp->Prop
 yld:Nat->Hp->V->Hp->Prop
 stop:Nat->Hp->Prop
noncomputable def kf(X:Cx)(pins:List (Addr×Obj))(H:Hp)(b:Addr):Prop:=
 H b=none/\b≠X.env.locals/\b∉X.fs/\(b∈X.ex\/X.s₀.heap.objs.size<=b)/\(∀x c,X.env.cells.lookup x=some c->c≠b)/\∀p∈X.pn++pins,p.1≠b
theorem Inv.fpOk{X:Cx}{pins:List (Addr×Obj)}{σ:St}{H H':Hp}{s:Shared}{b:Addr}(I:Inv X pins σ H s)(hb:s.heap.objs.size<=b)(hn:H' b=none):kf X pins H' b:=by
 refine⟨hn,Nat.ne_of_gt (Da I.lt hb),I.nofs hb,.inr (Dm I.sz hb),fun x c e z=>?_,fun p hp z=>?_⟩
 ·obtain⟨v,q⟩:=I.cell x c e
  exact absurd (Da q.lt (by rw[z];exact hb)) (Do _)
 ·exact absurd (Da (Dj (I.pin p hp).1) (by rw[z];exact hb)) (Do _)
structure r8(P:Program)(w:World)(K:PySem.W.Frag)(tg:Expr)(J:It)(fp:List Addr)(it:Addr)(tn:Nat->Heap->Prop):Prop where
 mem:it∈fp
 obj:∀i h,tn i h->∀b∈fp,∃o,h.get? b=some o/\∀v,o.data≠.cell v
 keep:∀i h h',tn i h->(∀b∈fp,∀o,h.get? b=some o->h'.get? b=some o)->tn i h'
 item:∀(X:Cx),X.prog=P->X.w=w->X.K=K->X.calm=true->∀(i:Nat) (pins:List (Addr×Obj)) (s:Shared) (σ:St) (H:Hp) (E:Value->Shared->Prop),Inv X pins σ H s->(∀b∈fp,kf X pins H b)->tn i s.heap->J.go i H ->
  wpAny (model P w) X.A (pyNext (.ref it)) (fun r s1=>∃u,r=some u /\
   wpAny (model P w) X.A (letOwnedTupleGo tg (.ref it) u) (fun _ s2=>∃x H',Inv X pins σ H' s2/\aG x u/\J.yld i H x H'/\tn (i+1) s2.heap/\∀b∈fp,H' b=none) E s1) E s
 done:∀(X:Cx),X.prog=P->X.w=w->X.K=K->X.calm=true->∀(i:Nat) (pins:List (Addr×Obj)) (s:Shared) (σ:St) (H:Hp) (E:Value->Shared->Prop),Inv X pins σ H s->(∀b∈fp,kf X pins H b)->tn i s.heap->J.stop i H ->
  wpAny (model P w) X.A (pyNext (.ref it)) (fun r s1=>r=none/\Inv X pins σ H s1) E s
 self:∀(A:Around) (i:Nat) (s:Shared) (Q:Value->Shared->Prop) (E:Value->Shared->Prop),tn i s.heap->Q (.ref it) s->wpAny (model P w) A (pyIter (.ref it)) Q E s
noncomputable abbrev TI:=St->Hp->(It->Hp->Prop)->Prop
noncomputable def zY(X:Cx)(pins:List (Addr×Obj))(σ:St)(tg:Expr)(R:It->Hp->Prop)(itv:Value)(s2:Shared):Prop:=
 ∃(it:Addr) (fp:List Addr) (tn:Nat->Heap->Prop) (J:It) (H':Hp),itv=.ref it/\Inv X pins σ H' s2/\r8 X.prog X.w X.K tg J fp it tn/\tn 0 s2.heap/\(∀b∈fp,kf X pins H' b)/\R J H'
noncomputable def PI(X:Cx)(tg iter:Expr)(wi:TI):Prop:=
 ∀(pins:List (Addr×Obj)) (s:Shared) (σ:St) (H:Hp) (R:It->Hp->Prop),Inv X pins σ H s->wi σ H R ->
  wpAny (model X.prog X.w) X.A (eval iter X.env) (fun v s1=>wpAny (model X.prog X.w) X.A (pyIter v) (zY X pins σ tg R) X.xe s1) X.xe s
theorem sV{M:Model}{A:Around}{E:Value->Shared->Prop}{s:Shared}{tg:Expr}{it:Addr}{u:Value}{o:Obj}{n:String}{vs:Array Value}{Q:Unit->Shared->Prop}(ho:s.heap.get? it=some o)(hc:o.cls=.type n)(hd:o.data=.fields vs)
  (hn:["enumerate","zip","dict_itemiterator","dict_reverseitemiterator","odict_iterator","itertools.zip_longest","itertools.pairwise"].contains n=false) (hQ:Q () s):wpAny M A (letOwnedTupleGo tg (.ref it) u) Q E s:=by
 unfold letOwnedTupleGo;cases tg<;>first
  |exact wpAny_pure hQ
  | (cases u<;>first
    |exact wpAny_pure hQ
    | (refine wpAny_bind (wpAny_load ho ?_)
       rw[hc,hd];show wpAny M A (if(["enumerate","zip","dict_itemiterator","dict_reverseitemiterator","odict_iterator","itertools.zip_longest","itertools.pairwise"].contains n&&vs[0]?==some (rawInt _))=true then _ else _) Q E s;rw[if_neg (by intro h;rw[hn,Bool.false_and]at h;cases h)];exact wpAny_pure hQ))
noncomputable def wT(K:PySem.W.Frag)(a:Addr):It:=
 ⟨fun i H=>∃xs x,bp K H a xs/\xs[i]?=some x,fun i H x H'=>H'=H/\∀xs,bp K H a xs->xs[i]?=some x,fun i H=>∃xs,bp K H a xs/\xs.length<=i⟩
noncomputable def vf(lo:Int)(n:Nat):It:=⟨fun i _=>i<n,fun i H x H'=>H'=H/\x=.int (lo+i),fun i _=>n<=i⟩
theorem tV{P:Program}{w:World}{K:PySem.W.Frag}{tg:Expr}(a it:Addr):r8 P w K tg (wT K a) [it] it (fun i h=>h.IsListIter it a i) where
 mem:=by simp
 obj:=fun i h st b hb=>by
  have e:b=it:=by simpa using hb
  subst e;obtain⟨o,e,c,d⟩:=st;exact⟨o,e,fun v z=>by rw[d]at z;cases z⟩
 keep:=fun i h h' st k=>st.at fun o e=>k it (by simp) o e
 item:=by
  intro X hP hw hK hc i pins s σ H E I hf st hg;subst hP hw hK;obtain⟨xs,x,hq,hx⟩:=hg;obtain⟨its,rv,p,hz⟩:=I.list hq;obtain⟨u,hu,ru⟩:=rv.get hx;obtain⟨f0,f1,f2,f3,f4,f5⟩:=hf it (by simp);refine wpAny_pyNext_list_item st p.isList (x:=u) (by simpa using hu) fun h' st' sb=>?_;have I1:Inv X pins σ H {s with heap:=h' }:=I.turned (t':=s.toks) (fun b o hb e=>(sb.2 b hb).trans e) f0 f1 f3 f4 f5;obtain⟨o,e,c,d⟩:=id st';exact⟨u,rfl,sV (s:={s with heap:=h' }) e c d (by decide) ⟨x,H,I1,ru,⟨rfl,fun ys hy=>by rw[I.list_inj hy hq];exact hx⟩,st',fun b hb=>(hf b hb).1⟩⟩
 done:=by
  intro X hP hw hK hc i pins s σ H E I hf st hg;subst hP hw hK;obtain⟨xs,hq,hx⟩:=hg;obtain⟨its,rv,p,hz⟩:=I.list hq;obtain⟨f0,f1,f2,f3,f4,f5⟩:=hf it (by simp);have hl:=rv.length;exact wpAny_pyNext_list_end (I.ok.hd hc) st p.isList (by simp;omega) fun h' eb=>⟨rfl,I.turned (t':=s.toks) (fun b o hb e=>eb b o hb e) f0 f1 f3 f4 f5⟩
 self:=fun _ _ _ _ _ st h=>wpAny_pyIter_listiter st h
theorem qR{P:Program}{w:World}{K:PySem.W.Frag}{tg:Expr}(it:Addr)(lo:Int)(n:Nat):r8 P w K tg (vf lo n) [it] it (fun i h=>IsRangeIter h it (lo+(i:Nat)*1) ((n:Int)-(i:Nat)) 1) where
 mem:=by simp
 obj:=fun i h st b hb=>by
  have e:b=it:=by simpa using hb
  subst e;exact⟨_,st,fun v z=>by
   have z':Data.fields _=Data.cell v:=z;cases z'⟩
 keep:=fun i h h' st k=>k it (by simp) _ st
 item:=by
  intro X hP hw hK hc i pins s σ H E I hf st hg;subst hP hw hK;obtain⟨f0,f1,f2,f3,f4,f5⟩:=hf it (by simp);have W:=Walks.range (prog:=X.prog) (w:=X.w) (I.ok.hd hc) it lo 1 n;refine W.item i s _ _ hg st fun v h' tk hv st' kk=>?_;obtain⟨t,rfl⟩:=hv;have I1:Inv X pins σ H {s with heap:=h',toks:=tk}:=I.turned (fun b o hb e=>kk b o (by simpa using hb) e) f0 f1 f3 f4 f5;refine⟨_,rfl,sV (s:={s with heap:=h',toks:=tk}) (n:="range_iterator") st' rfl rfl (by decide) ⟨.int (lo+i),H,I1,⟨t,?_⟩,⟨rfl,rfl⟩,st',fun b hb=>(hf b hb).1⟩⟩;rw[Int.mul_one]
 done:=by
  intro X hP hw hK hc i pins s σ H E I hf st hg;subst hP hw hK;obtain⟨f0,f1,f2,f3,f4,f5⟩:=hf it (by simp);exact wpAny_pyNext_range_end (I.ok.hd hc) st (by have:n<=i:=hg;omega) fun h' eb=>⟨rfl,I.turned (t':=s.toks) (fun b o hb e=>eb b o hb e) f0 f1 f3 f4 f5⟩
 self:=fun _ _ _ _ _ st h=>wpAny_pyIter_rangeiter st h
section
variable {X:Cx}{tg:Expr}
noncomputable def vb(K:PySem.W.Frag)(tl:TE):TI:=fun σ H R=>tl σ H fun x H1=>∃a,x=.ref a/\(∃xs,bp K H1 a xs)/\R (wT K a) H1
theorem cB{l:Expr}{tl:TE}(hl:PE X l tl):PI X tg l (vb X.K tl):=by
 intro pins s σ H R I h;refine bq (hl pins s σ H _ I h) fun v s1 ⟨x,H1,I1,r1,q1⟩=>?_;obtain⟨a,e,⟨xs,hq⟩,q⟩:=q1;subst e;cases r1;obtain⟨its,rv,p,hz⟩:=I1.list hq;refine wpAny_pyIter_list p.isList ?_;refine⟨s1.heap.objs.size,[s1.heap.objs.size],_,_,H1,rfl,I1.kept (t':=s1.toks) fun b o e=>CO _ e,tV a _,⟨_,CW _ rfl,rfl,rfl⟩,fun b hb=>?_,q⟩;have e:b=s1.heap.objs.size:=by simpa using hb
 subst e;exact I1.fpOk (Dg _) (I1.hok.fresh (Dg _))
theorem qy{pins:List (Addr×Obj)}{σ:St}{H:Hp}{s:Shared}{R:It->Hp->Prop}{E:Value->Shared->Prop}{lo hi:Int}{t u v:Tok}{tk:Nat}(I:Inv X pins σ H s)(h1:-(2 ^ 62)<=lo)(h2:lo<2 ^ 62)(h3:-(2 ^ 62)<=hi)(h4:hi<2 ^ 62)
  (q:R (vf lo (hi-lo).toNat) H):wpAny (model X.prog X.w) X.A (pyIter (.ref s.heap.objs.size)) (zY X pins σ tg R) E {s with heap:=s.heap.push {cls:=.type "range",data:=.fields #[.int lo t,.int hi u,.int 1 v]},toks:=tk}:=by
 refine wpAny_pyIter_range (IsRange.new ..) (small_one h1 h2 h3 h4) ?_;have I1:Inv X pins σ H {s with heap:=s.heap.push {cls:=.type "range",data:=.fields #[.int lo t,.int hi u,.int 1 v]},toks:=tk}:=I.kept fun b o e=>CO _ e;refine⟨(s.heap.push {cls:=.type "range",data:=.fields #[.int lo t,.int hi u,.int 1 v]}).objs.size,[(s.heap.push {cls:=.type "range",data:=.fields #[.int lo t,.int hi u,.int 1 v]}).objs.size],_,_,H,rfl,
  I1.kept (t':=tk) fun b o e=>CO _ e,qR _ lo (hi-lo).toNat,?_,fun b hb=>?_,q⟩
 ·have e1:lo+((0:Nat):Int)*1=lo:=by simp
  have e2:(((hi-lo).toNat:Nat):Int)-((0:Nat):Int)=Builtin.Range.rangeSize lo hi 1:=by rw[rangeSize_one];split<;>omega
  show IsRangeIter _ _ (lo+((0:Nat):Int)*1) ((((hi-lo).toNat:Nat):Int)-((0:Nat):Int)) 1;rw[e1,e2];exact CW _ rfl
 ·have e:b=(s.heap.push {cls:=.type "range",data:=.fields #[.int lo t,.int hi u,.int 1 v]}).objs.size:=by simpa using hb
  subst e;exact I1.fpOk (Dg _) (I1.hok.fresh (Dg _))
noncomputable def vY(ta:TA):TI:=fun σ H R=>ta σ H fun vs H1=>∃j:Int,vs=[.int j]/\-(2 ^ 62)<=j/\j<2 ^ 62/\R (vf 0 j.toNat) H1
noncomputable def u9(ta:TA):TI:=fun σ H R=>ta σ H fun vs H1=>∃i j:Int,vs=[.int i,.int j]/\(-(2 ^ 62)<=i/\i<2 ^ 62/\-(2 ^ 62)<=j/\j<2 ^ 62)/\R (vf i (j-i).toNat) H1
theorem jG{a:Expr}{ta:TA}{p pos:Pos}(hg:Gl X "range")(hm:X.mg "range"=none)(ha:PA X [a] ta)(hs:starEach [a] X.env=[(false,eval a X.env)]:=by rfl):PI X tg (.Call (.Name "range" p) [a] [] pos) (vY ta):=by
 intro pins s σ H R I h;refine Call_ (fC I hg hm boot_range (PyProof.Rows.callWith_type1 (bq (ha pos pins s σ H _ I h) fun us s1 ⟨vs,H1,I1,r1,q1⟩=>?_) hs rfl));obtain⟨j,e,q1,q2,q⟩:=q1;subst e;cases r1 with
 |cons r rr=>
  cases rr;obtain⟨t,rfl⟩:=r;exact call_range_1 (qy I1 (by omega) (by omega) q1 q2 (by simpa using q))
theorem b9{a b:Expr}{ta:TA}{p pos:Pos}(hg:Gl X "range")(hm:X.mg "range"=none)(ha:PA X [a,b] ta)(hs:starEach [a,b] X.env=[(false,eval a X.env),(false,eval b X.env)]:=by rfl)(hs2:starEach [b] X.env=[(false,eval b X.env)]:=by rfl) :
  PI X tg (.Call (.Name "range" p) [a,b] [] pos) (u9 ta):=by
 intro pins s σ H R I h;refine Call_ (fC I hg hm boot_range (PyProof.Rows.callWith_type1 (bq (ha pos pins s σ H _ I h) fun us s1 ⟨vs,H1,I1,r1,q1⟩=>?_) (by rw[hs,hs2]) (by rw[hs2];rfl)));obtain⟨i,j,e,⟨q1,q2,q3,q4⟩,q⟩:=q1;subst e;cases r1 with
 |cons r rr=>
  cases rr with
  |cons r' rr=>
   cases rr;obtain⟨t,rfl⟩:=r;obtain⟨t',rfl⟩:=r';exact call_range_2 (qy I1 q1 q2 q3 q4 q)
noncomputable def Af(wi:TI)(g:TG)(tb:TS):TS:=fun D σ H=>wi σ H fun J H1=>∃W:Nat->Nat->St->Hp->Prop,(∃m,W 0 m σ H1)/\∀i m σ H,W i m σ H ->
 (J.stop i H/\D.nx σ H)\/(J.go i H/\∃N:St->Hp->Prop,(∀σ' H',N σ' H'->∃m',m'<m/\W (i+1) m' σ' H')/\∀x H',J.yld i H x H'->g x σ H' fun σ2 H2=>tb {D with nx:=N,ct:=N,bk:=D.nx} σ2 H2)
noncomputable def lN(fp:List Addr)(h:Heap):List (Addr×Obj):=fp.filterMap fun b=>(h.get? b).map fun o=>(b,o)
theorem fb{fp:List Addr}{h:Heap}{b:Addr}{o:Obj}(hb:b∈fp)(e:h.get? b=some o):(b,o)∈lN fp h:=List.mem_filterMap.mpr ⟨b,hb,by rw[e];rfl⟩
theorem uP{fp:List Addr}{h:Heap}{p:Addr×Obj}(hp:p∈lN fp h):p.1∈fp/\h.get? p.1=some p.2:=by
 obtain⟨b,hb,e⟩:=List.mem_filterMap.mp hp;cases q:h.get? b with
 |none=>rw[q]at e;cases e
 |some o=>
  rw[q]at e;have e':(b,o)=p:=Option.some.inj e;subst e';exact⟨hb,q⟩
theorem Inv.pinned{pins:List (Addr×Obj)}{σ:St}{H:Hp}{s:Shared}{fp:List Addr}(I:Inv X pins σ H s)(hf:∀b∈fp,kf X pins H b)(ho:∀b∈fp,∃o,s.heap.get? b=some o/\∀v,o.data≠.cell v):Inv X (pins++lN fp s.heap) σ H s:=
 I.pins_of fun p hp=>(C7.mp hp).elim (fun z=>I.pin p (List.mem_append_right _ z)) fun z=>by
  obtain⟨hb,e⟩:=uP z;obtain⟨f0,f1,f2,_⟩:=hf p.1 hb;obtain⟨o,e',d⟩:=ho p.1 hb;rw[e]at e';cases e'
  exact⟨e,f0,f1,f2,d⟩
theorem Inv.unpinned{pins pl:List (Addr×Obj)}{σ:St}{H:Hp}{s:Shared}(I:Inv X (pins++pl) σ H s):Inv X pins σ H s:=I.pins_of fun p hp=>I.pin p (List.mem_append_right _ (List.mem_append_left _ hp))
theorem yP{iter:Expr}{body:List Stmt}{wi:TI}{g:TG}{tb:TS}{pos:Pos}(hp:PassesOwn (model X.prog X.w) X.A X.env X.xe)(hc:X.calm=true)(hi:PI X tg iter wi)(hg:PG X tg g)(hb:qB X body tb)
  (hs:∀x,foldedSetIterable iter X.env x=pure x:=by intro _;rfl):PS X (.For tg iter body [] pos) (Af wi g tb):=by
 intro pins s σ H D I h;refine wpAny_For (bq (hi pins s σ H _ I h) fun v s1 h1=>bq h1 fun itv s2 h2=>?_) hs;obtain⟨it,fp,tn,J,H2,e,I2,T,st2,f2,W,⟨m0,w0⟩,turn⟩:=h2;subst e
 -- what stays true of the iterator's objects through the loop
 have stat:∀{H':Hp},(∀b∈fp,H' b=none)->∀b∈fp,kf X pins H' b:=fun hn b hb=>⟨hn b hb,(f2 b hb).2⟩;refine codeAny_forLoop_any (fun n s'=>∃i σ' H',Inv X pins σ' H' s'/\tn i s'.heap/\(∀b∈fp,H' b=none)/\W i n σ' H') ?_ m0 ⟨0,σ,H2,I2,st2,fun b hb=>(f2 b hb).1,w0⟩;rintro n s3 ⟨i,σ3,H3,I3,st3,fr3,w3⟩;rcases turn i n σ3 H3 w3 with⟨stop,qn⟩ | ⟨go,N,hN,step⟩
 ·refine wpAny_passesOwn hp (bq (T.done X rfl rfl rfl hc i pins s3 σ3 H3 X.xe I3 (stat fr3) st3 stop) fun r s4 ⟨hr,I4⟩=>?_)
  subst hr;exact wpAny_execs_nil ⟨σ3,H3,I4,qn⟩
 ·refine wpAny_passesOwn hp (bq (T.item X rfl rfl rfl hc i pins s3 σ3 H3 X.xe I3 (stat fr3) st3 go) fun r s4 ⟨u,hr,h4⟩=>?_)
  subst hr;refine wpAny_passesOwn hp (bq h4 fun _ s5 ⟨x,H5,I5,r5,y5,st5,fr5⟩=>?_);have I5':=I5.pinned (stat fr5) (T.obj _ _ st5);refine wpAny_passesOwn hp (bq (hg _ s5 σ3 H5 x u _ I5' r5 (step x H5 y5)) fun _ s6 ⟨σ6,H6,I6,q6⟩=>?_);refine wpAny_passesOwn hp (bq (hb _ s6 σ6 H6 _ I6 q6) fun f s7 q7=>?_);have again:∀{σ7:St} {H7:Hp},Inv X (pins++lN fp s5.heap) σ7 H7 s7->N σ7 H7->∃m,m<n/\∃i σ' H',Inv X pins σ' H' s7/\tn i s7.heap/\(∀b∈fp,H' b=none)/\W i m σ' H':=fun{σ7 H7} I7 n7=>by
   obtain⟨m',hm,w7⟩:=hN σ7 H7 n7;refine⟨m',hm,i+1,σ7,H7,I7.unpinned,T.keep _ _ _ st5 fun b hb o e=>(I7.pin (b,o) (List.mem_append_right _ (List.mem_append_right _ (fb hb e)))).1,fun b hb=>?_,w7⟩;obtain⟨o,e,d⟩:=T.obj _ _ st5 b hb;exact(I7.pin (b,o) (List.mem_append_right _ (List.mem_append_right _ (fb hb e)))).2.1
  cases f with
  |next=>obtain⟨σ7,H7,I7,n7⟩:=q7;exact again I7 n7
  |cont=>obtain⟨σ7,H7,I7,n7⟩:=q7;exact again I7 n7
  |brk=>obtain⟨σ7,H7,I7,q7⟩:=q7;exact⟨σ7,H7,I7.unpinned,q7⟩
  |ret v=>obtain⟨x7,σ7,H7,I7,r7,q7⟩:=q7;exact⟨x7,σ7,H7,I7.unpinned,r7,q7⟩
end
theorem vD{K:PySem.W.Frag}{a:Addr}{xs:List V}{g:TG}{tb:TS}{D:iN}{σ:St}{H:Hp}(Pv:Nat->St->Hp->Prop)(h0:Pv 0 σ H)(hl:∀i σ H,i<=xs.length->Pv i σ H->bp K H a xs)
  (hs:∀i x σ H,xs[i]?=some x->Pv i σ H->g x σ H fun σ2 H2=>tb {D with nx:=Pv (i+1),ct:=Pv (i+1),bk:=D.nx} σ2 H2) (hd:∀σ H,Pv xs.length σ H->D.nx σ H) :
  ∃W:Nat->Nat->St->Hp->Prop,(∃m,W 0 m σ H)/\∀i m σ H,W i m σ H ->
   ((wT K a).stop i H/\D.nx σ H)\/((wT K a).go i H/\∃N:St->Hp->Prop,(∀σ' H',N σ' H'->∃m',m'<m/\W (i+1) m' σ' H')/\∀x H',(wT K a).yld i H x H'->g x σ H' fun σ2 H2=>tb {D with nx:=N,ct:=N,bk:=D.nx} σ2 H2):=by
 refine⟨fun i m σ H=>m=xs.length-i/\i<=xs.length/\Pv i σ H,⟨xs.length,by simp,Dh _,h0⟩,?_⟩;rintro i m σ H ⟨rfl,hi,p⟩;have q:=hl i σ H hi p
 by_cases hlt:i<xs.length
 ·refine .inr ⟨⟨xs,xs[i],q,by simp[hlt]⟩,Pv (i+1),fun σ' H' p'=>⟨xs.length-(i+1),by omega,rfl,hlt,p'⟩,fun x H' y=>?_⟩
  obtain⟨e,y⟩:=y;subst e;exact hs i x σ _ (y xs q) p
 ·have e:i=xs.length:=by omega
  subst e;exact .inl ⟨⟨xs,q,Dg _⟩,hd σ H p⟩
theorem uQ{lo:Int}{n:Nat}{g:TG}{tb:TS}{D:iN}{σ:St}{H:Hp}(Pv:Nat->St->Hp->Prop)(h0:Pv 0 σ H)
  (hs:∀i σ H,i<n->Pv i σ H->g (.int (lo+i)) σ H fun σ2 H2=>tb {D with nx:=Pv (i+1),ct:=Pv (i+1),bk:=D.nx} σ2 H2) (hd:∀σ H,Pv n σ H->D.nx σ H) :
  ∃W:Nat->Nat->St->Hp->Prop,(∃m,W 0 m σ H)/\∀i m σ H,W i m σ H ->
   ((vf lo n).stop i H/\D.nx σ H)\/((vf lo n).go i H/\∃N:St->Hp->Prop,(∀σ' H',N σ' H'->∃m',m'<m/\W (i+1) m' σ' H')/\∀x H',(vf lo n).yld i H x H'->g x σ H' fun σ2 H2=>tb {D with nx:=N,ct:=N,bk:=D.nx} σ2 H2):=by
 refine⟨fun i m σ H=>m=n-i/\i<=n/\Pv i σ H,⟨n,by simp,Dh _,h0⟩,?_⟩;rintro i m σ H ⟨rfl,hi,p⟩
 by_cases hlt:i<n
 ·refine .inr ⟨hlt,Pv (i+1),fun σ' H' p'=>⟨n-(i+1),by omega,rfl,hlt,p'⟩,fun x H' y=>?_⟩
  obtain⟨e,y⟩:=y;subst e y;exact hs i σ _ hlt p
 ·have e:i=n:=by omega
  subst e;exact .inl ⟨Dg _,hd σ H p⟩
noncomputable abbrev R2:=V->V->Hp->VK->Prop
noncomputable def aN(X:Cx)(f:Value->Value->Sem Value)(r:R2):Prop:=
 ∀(pins:List (Addr×Obj)) (s:Shared) (σ:St) (H:Hp) (x y:V) (v u:Value) (Q:VK),Inv X pins σ H s->aG x v->aG y u->r x y H Q ->
  wpAny (model X.prog X.w) X.A (f v u) (EP X pins σ Q) X.xe s
noncomputable def eY(X:Cx)(f:Value)(r:List V->Hp->VK->Prop):Prop:=
 ∀(pins:List (Addr×Obj)) (s:Shared) (σ:St) (H:Hp) (xs:List V) (us:List Value) (Q:VK),Inv X pins σ H s->aH xs us->r xs H Q ->
  wpAny (model X.prog X.w) X.A (call f us) (EP X pins σ Q) X.xe s
noncomputable def y9(r:R2)(ta tb:TE):TE:=fun σ H Q=>ta σ H fun x H1=>tb σ H1 fun y H2=>r x y H2 Q
noncomputable def rI(C:Int->Int->Prop)(g:Int->Int->V):R2:=fun x y H Q=>∃i j,x=.int i/\y=.int j/\C i j/\Q (g i j) H
noncomputable def u3(g:Int->Int->V):R2:=fun x y H Q=>∃i j,x=.int i/\y=.int j/\Q (g i j) H
section
variable {X:Cx}{a b c:Expr}{ta tb tc:TE}{pos:Pos}
theorem yG(ha:PE X a ta)(hb:PE X b tb){pins:List (Addr×Obj)}{s:Shared}{σ:St}{H:Hp}{R:V->V->Hp->Prop}(I:Inv X pins σ H s)
  (h:ta σ H fun x H1=>tb σ H1 fun y H2=>R x y H2) {Q:Value->Shared->Prop} {f:Value->Value->Sem Value}
  (hf:∀v u s2 x y H2,Inv X pins σ H2 s2->aG x v->aG y u->R x y H2->wpAny (model X.prog X.w) X.A (f v u) Q X.xe s2) :
  wpAny (model X.prog X.w) X.A (eval a X.env) (fun v s₁=>wpAny (model X.prog X.w) X.A (eval b X.env) (fun u s₂=>wpAny (model X.prog X.w) X.A (f v u) Q X.xe s₂) X.xe s₁) X.xe s:=by
 refine bq (ha pins s σ H _ I h) fun v s1 ⟨x,H1,I1,r1,q1⟩=>?_;refine bq (hb pins s1 σ H1 _ I1 q1) fun u s2 ⟨y,H2,I2,r2,q2⟩=>?_;exact hf v u s2 x y H2 I2 r1 r2 q2
theorem ap{op:Operator}{r:R2}(ho:aN X (binaryOp op) r)(ha:PE X a ta)(hb:PE X b tb):PE X (.BinOp a op b pos) (y9 r ta tb):=by
 intro pins s σ H Q I h;exact wpAny_BinOp (yG ha hb I h fun v u s2 x y H2 I2 rx ry q=>ho pins s2 σ H2 x y v u Q I2 rx ry q)
theorem Am{f:Value->Value->Sem Value}{C:Int->Int->Prop}{g:Int->Int->Int}
  (rule:∀(i j:Int) (t u:Tok) (s:Shared) (Q:Value->Shared->Prop) (E:Value->Shared->Prop),C i j->Q (.int (g i j) s.toks) {s with toks:=s.toks+1}->wpAny (model X.prog X.w) X.A (f (.int i t) (.int j u)) Q E s) :
  aN X f (rI C fun i j=>.int (g i j)):=by
 intro pins s σ H x y v u Q I rx ry h;obtain⟨i,j,rfl,rfl,hc,q⟩:=h;obtain⟨t,rfl⟩:=rx;obtain⟨t',rfl⟩:=ry;exact rule i j t t' s _ _ hc ⟨.int (g i j),H,I.tok _,⟨_,rfl⟩,q⟩
theorem zx{f:Value->Value->Sem Value}{g:Int->Int->Int}
  (rule:∀(i j:Int) (t u:Tok) (s:Shared) (Q:Value->Shared->Prop) (E:Value->Shared->Prop),Q (.int (g i j) s.toks) {s with toks:=s.toks+1}->wpAny (model X.prog X.w) X.A (f (.int i t) (.int j u)) Q E s) :
  aN X f (u3 fun i j=>.int (g i j)):=by
 intro pins s σ H x y v u Q I rx ry h;obtain⟨i,j,rfl,rfl,q⟩:=h;obtain⟨t,rfl⟩:=rx;obtain⟨t',rfl⟩:=ry;exact rule i j t t' s _ _ ⟨.int (g i j),H,I.tok _,⟨_,rfl⟩,q⟩
theorem yZ{f:Value->Value->Sem Value}{g:Int->Int->Bool}
  (rule:∀(i j:Int) (t u:Tok) (s:Shared) (Q:Value->Shared->Prop) (E:Value->Shared->Prop),Q (.bool (g i j)) s->wpAny (model X.prog X.w) X.A (f (.int i t) (.int j u)) Q E s) :
  aN X f (u3 fun i j=>.bl (g i j)):=by
 intro pins s σ H x y v u Q I rx ry h;obtain⟨i,j,rfl,rfl,q⟩:=h;obtain⟨t,rfl⟩:=rx;obtain⟨t',rfl⟩:=ry;exact rule i j t t' s _ _ ⟨.bl (g i j),H,I,rfl,q⟩
noncomputable def vq(i j:Int):Prop:=(-(2 ^ 64)<i/\i<2 ^ 64)\/(-(2 ^ 64)<j/\j<2 ^ 64)
theorem vq.ok{i j:Int}(h:vq i j):IntMulOk i j:=by
 rcases h with⟨h1,h2⟩ | ⟨h1,h2⟩
 ·exact .of_left (intBits_le_64 h1 h2)
 ·exact .of_right (intBits_le_64 h1 h2)
theorem bw:aN X (binaryOp .Add) (u3 fun i j=>.int (i+j)):=zx fun _ _ _ _ _ _ _ q=>add_int q
theorem cE:aN X (binaryOp .Sub) (u3 fun i j=>.int (i-j)):=zx fun _ _ _ _ _ _ _ q=>sub_int q
theorem cY:aN X (binaryOp .Mult) (rI vq fun i j=>.int (i*j)):=Am fun _ _ _ _ _ _ _ hc q=>mul_int q hc.ok
theorem aV:aN X (binaryOp .Mod) (rI (fun _ j=>0<j) fun i j=>.int (i%j)):=Am fun i j _ _ _ _ _ hc q=>by
 have h1:(0:Int)<j:=hc;exact mod_int' (by omega) (by rw[Int.fmod_eq_emod_of_nonneg i (by omega)];exact q)
end
noncomputable def w4:V->V->Bool
 | .non,.non=>true | .non,.int _=>true | .int _,.non=>true | .non,.bl _=>true | .bl _,.non=>true | .non,.str _=>true | .str _,.non=>true
 | .int _,.int _=>true | .bl _,.bl _=>true | .str _,.str _=>true | .byt _,.byt _=>true
 | .int _,.str _=>true | .str _,.int _=>true | .bl _,.str _=>true | .str _,.bl _=>true
 |_,_=>false
noncomputable def Av:R2:=fun x y H Q=>w4 x y=true/\Q (.bl (decide (x=y))) H
noncomputable def zX:R2:=fun x y H Q=>w4 x y=true/\Q (.bl (!decide (x=y))) H
theorem sJ{i j:Int}:decide (V.int i=V.int j)=(i==j):=by
 rw[Bool.eq_iff_iff];simp
theorem wz{i j:Bool}:decide (V.bl i=V.bl j)=(i==j):=by
 rw[Bool.eq_iff_iff];simp
theorem sZ{i j:Str}:decide (V.str i=V.str j)=(i==j):=by
 rw[Bool.eq_iff_iff];simp
theorem sw{i j:Array UInt8}:decide (V.byt i=V.byt j)=(i.toList==j.toList):=by
 rw[Bool.eq_iff_iff];cases i;cases j;simp
section
variable {X:Cx}{a b c:Expr}{ta tb tc:TE}{pos:Pos}
theorem aP{pins:List (Addr×Obj)}{σ:St}{H:Hp}{s:Shared}{Q:VK}{k k':Bool}(I:Inv X pins σ H s)(q:Q (.bl k) H)(e:k=k'):EP X pins σ Q (.bool k') s:=by
 subst e;exact⟨.bl k,H,I,rfl,q⟩
theorem eR:aN X (compareOp .Eq) Av:=by
 intro pins s σ H x y v u Q I rx ry h;obtain⟨hs,q⟩:=h;cases x with
 |non=>
  cases rx;cases y with
  |non=>cases ry;exact PySem.EqNone.eq_none_none (aP I q (by simp))
  |bl j=>cases ry;exact PySem.EqNone.eq_none_bool (aP I q (by simp))
  |int j=>obtain⟨t',rfl⟩:=ry;exact PySem.EqNone.eq_none_int (aP I q (by simp))
  |str j=>obtain⟨t',rfl⟩:=ry;exact PySem.EqNone.eq_none_str (aP I q (by simp))
  |_=>exact absurd (show false=true from hs) Di
 |bl i=>
  cases rx;cases y with
  |non=>cases ry;exact PySem.EqNone.eq_bool_none (aP I q (by simp))
  |bl j=>cases ry;exact eq_bool (aP I q wz)
  |str j=>obtain⟨t',rfl⟩:=ry;exact PySem.EqMixed.eq_bool_str (aP I q (by simp))
  |_=>exact absurd (show false=true from hs) Di
 |int i=>
  obtain⟨t,rfl⟩:=rx;cases y with
  |non=>cases ry;exact PySem.EqNone.eq_int_none (aP I q (by simp))
  |int j=>obtain⟨t',rfl⟩:=ry;exact eq_int (aP I q sJ)
  |str j=>obtain⟨t',rfl⟩:=ry;exact PySem.EqMixed.eq_int_str (aP I q (by simp))
  |_=>exact absurd (show false=true from hs) Di
 |str i=>
  obtain⟨t,rfl⟩:=rx;cases y with
  |non=>cases ry;exact PySem.EqNone.eq_str_none (aP I q (by simp))
  |bl j=>cases ry;exact PySem.EqMixed.eq_str_bool (aP I q (by simp))
  |int j=>obtain⟨t',rfl⟩:=ry;exact PySem.EqMixed.eq_str_int (aP I q (by simp))
  |str j=>obtain⟨t',rfl⟩:=ry;exact eq_str (aP I q sZ)
  |_=>exact absurd (show false=true from hs) Di
 |byt i=>
  obtain⟨t,rfl⟩:=rx;cases y with
  |byt j=>obtain⟨t',rfl⟩:=ry;exact PySem.W.eq_bytes (aP I q sw)
  |_=>exact absurd (show false=true from hs) Di
 |_=>cases y<;>exact absurd (show false=true from hs) Di
theorem vC:aN X (compareOp .NotEq) zX:=by
 intro pins s σ H x y v u Q I rx ry h;obtain⟨hs,q⟩:=h;cases x with
 |non=>
  cases rx;cases y with
  |non=>cases ry;exact PySem.EqNone.ne_none_none (aP I q (by simp))
  |bl j=>cases ry;exact PySem.EqNone.ne_none_bool (aP I q (by simp))
  |int j=>obtain⟨t',rfl⟩:=ry;exact PySem.EqNone.ne_none_int (aP I q (by simp))
  |str j=>obtain⟨t',rfl⟩:=ry;exact PySem.EqNone.ne_none_str (aP I q (by simp))
  |_=>exact absurd (show false=true from hs) Di
 |bl i=>
  cases rx;cases y with
  |non=>cases ry;exact PySem.EqNone.ne_bool_none (aP I q (by simp))
  |bl j=>cases ry;exact ne_bool (aP I q (congrArg not wz))
  |str j=>obtain⟨t',rfl⟩:=ry;exact PySem.EqMixed.ne_bool_str (aP I q (by simp))
  |_=>exact absurd (show false=true from hs) Di
 |int i=>
  obtain⟨t,rfl⟩:=rx;cases y with
  |non=>cases ry;exact PySem.EqNone.ne_int_none (aP I q (by simp))
  |int j=>obtain⟨t',rfl⟩:=ry;exact ne_int (aP I q (congrArg not sJ))
  |str j=>obtain⟨t',rfl⟩:=ry;exact PySem.EqMixed.ne_int_str (aP I q (by simp))
  |_=>exact absurd (show false=true from hs) Di
 |str i=>
  obtain⟨t,rfl⟩:=rx;cases y with
  |non=>cases ry;exact PySem.EqNone.ne_str_none (aP I q (by simp))
  |bl j=>cases ry;exact PySem.EqMixed.ne_str_bool (aP I q (by simp))
  |int j=>obtain⟨t',rfl⟩:=ry;exact PySem.EqMixed.ne_str_int (aP I q (by simp))
  |str j=>obtain⟨t',rfl⟩:=ry;exact ne_str (aP I q (congrArg not sZ))
  |_=>exact absurd (show false=true from hs) Di
 |byt i=>
  obtain⟨t,rfl⟩:=rx;cases y with
  |byt j=>obtain⟨t',rfl⟩:=ry;exact PySem.W.ne_bytes (aP I q (congrArg not sw))
  |_=>exact absurd (show false=true from hs) Di
 |_=>cases y<;>exact absurd (show false=true from hs) Di
theorem sR:aN X (compareOp .Lt) (u3 fun i j=>.bl (decide (i<j))):=yZ fun _ _ _ _ _ _ _ q=>lt_int q
theorem sD:aN X (compareOp .LtE) (u3 fun i j=>.bl (decide (i<=j))):=yZ fun _ _ _ _ _ _ _ q=>le_int q
theorem jt:aN X (compareOp .Gt) (u3 fun i j=>.bl (decide (j<i))):=yZ fun _ _ _ _ _ _ _ q=>gt_int q
theorem tw:aN X (compareOp .In) (fun x y H Q=>∃i j,x=.str i/\y=.str j/\Q (.bl (!(Builtin.Str.occurrences j i 0 j.length 1).isEmpty)) H):=by
 intro pins s σ H x y v u Q I rx ry h;obtain⟨i,j,rfl,rfl,q⟩:=h;obtain⟨t,rfl⟩:=rx;obtain⟨t',rfl⟩:=ry;exact in_str (aP I q rfl)
theorem oW:aN X (compareOp .NotIn) (fun x y H Q=>∃i j,x=.str i/\y=.str j/\Q (.bl (!(!(Builtin.Str.occurrences j i 0 j.length 1).isEmpty))) H):=by
 intro pins s σ H x y v u Q I rx ry h;obtain⟨i,j,rfl,rfl,q⟩:=h;obtain⟨t,rfl⟩:=rx;obtain⟨t',rfl⟩:=ry;exact notIn_str (aP I q rfl)
theorem aS(b:Expr){op:CmpOp}(h:op≠.In:=by decide)(h2:op≠.NotIn:=by decide):behindInMarks op b=false:=by
 have e1:(op==CmpOp.In)=false:=by cases op<;>first | rfl | exact absurd rfl h
 have e2:(op==CmpOp.NotIn)=false:=by cases op<;>first | rfl | exact absurd rfl h2
 cases b<;>simp[behindInMarks,e1,e2]
theorem ku{op:CmpOp}{r:R2}(ho:aN X (compareOp op) r)(ha:PE X a ta)(hb:PE X b tb)(hm:behindInMarks op b=false):PE X (.Compare a [op] [b] pos) (y9 r ta tb):=by
 intro pins s σ H Q I h;exact wpAny_Compare1 (yG ha hb I h fun v u s2 x y H2 I2 rx ry q=>ho pins s2 σ H2 x y v u Q I2 rx ry q) hm
noncomputable def sE(t:TE):TT:=fun σ H Q=>t σ H fun x H'=>∃k,x=.bl k/\Q k H'
theorem aD{op:CmpOp}{r:R2}(ho:aN X (compareOp op) r)(ha:PE X a ta)(hb:PE X b tb)(hm:behindInMarks op b=false):PT X (.Compare a [op] [b] pos) (sE (y9 r ta tb)):=by
 intro pins s σ H Q I h;refine wpAny_isTrue_Compare1 (bq (ha pins s σ H _ I h) fun v s1 ⟨x,H1,I1,r1,q1⟩=>bq (hb pins s1 σ H1 _ I1 q1) fun u s2 ⟨y,H2,I2,r2,q2⟩=>
  bq (ho pins s2 σ H2 x y v u _ I2 r1 r2 q2) fun c s3 ⟨z,H3,I3,r3,k,e,q3⟩=>?_) hm
 subst e;cases r3;exact wpAny_truthy_bool ⟨H3,I3,q3⟩
noncomputable def rC(r r':R2)(ta tb tc:TE):TE:=fun σ H Q=>ta σ H fun x H1=>tb σ H1 fun y H2=>r x y H2 fun z H3=>∃k,z=.bl k /\
 (if k=true then tc σ H3 fun w' H4=>r' y w' H4 Q else Q (.bl false) H3)
theorem pB{op op':CmpOp}{r r':R2}(ho:aN X (compareOp op) r)(ho':aN X (compareOp op') r')(ha:PE X a ta)(hb:PE X b tb)(hc:PE X c tc)
  (hm:lastMarks [op,op'] [b,c]=false:=by with_unfolding_all rfl):PE X (.Compare a [op,op'] [b,c] pos) (rC r r' ta tb tc):=by
 intro pins s σ H Q I h;refine Compare_chain (bq (ha pins s σ H _ I h) fun v s1 ⟨x,H1,I1,r1,q1⟩=>chain_link (bq (hb pins s1 σ H1 _ I1 q1) fun u s2 ⟨y,H2,I2,r2,q2⟩=>
  bq (ho pins s2 σ H2 x y v u _ I2 r1 r2 q2) fun d s3 ⟨z,H3,I3,r3,k,e,q3⟩=>?_)) hm
 subst e;cases r3;refine wpAny_truthy_bool ?_;cases k with
 |false=>exact ite_ff ⟨.bl false,H3,I3,rfl,q3⟩
 |true=>exact ite_tt (chain_last (bq (hc pins s3 σ H3 _ I3 q3) fun w' s4 ⟨z',H4,I4,r4,q4⟩=>ho' pins s4 σ H4 y z' u w' Q I4 r2 r4 q4))
theorem lu:(sizeLine:Nat)<2 ^ 63:=by rw[sizeLine_eq];decide
theorem lT:aN X (binaryOp .Add) (fun x y H Q=>∃i j,x=.str i/\y=.str j/\i.length+j.length<=sizeLine/\Q (.str (i++j)) H):=by
 intro pins s σ H x y v u Q I rx ry h;obtain⟨i,j,rfl,rfl,hz,q⟩:=h;obtain⟨t,rfl⟩:=rx;obtain⟨t',rfl⟩:=ry;exact add_str (fun t' tk=>⟨.str (i++j),H,I.tok _,⟨_,rfl⟩,q⟩) hz
theorem qp{x:V}{us:List Value}(r:aH [x] us):∃u,us=[u]/\aG x u:=by
 cases r with
 |cons r1 r2=>cases r2;exact⟨_,rfl,r1⟩
theorem zz{x y:V}{us:List Value}(r:aH [x,y] us):∃u w',us=[u,w']/\aG x u/\aG y w':=by
 cases r with
 |cons r1 r2=>
  cases r2 with
  |cons r3 r4=>cases r4;exact⟨_,_,rfl,r1,r3⟩
end
structure rh(h:Heap)(x dx C:Addr)(mA:Str->Option Value):Prop where
 obj:h.get? x=some (PySem.W.instObj C dx)
 ns:h.Ns1 dx mA
 ne:dx≠x
theorem mz{h:Heap}{dx:Addr}{mA:Str->Option Value}(n:h.Ns1 dx mA):∃od,h.get? dx=some od/\∀name,PySem.W.lookIn name od=some (mA name):=by
 obtain⟨o,es,ep,ho,hd,hk,_,hm⟩:=n;refine⟨o,ho,fun name=>?_⟩;have e:=hm name;unfold nsFind findBy at e;rw[<- Array.find?_toList]at e;unfold PySem.W.lookIn;rw[hd];dsimp only
 split
 ·rename_i y q
  rw[q]at e;exact congrArg some e
 ·rename_i q
  rw[q]at e;have a:es.toList.any (·.refKey)=false:=by
   rw[List.any_eq_false];intro y hy;obtain⟨z,t,hkey⟩:=hk y (Array.mem_toList_iff.mp hy);simp[DictEntry.refKey,hkey]
  have a':¬ es.toList.any (·.refKey)=true:=by rw[a];exact Di
  rw[if_neg a'];exact congrArg some e
theorem rh.look{h:Heap}{x dx C:Addr}{mA:Str->Option Value}(I:rh h x dx C mA):∃od,PySem.W.InstAt h x (PySem.W.instObj C dx) C (some od)/\∀name,PySem.W.lookIn name od=some (mA name):=
 let ⟨od,ho,hl⟩:=mz I.ns
 ⟨od,⟨I.obj,rfl,rfl,ho⟩,hl⟩
section
variable {prog:Program}{w:World}{A:Around}{E:Value->Shared->Prop}{s:Shared}{K:PySem.W.Frag}{x dx C f:Addr}{mA:Str->Option Value}{name:Str}{v:Value}
theorem xu{expr:Bool}{Q:Value->Shared->Prop}(X:K.In s.heap)(I:rh s.heap x dx C mA)(hg:PySem.W.plainGet K C name=true)(hh:PySem.W.hasDictIn K C=true)
  (ha:PySem.W.findIn K (.ref C) name=some none) (hv:mA name=some v) (hv':PySem.W.handedIn v=true) (h:Q v {s with toks:=s.toks+1}) :
  wpAny (model prog w) A (getAttr (.ref x) name expr) Q E s:=by
 obtain⟨od,J,hl⟩:=I.look;exact PySem.W.get_value X J (PySem.W.plainGet_of hg).1 (PySem.W.findObj_own hh ha rfl (by rw[hl,hv])) hv' h
theorem vU{pl:Sem Bool}{Q:Value×List Value->Shared->Prop}(X:K.In s.heap)(I:rh s.heap x dx C mA)(hg:PySem.W.plainGet K C name=true)
  (hf:PySem.W.findIn K (.ref C) name=some (some (.ref f))) (ht:PySem.W.isFn K (.ref f)=true) (hv:mA name=none) (h:Q (.ref f,[.ref x]) s) :
  wpAny (model prog w) A (getMethod (.ref x) name pl) Q E s:=by
 obtain⟨od,J,hl⟩:=I.look;exact PySem.W.method_fn X J (PySem.W.plainGet_of hg).1 (PySem.W.plainGet_of hg).2 hf (beq_iff_eq.mp ht) (by show(PySem.W.lookIn name od).map (·.isSome)=some false;rw[hl,hv];rfl) h
theorem xN{ns:List Str}{Q:Unit->Shared->Prop}(X:K.In s.heap)(I:rh s.heap x dx C mA)
  (hs:PySem.W.findIn K (.ref C) "__setattr__"=some (some (.builtin "object.__setattr__"))) (hp:PySem.W.plainOver K C=true) (ht:PySem.W.takerIn K C name=some none) (hh:PySem.W.hasDictIn K C=true)
  (hw:PySem.Within mA ns) (hsz:ns.length<=sizeLine)
  (h:∀h',rh h' x dx C (fun y=>if y=name then some v else mA y)->Heap.SameBut dx s.heap h'->Q () {s with heap:=h',toks:=s.toks+2}) :
  wpAny (model prog w) A (setAttr (.ref x) name v) Q E s:=by
 obtain⟨od,J,hl⟩:=I.look;refine PySem.W.set_plain X J hs (PySem.W.osa_open (s:={s with toks:=s.toks+1}) (r:=none) X J hp ht fun b=>?_);obtain⟨cd,hc,hd'⟩:=PySem.W.any_some hh;have hx:s.heap.get? x=some ⟨.ref C,some dx,.plain,#[]⟩:=I.obj;refine wpAny_bind (wpAny_pure (wpAny_bind (wpAny_bind (wpAny_loadPart hx (wpAny_bind (PySem.W.Looks.here (s:={s with toks:=s.toks+1}) (PySem.W.looks_clsIn X hc) ?_))))));rw[hd'];refine wpAny_pure (a:=some dx) (wpAny_bind (wpAny_pure (wpAny_bind ?_)));refine wpAny_nsSet1 (s:={s with toks:=s.toks+1}) I.ns fun h' hn2 hs2=>?_;obtain⟨oD,esD,epD,hoD,hdD,hcD⟩:=hn2.count (PySem.Within.cons name v hw);refine wpAny_bind (wpAny_lookBehind hoD (by rw[hdD];exact pastItsLine_dict (Dm hcD (by rw[C5];omega))) ?_);exact wpAny_pure (h _ ⟨(hs2.2 _ (Ne.symm I.ne)).trans I.obj,hn2,I.ne⟩ hs2)
theorem wx{R:Result->Shared->Prop}{vs:List Value}{kw:List (Str×Value)}(X:K.In s.heap)(hm:PySem.W.makesIn K C=true)
  (hi:PySem.W.findIn K (.ref C) "__init__"=some (some (.ref f))) (hf:PySem.W.typeIn K (.ref f)=some (.type "function"))
  (h:codeAny (model prog w) (A.under (.builtin "type.__call__" ⟨.ref C::vs,kw⟩)) (.call (.ref f) ⟨.ref (s.heap.objs.size+1)::vs,kw⟩) (PySem.W.InitBack (s.heap.objs.size+1) R)
   {s with heap:=(s.heap.push PySem.W.emptyDict).push (PySem.W.instObj C s.heap.objs.size)}) :
  codeAny (model prog w) A (.call (.ref C) ⟨vs,kw⟩) R s:=by
 obtain⟨hh,g,d,t,os⟩:=s;exact PySem.W.make_core (PySem.W.makes_of X hm) (PySem.W.looks_findIn X hi) (fun self=>PySem.W.bind_fn X self hf) (.inl rfl) h
end
noncomputable def bH(f:Str)(v:V):List (Str×V)->List (Str×V)
 | []=>[(f,v)]
 | (g,x)::r=>if g=f then(g,v)::r else(g,x)::bH f v r
theorem j_(f g:Str)(v:V):∀fs:List (Str×V),(bH f v fs).lookup g=if g=f then some v else fs.lookup g
 | []=>by
  show List.lookup g [(f,v)]=_
  by_cases h:g=f
  ·have hb:(g==f)=true:=beq_iff_eq.mpr h
   simp only[List.lookup,hb,if_pos h]
  ·have hb:(g==f)=false:=beq_eq_false_iff_ne.mpr h
   simp only[List.lookup,hb,if_neg h]
 | (k,x)::r=>by
  have ih:=j_ f g v r;rw[show bH f v ((k,x)::r)=(if k=f then(k,v)::r else(k,x)::bH f v r) from rfl]
  by_cases hk:k=f
  ·rw[if_pos hk]
   by_cases h:g=k
   ·have hb:(g==k)=true:=beq_iff_eq.mpr h
    simp only[List.lookup,hb,if_pos (h.trans hk)]
   ·have hb:(g==k)=false:=beq_eq_false_iff_ne.mpr h
    simp only[List.lookup,hb,if_neg (fun e:g=f=>h (e.trans hk.symm))]
  ·rw[if_neg hk]
   by_cases h:g=k
   ·have hb:(g==k)=true:=beq_iff_eq.mpr h
    simp only[List.lookup,hb,if_neg (fun e:g=f=>hk (h.symm.trans e))]
   ·have hb:(g==k)=false:=beq_eq_false_iff_ne.mpr h
    simp only[List.lookup,hb];exact ih
theorem jS(f:Str)(v:V):∀fs:List (Str×V),f∈(bH f v fs).map (·.1)/\∀g,g∈fs.map (·.1)->g∈(bH f v fs).map (·.1)
 | []=>⟨by simp[bH],fun g h=>by simp at h⟩
 | (k,x)::r=>by
  obtain⟨i1,i2⟩:=jS f v r;rw[show bH f v ((k,x)::r)=(if k=f then(k,v)::r else(k,x)::bH f v r) from rfl]
  by_cases hk:k=f
  ·rw[if_pos hk]
   subst hk;exact⟨by simp,fun g h=>by simpa using h⟩
  ·rw[if_neg hk]
   refine⟨?_,fun g h=>?_⟩
   ·rw[Dl]
    exact C_ _ i1
   ·rw[Dl]at h ⊢
    rcases C9.mp h with e | e
    ·exact C9.mpr (.inl e)
    ·exact C_ _ (i2 g e)
theorem b6(f:Str)(v:V):∀fs:List (Str×V),(bH f v fs).length<=fs.length+1
 | []=>by simp[bH]
 | (k,x)::r=>by
  have ih:=b6 f v r;rw[show bH f v ((k,x)::r)=(if k=f then(k,v)::r else(k,x)::bH f v r) from rfl]
  by_cases hk:k=f
  ·rw[if_pos hk,C5,C5];omega
  ·rw[if_neg hk,C5,C5];omega
theorem fj.some_of{v:V}{o:Option Value}(r:fj (some v) o):∃u,o=some u/\aG v u:=by
 cases o with
 |none=>exact(show False from r).elim
 |some u=>exact⟨u,rfl,r⟩
theorem fj.none_of{o:Option Value}(r:fj none o):o=none:=by
 cases o with
 |none=>rfl
 |some u=>exact(show False from r).elim
theorem tJ{v:V}{u:Value}(r:aG v u):PySem.W.handedIn u=true:=by
 cases v with
 |non=>cases(show u=Value.none from r);rfl
 |bl b=>cases(show u=Value.bool b from r);rfl
 |int i=>obtain⟨t,e⟩:=(show ∃t,u=Value.int i t from r);cases e;rfl
 |str x=>obtain⟨t,e⟩:=(show ∃t,u=Value.str x t from r);cases e;rfl
 |byt b=>obtain⟨t,e⟩:=(show ∃t,u=Value.bytes b t from r);cases e;rfl
 |flt b=>obtain⟨t,e⟩:=(show ∃t,u=Value.float b t from r);cases e;rfl
 |ref a=>cases(show u=Value.ref a from r);rfl
 |ty n=>cases(show u=Value.type n from r);rfl
section
variable {P:Program}{w:World}{H H':Hp}{h h':Heap}{a C dx:Addr}{fs fs':List (Str×V)}
theorem kn(hok:ip P w H h)(e:H a=some (.ins C dx fs)):∃mA,rh h a dx C mA/\(∀f,fj (fs.lookup f) (mA f))/\PySem.Within mA (fs.map (·.1))/\fs.length<=1000/\H dx=some (.own a):=by
 obtain⟨d,z,ne,ob,mA,n,r,q⟩:=(show aX P w H h a (.ins C dx fs) from hok a _ e);exact⟨mA,⟨ob,n,ne⟩,r,q,z,d⟩
end
structure j'(K:PySem.W.Frag)(C:Addr):Prop where
 pg:PySem.W.plainGet K C Str.empty=true
 hd:PySem.W.hasDictIn K C=true
 po:PySem.W.plainOver K C=true
 sa:PySem.W.findIn K (.ref C) "__setattr__"=some (some (.builtin "object.__setattr__"))
theorem j'.get{K:PySem.W.Frag}{C:Addr}(c:j' K C)(f:Str):PySem.W.plainGet K C f=true:=c.pg
noncomputable def al(K:PySem.W.Frag)(C:Addr)(f:Str):Prop:=PySem.W.findIn K (.ref C) f=some none
theorem al.taker{K:PySem.W.Frag}{C:Addr}{f:Str}(n:al K C f):PySem.W.takerIn K C f=some none:=by
 unfold PySem.W.takerIn;rw[show PySem.W.findIn K (.ref C) f=some none from n]
 rfl
structure CL(K:PySem.W.Frag)(C:Addr)(f:Str)(v:V)(u:Value):Prop where
 at_:PySem.W.findIn K (.ref C) f=some (some u)
 rel:aG v u
 get:PySem.W.specialIn K u "__get__"=some none
 cp:PySem.W.copiedNames.contains f=false
structure dW(K:PySem.W.Frag)(C:Addr)(m:Str)(f:Addr):Prop where
 at_:PySem.W.findIn K (.ref C) m=some (some (.ref f))
 fn:PySem.W.isFn K (.ref f)=true
 kp:PySem.W.keepIn K (.ref f)=true
section
variable {X:Cx}{pins:List (Addr×Obj)}{σ:St}{H:Hp}{s:Shared}{a C dx:Addr}{fs:List (Str×V)}{f:Str}{v:V}{A:Around}{E:Value->Shared->Prop}
theorem rE{b:Bool}{Q:Value->Shared->Prop}(I:Inv X pins σ H s)(e:H a=some (.ins C dx fs))(c:j' X.K C)(n:al X.K C f)(l:fs.lookup f=some v)
  (h:∀u s',Inv X pins σ H s'->aG v u->Q u s'):wpAny (model X.prog X.w) A (getAttr (.ref a) f b) Q E s:=by
 obtain⟨mA,O,r,_,_,_⟩:=kn I.hok e;obtain⟨u,hu,ru⟩:=fj.some_of (v:=v) (o:=mA f) (by rw[<- l];exact r f);exact xu I.kIn O (c.get f) c.hd n hu (tJ ru) (h u _ (I.tok _) ru)
theorem fh{m:Str}{g:Addr}{pl:Sem Bool}{Q:Value×List Value->Shared->Prop}(I:Inv X pins σ H s)(e:H a=some (.ins C dx fs))(c:j' X.K C)(k:dW X.K C m g)(l:fs.lookup m=none)
  (h:Q (.ref g,[.ref a]) s):wpAny (model X.prog X.w) A (getMethod (.ref a) m pl) Q E s:=by
 obtain⟨mA,O,r,_,_,_⟩:=kn I.hok e;have hn:mA m=none:=fj.none_of (by rw[<- l];exact r m);exact vU I.kIn O (c.get m) k.at_ k.fn hn h
theorem sr{y:V}{u:Value}{Q:Unit->Shared->Prop}(I:Inv X pins σ H s)(e:H a=some (.ins C dx fs))(c:j' X.K C)(n:al X.K C f)(hl:fs.length<1000)(ry:aG y u)
  (h:∀s',Inv X pins σ (ar H a (.ins C dx (bH f y fs))) s'->Q () s'):wpAny (model X.prog X.w) A (setAttr (.ref a) f u) Q E s:=by
 obtain⟨mA,O,r,wi,_,ho⟩:=kn I.hok e;have hz:(fs.map (·.1)).length<=sizeLine:=by rw[CP,sizeLine_eq];omega
 refine xN I.kIn O c.sa c.po n.taker c.hd wi hz fun h' O' sb=>h _ ?_;have hd:∃o,h'.get? dx=some o:=let ⟨o,_,_,e',_⟩:=O'.ns;⟨o,e'⟩
 refine I.write (x:=a) (e:=dx) (by rw[e];exact True.intro) (.inr ho) (fun b q hb z=>(sb.2 b hb).trans z) hd ?_;refine⟨by rw[ah O.ne];exact ho,?_,O.ne,O'.obj,_,O'.ns,fun g=>?_,fun g hg=>?_⟩
 ·have:=b6 f y fs;omega
 ·show fj ((bH f y fs).lookup g) (if g=f then some u else mA g)
  rw[j_]
  by_cases q:g=f
  ·rw[if_pos q,if_pos q];exact ry
  ·rw[if_neg q,if_neg q];exact r g
 ·by_cases q:g=f
  ·rw[q];exact(jS f y fs).1
  ·refine(jS f y fs).2 g (wi g fun z=>hg ?_)
   show(if g=f then some u else mA g)=none;rw[if_neg q];exact z
theorem Inv.made(I:Inv X pins σ H s):Inv X pins σ (ar (ar H s.heap.objs.size (.own (s.heap.objs.size+1))) (s.heap.objs.size+1) (.ins C s.heap.objs.size []))
  {s with heap:=(s.heap.push PySem.W.emptyDict).push (PySem.W.instObj C s.heap.objs.size)}:=by
 have e1:(s.heap.push PySem.W.emptyDict).get? s.heap.objs.size=some PySem.W.emptyDict:=CW s.heap rfl;have e2:((s.heap.push PySem.W.emptyDict).push (PySem.W.instObj C s.heap.objs.size)).get? (s.heap.objs.size+1)=some (PySem.W.instObj C s.heap.objs.size):=by
  have:=CW (s.heap.push PySem.W.emptyDict) (o:=PySem.W.instObj C s.heap.objs.size) rfl
  rwa [Heap.size_push]at this
 have e3:(s.heap.push PySem.W.emptyDict).Ns s.heap.objs.size (fun _=>none):=⟨PySem.W.emptyDict,#[],_,e1,rfl,(fun e he=>absurd he (by simp)),fun _=>rfl⟩;have I1:=I.laid (a:=s.heap.objs.size) (o:=.own (s.heap.objs.size+1)) (h':=s.heap.push PySem.W.emptyDict) (t':=s.toks) (fun b u q=>CO _ q) (Dg _) ⟨_,e1⟩;refine I1.laid (a:=s.heap.objs.size+1) (o:=.ins C s.heap.objs.size []) (t':=s.toks) (fun b u q=>CO _ q) (Nat.le_of_eq (Heap.size_push _ _)) ?_;have ne:s.heap.objs.size≠s.heap.objs.size+1:=Db (Dp _);refine⟨by rw[ah ne,ac],Dh _,ne,e2,fun _=>none,(Heap.Ns1.of_empty e3).at fun o q=>CO _ q,fun _=>True.intro,fun y hy=>absurd rfl hy⟩
theorem w_{prog:Program}{w:World}{env:Env}{e:Expr}{f:Str}{pos:Pos}{s:Shared}{Q:Value->Shared->Prop}(hb:attributeBase e f env (eval e env)=eval e env)
  (h:wpAny (model prog w) A (eval e env) (fun o s₁=>wpAny (model prog w) A (getAttr o f true) Q E s₁) E s):wpAny (model prog w) A (eval (.Attribute e f pos) env) Q E s:=
 Attribute_any_ h (by rw[arm_eval_Attribute,hb])
end
noncomputable def yr(K:PySem.W.Frag)(ta:TE)(f:Str):TE:=fun σ H Q=>ta σ H fun x H1=>∃a C dx fs v,x=.ref a/\H1 a=some (.ins C dx fs)/\j' K C/\al K C f/\fs.lookup f=some v/\Q v H1
noncomputable def yO(K:PySem.W.Frag)(ta tv:TE)(f:Str):TS:=fun D σ H=>tv σ H fun y H1=>ta σ H1 fun x H2=>∃a C dx fs,x=.ref a/\H2 a=some (.ins C dx fs)/\j' K C/\al K C f/\fs.length<1000 /\
 D.nx σ (ar H2 a (.ins C dx (bH f y fs)))
section
variable {X:Cx}{o e value:Expr}{f:Str}{pos pos' tpos:Pos}{ta tv:TE}
theorem bg(he:PE X e ta)(hb:attributeBase e f X.env (eval e X.env)=eval e X.env):PE X (.Attribute e f pos) (yr X.K ta f):=by
 intro pins s σ H Q I h;refine w_ hb (bq (he pins s σ H _ I h) fun u s1 ⟨x,H1,I1,rx,a,C,dx,fs,v,ex,ea,c,n,l,q⟩=>?_);subst ex;obtain rfl:u=Value.ref a:=rx;exact rE I1 ea c n l fun u' s2 I2 ru=>⟨v,H1,I2,ru,q⟩
theorem b5(ha:PE X o ta)(hv:PE X value tv)(hs:swapsWith value (some (.Attribute o f pos')) pos.line X.env=pure false):PS X (.Assign [.Attribute o f pos'] value pos) (yO X.K ta tv f):=by
 intro pins s σ H D I h;refine plainObj_wpAny_Assign_Attribute (bq (hv pins s σ H _ I h) fun u s1 ⟨y,H1,I1,ry,q⟩=>bq (ha pins s1 σ H1 _ I1 q) fun ov s2 ⟨x,H2,I2,rx,a,C,dx,fs,ex,ea,c,n,l,q2⟩=>?_) hs;subst ex;obtain rfl:ov=Value.ref a:=rx;exact sr I2 ea c n l ry fun s3 I3=>⟨σ,_,I3,q2⟩
theorem xX{pl:Sem Bool}{m:Str}{apos:Pos}{args:List Expr}{pins:List (Addr×Obj)}{s:Shared}{σ:St}{H:Hp}{Q:Value->Shared->Prop}{te:TE}(he:PE X e te)(I:Inv X pins σ H s)
  (h:te σ H fun x H1=>∃a C dx fs g,x=.ref a/\H1 a=some (.ins C dx fs)/\j' X.K C/\dW X.K C m g/\fs.lookup m=none /\
   ∀s1,Inv X pins σ H1 s1->wpAny (model X.prog X.w) X.A (callWith pos (.ref g) [.ref a] (backTo pos (starEach args X.env)) (backToKw pos (keywordEach [] X.env))) Q X.xe s1)
  (ht:eval (.Call (.Attribute e m apos) args [] pos) X.env=(do
   let ov <- eval e X.env
   standAt apos.atName
   let (f,first) <- holding [ov] (getMethod ov m pl)
   callWith pos f first (backTo pos (starEach args X.env)) (backToKw pos (keywordEach [] X.env)))) :
  wpAny (model X.prog X.w) X.A (eval (.Call (.Attribute e m apos) args [] pos) X.env) Q X.xe s:=by
 refine PySem.W.methodCall_KW (pl:=pl) (bq (he pins s σ H _ I h) fun u s1 ⟨x,H1,I1,rx,a,C,dx,fs,g,ex,ea,c,k,l,q⟩=>?_) ht;subst ex;obtain rfl:u=Value.ref a:=rx;exact fh I1 ea c k l (q s1 I1)
end
section
variable {X:Cx}{pins:List (Addr×Obj)}{σ:St}{H:Hp}{s:Shared}{A:Around}{E:Value->Shared->Prop}{Q:Value->Shared->Prop}{c:Value}{b:Bool}
inductive hV(K:PySem.W.Frag)(H:Hp):V->Value->Prop where
 |non:hV K H .non (.type "NoneType")
 |bl (x:Bool):hV K H (.bl x) (.type "bool")
 |int (i:Int):hV K H (.int i) (.type "int")
 |str (x:Str):hV K H (.str x) (.type "str")
 |flt (x:UInt64):hV K H (.flt x) (.type "float")
 |lst {a:Addr} {xs:List V} (e:H a=some (.lst xs)):hV K H (.ref a) (.type "list")
 |frz {a:Addr} {o:Obj} {xs:List V} (e:H a=some (.frz o (.lst xs))):hV K H (.ref a) (.type "list")
 |tup {a:Addr} {xs:List V} (e:H a=some (.tup xs)):hV K H (.ref a) (.type "tuple")
 |dK {a:Addr} {kvs:List (bS×V)} (e:H a=some (.dK kvs)):hV K H (.ref a) (.type "dict")
 |dT {a:Addr} {kvs:List (List bS×V)} (e:H a=some (.dT kvs)):hV K H (.ref a) (.type "dict")
 |ins {a C dx:Addr} {fs:List (Str×V)} (e:H a=some (.ins C dx fs)) (cl:j' K C) (ha:PySem.W.findIn K (.ref C) "__class__"=some (some (.builtin "object.__class__")))
   (hn:PySem.W.specialIn K (.builtin "object.__class__") "__get__"=some (some (.builtin "getset_descriptor.__get__"))) (htk:PySem.W.takesIn K (.builtin "object.__class__")=some true)
   (hm:PySem.W.mroIn K C (.type "object")=some true):hV K H (.ref a) (.ref C)
theorem tH{x:V}{u t:Value}(I:Inv X pins σ H s)(rx:aG x u)(ty:hV X.K H x t)(e:PySem.W.kitOne X.K t c=some b)(h:∀tk,Q (.bool b) {s with toks:=tk}) :
  wpAny (model X.prog X.w) A (call (.builtin "isinstance") [u,c]) Q E s:=by
 cases ty with
 |non=>cases(show u=Value.none from rx);exact PySem.W.kia_one PySem.W.kitx_none I.kIn True.intro e (fun z=>nomatch z) h
 |bl y=>cases(show u=Value.bool y from rx);exact PySem.W.kia_one PySem.W.kitx_bool I.kIn True.intro e (fun z=>nomatch z) h
 |int i=>obtain⟨t,q⟩:=(show ∃t,u=Value.int i t from rx);cases q;exact PySem.W.kia_one PySem.W.kitx_int I.kIn True.intro e (fun z=>nomatch z) h
 |str y=>obtain⟨t,q⟩:=(show ∃t,u=Value.str y t from rx);cases q;exact PySem.W.kia_one PySem.W.kitx_str I.kIn True.intro e (fun z=>nomatch z) h
 |flt y=>obtain⟨t,q⟩:=(show ∃t,u=Value.float y t from rx);cases q;exact PySem.W.kia_one PySem.W.kitx_float I.kIn True.intro e (fun z=>nomatch z) h
 | @lst a xs ea=>
  cases(show u=Value.ref a from rx);obtain⟨_,_,n,_,h1⟩:=(show aX X.prog X.w H s.heap a (.lst xs) from I.hok a _ ea);exact PySem.W.kia_one PySem.W.kitx_list I.kIn ⟨_,h1,rfl⟩ e (fun z=>nomatch z) h
 | @frz a ob xs ea=>
  cases(show u=Value.ref a from rx);obtain⟨_,_,_,n,_,h1⟩:=(show aX X.prog X.w H s.heap a (.frz ob (.lst xs)) from I.hok a _ ea);exact PySem.W.kia_one PySem.W.kitx_list I.kIn ⟨_,h1,rfl⟩ e (fun z=>nomatch z) h
 | @tup a xs ea=>
  cases(show u=Value.ref a from rx);obtain⟨_,_,_,p⟩:=(show aX X.prog X.w H s.heap a (.tup xs) from I.hok a _ ea);obtain⟨o,h1,h2,_⟩:=p;exact PySem.W.kia_one PySem.W.kitx_tuple I.kIn ⟨o,h1,h2⟩ e (fun z=>nomatch z) h
 | @dK a kvs ea=>
  cases(show u=Value.ref a from rx);obtain⟨_,_,vs,_,p⟩:=(show aX X.prog X.w H s.heap a (.dK kvs) from I.hok a _ ea);obtain⟨o,es,ep,h1,h2,_⟩:=p;exact PySem.W.kia_one PySem.W.kitx_dict I.kIn ⟨o,h1,h2.1⟩ e (fun z=>nomatch z) h
 | @dT a kvs ea=>
  cases(show u=Value.ref a from rx);obtain⟨_,_,xs,_,o,es,ep,h1,h2,_⟩:=(show aX X.prog X.w H s.heap a (.dT kvs) from I.hok a _ ea);exact PySem.W.kia_one PySem.W.kitx_dict I.kIn ⟨o,h1,h2.1⟩ e (fun z=>nomatch z) h
 | @ins a C dx fs ea cl ha hn htk hm=>
  cases(show u=Value.ref a from rx);obtain⟨mA,O,_⟩:=kn I.hok ea;obtain⟨od,J,_⟩:=O.look;exact PySem.W.kia_one (PySem.W.kitx_own (cl.get _) cl.hd ha hn htk hm) I.kIn J e (fun z=>nomatch z) h
end
structure cq(k:Nat)(A:Around):Prop where
 hd:A.handled=none
 dp:A.depth+3*k+5<recursionLimit
 un:A.units+16*k+200<cLine
theorem cq.mono{j k:Nat}{A:Around}(r:cq k A)(h:j<=k):cq j A:=⟨r.hd,by have:=r.dp;omega,by have:=r.un;omega⟩
theorem cq.deeper{k:Nat}{A:Around}(r:cq (k+1) A)(env:Env):cq k (A.deeper env):=
 ⟨r.hd,by have:=r.dp;show A.depth+1+3*k+5<_;omega,by have:=r.un;show A.units+3+16*k+200<_;omega⟩
theorem qO{A:Around}{C:Addr}{us:List Value}{kw:List (Str×Value)}:(A.under (.builtin "type.__call__" ⟨.ref C::us,kw⟩)).depth=A.depth+1:=by
 first | rfl | simp[Around.under,Code.weight,Code.isCreation,Code.isGuard,Code.isCaller,Code.frames,Code.isFrame,guardIds]
theorem se{A:Around}{C:Addr}{us:List Value}{kw:List (Str×Value)}:(A.under (.builtin "type.__call__" ⟨.ref C::us,kw⟩)).units=A.units+1:=by
 first | rfl | simp[Around.under,Code.cUnits,Code.frames,Code.isFrame]
theorem cq.make{k:Nat}{A:Around}(r:cq (k+1) A)(C:Addr)(us:List Value)(kw:List (Str×Value)):cq k (A.under (.builtin "type.__call__" ⟨.ref C::us,kw⟩)):=
 ⟨r.hd,by have:=r.dp;rw[qO];omega,by have:=r.un;rw[se];omega⟩
theorem cq.depth{k:Nat}{A:Around}(r:cq k A):A.depth<recursionLimit:=by have:=r.dp;omega
theorem cq.units{k:Nat}{A:Around}(r:cq k A):A.units+64<cLine:=by have:=r.un;omega
noncomputable def uH:TA:=fun _ H Q=>Q [] H
noncomputable def mw(ta:TE)(tr:TA):TA:=fun σ H Q=>ta σ H fun x H1=>tr σ H1 fun xs H2=>Q (x::xs) H2
section
variable {X:Cx}{e:Expr}{es:List Expr}{te:TE}{t:TA}{pos:Pos}
theorem ad:PA X [] uH:=fun _ _ _ _ H Q I h=>Calls.spliced_nil ⟨[],H,I,.nil,h⟩
theorem aa(ha:PE X e te)(hr:PA X es t)(hs:starEach (e::es) X.env=(false,eval e X.env)::starEach es X.env:=by rfl):PA X (e::es) (mw te t):=by
 intro pos pins s σ H Q I h;rw[hs];show wpAny _ _ (spliced ((false,eval e X.env)::backTo pos (starEach es X.env))) _ _ s;refine Calls.spliced_cons (bq (ha pins s σ H _ I h) fun u s1 ⟨x,H1,I1,r1,q1⟩=>?_);exact bq (hr pos pins s1 σ H1 _ I1 q1) fun us s2 ⟨xs,H2,I2,r2,q2⟩=>⟨x::xs,H2,I2,.cons r1 r2,q2⟩
noncomputable def yC(t:TA):TE:=fun σ H Q=>t σ H fun xs H1=>xs.length<=sizeLine/\∀p,H1 p=none->Q (.ref p) (ar H1 p (.tup xs))
noncomputable def xQ(t:TA):TE:=fun σ H Q=>t σ H fun xs H1=>xs.length<=sizeLine/\∀p,H1 p=none->Q (.ref p) (ar H1 p (.lst xs))
theorem aE{x1}(h:PA X es t):PE X (.Tuple es x1 pos) (yC t):=by
 intro pins s σ H Q I hq;refine wpAny_Tuple_spliced (bq (h pos pins s σ H _ I hq) fun us s1 ⟨xs,H1,I1,r,z,q⟩=>⟨by rw[<- r.length];exact z,?_⟩);have hf:H1 s1.heap.objs.size=none:=I1.hok.fresh (Dg _);refine⟨.ref s1.heap.objs.size,ar H1 s1.heap.objs.size (.tup xs),I1.laid (t':=s1.toks) (fun b u e=>CO _ e) (Dg _) ?_,rfl,q _ hf⟩;exact⟨z,us,r,⟨_,CW _ rfl,rfl,_,rfl⟩⟩
theorem bJ(h:PA X es t):PE X (.List es pos) (xQ t):=by
 intro pins s σ H Q I hq;refine wpAny_List_spliced (bq (h pos pins s σ H _ I hq) fun us s1 ⟨xs,H1,I1,r,z,q⟩=>⟨by rw[<- r.length];exact z,?_⟩);have hf:H1 s1.heap.objs.size=none:=I1.hok.fresh (Dg _);refine⟨.ref s1.heap.objs.size,ar H1 s1.heap.objs.size (.lst xs),I1.laid (t':=s1.toks) (fun b u e=>CO _ e) (Dg _) ?_,rfl,q _ hf⟩;exact⟨z,us,0,r,CW _ rfl⟩
end
noncomputable abbrev Sp:=List V->Hp->VK->XK->Prop
noncomputable abbrev iz:=List Env->Hp->Shared->XK->Value->Shared->Prop
structure ql(P:Program)(w:World)(K:PySem.W.Frag)(mg:Str->Option Value)(base:Heap)(A:Around)(outer:List Env)(s:Shared)(H:Hp):Prop where
 frames:A.frames=some outer
 mod:Mod K mg base
 bs:∀b o,base.get? b=some o->s.heap.get? b=some o/\H b=none
 bsz:base.objs.size<=s.heap.objs.size
 funs:s.heap.FunFrames base outer
 frf:∀b∈iJ outer,H b=none
 hok:ip P w H s.heap
 bare:AllBare s.gens
noncomputable def CE(outer:List Env)(P:Program)(w:World)(H:Hp)(s:Shared)(Q:VK)(u:Value)(s':Shared):Prop:=
 ∃v H',s'.os=s.os/\AllBare s'.gens/\Un (iJ outer) [] H H' s.heap s'.heap/\ip P w H' s'.heap/\aG v u/\Q v H'
noncomputable def CR(CX:iz)(outer:List Env)(P:Program)(w:World)(H:Hp)(s:Shared)(Q:VK)(E:XK)(r:Result)(s':Shared):Prop:=
 match r with
 | .ok (.ret u)=>CE outer P w H s Q u s'
 | .ok _=>False
 | .error e=>CX outer H s E e s'
structure aO(P:Program)(w:World)(K:PySem.W.Frag)(mg:Str->Option Value)(base:Heap)(CX:iz)(k:Nat)(f:Addr)(fd:FuncData)(ps:List Str)(sp:Sp):Prop where
 len:∀vs H Q E,sp vs H Q E->vs.length=ps.length
 run:∀(A:Around) (outer:List Env) (s:Shared) (H:Hp) (args:Args) (us:List Value) (vs:List V) (Q:VK) (E:XK),cq k A->ql P w K mg base A outer s H->BindsTo s fd args (ps.zip us)->aH vs us->sp vs H Q E ->
  codeAny (model P w) A (.call (.ref f) args) (CR CX outer P w H s Q E) s
theorem aO.mono{P:Program}{w:World}{K:PySem.W.Frag}{mg:Str->Option Value}{base:Heap}{CX:iz}{j k:Nat}{f:Addr}{fd:FuncData}{ps:List Str}{sp:Sp}(F:aO P w K mg base CX j f fd ps sp)(h:j<=k) :
  aO P w K mg base CX k f fd ps sp:=⟨F.len,fun A outer s H args us vs Q E hr=>F.run A outer s H args us vs Q E (hr.mono h)⟩
theorem ql.make{P:Program}{w:World}{K:PySem.W.Frag}{mg:Str->Option Value}{base:Heap}{A:Around}{outer:List Env}{s:Shared}{H:Hp}(e:ql P w K mg base A outer s H)(C:Addr)(us:List Value)(kw:List (Str×Value)) :
  ql P w K mg base (A.under (.builtin "type.__call__" ⟨.ref C::us,kw⟩)) outer s H:=⟨by first | exact e.frames | (simpa[Around.under,Code.envs,Code.isFrame,pushEnvs]using e.frames),e.mod,e.bs,e.bsz,e.funs,e.frf,e.hok,e.bare⟩
section
variable {X:Cx}{pins:List (Addr×Obj)}{σ:St}{H:Hp}{s s':Shared}
theorem Inv.env0(I:Inv X pins σ H s):ql X.prog X.w X.K X.mg X.base X.A X.stack s H:=
 ⟨I.ok.frames,I.ok.mod,I.bs,Dm I.ok.bsz I.sz,I.stack,I.stkFree,I.hok,I.bare⟩
theorem Inv.after{Q:VK}{u:Value}(I:Inv X pins σ H s)(h:CE X.stack X.prog X.w H s Q u s'):EP X pins σ Q u s':=by
 obtain⟨v,H',os,bare,un,hok,r,q⟩:=h;obtain⟨hh,g,d,t,os'⟩:=s';obtain rfl:os'=s.os:=os;exact⟨v,H',I.call (h':=hh) (g':=g) (d':=d) (t':=t) (ch:=[]) un hok bare (fun b z=>absurd z (by simp)),r,q⟩
end
noncomputable def li(sp:Sp)(dvs:List V)(E:XK)(t:TA):TE:=fun σ H Q=>t σ H fun vs H1=>sp (vs++dvs) H1 Q E
noncomputable def sT(C:Addr)(m:Str)(sp:Sp)(dvs:List V)(E:XK)(ta:TE)(t:TA):TE:=fun σ H Q=>ta σ H fun x H1=>∃a dx fs,x=.ref a/\H1 a=some (.ins C dx fs)/\fs.lookup m=none /\
 t σ H1 fun vs H2=>sp (x::(vs++dvs)) H2 Q E
noncomputable def sS(C:Addr)(sp:Sp)(dvs:List V)(E:XK)(t:TA):TE:=fun σ H Q=>t σ H fun vs H1=>∀x dx,H1 x=none->H1 dx=none->dx≠x ->
 sp (.ref x::(vs++dvs)) (ar (ar H1 dx (.own x)) x (.ins C dx [])) (fun v H2=>v=.non/\Q (.ref x) H2) E
noncomputable def cL(K:PySem.W.Frag)(fd:FuncData)(ps:List Str)(ds:List Value):Prop:=
 ∀(s:Shared) (us:List Value),K.In s.heap->(us++ds).length=ps.length->BindsTo s fd ⟨us,[]⟩ (ps.zip (us++ds))
theorem cL.all{K:PySem.W.Frag}{fd:FuncData}{ps:List Str}(h:∀us:List Value,us.length=ps.length->bindArgs fd ⟨us,[]⟩=pure (ps.zip us)):cL K fd ps []:=fun s us _ hl=>by
 rw[Dq]at hl ⊢;exact .of_eq (h us hl)
noncomputable def cF(CX:iz)(X:Cx)(E:XK):Prop:=∀(pins:List (Addr×Obj)) (σ:St) (H:Hp) (s:Shared) (e:Value) (s':Shared),Inv X pins σ H s->CX X.stack H s E e s'->X.xe e s'
section
variable {X:Cx}{CX:iz}{k:Nat}{f C:Addr}{fd:FuncData}{ps:List Str}{sp:Sp}{dvs:List V}{ds:List Value}{E:XK}{x m:Str}{p pos apos:Pos}{e o:Expr}{es:List Expr}{ta:TE}{t:TA}
theorem kN{pins:List (Addr×Obj)}{σ:St}{H:Hp}{s:Shared}{Q:VK}{us:List Value}{vs:List V}(F:aO X.prog X.w X.K X.mg X.base CX k f fd ps sp)(hr:cq k X.A)(hb:cL X.K fd ps ds)(hd:aH dvs ds)(hx:cF CX X E)
  (I:Inv X pins σ H s) (r:aH vs us) (h:sp (vs++dvs) H Q E):wpAny (model X.prog X.w) X.A (call (.ref f) us) (EP X pins σ Q) X.xe s:=by
 have r2:aH (vs++dvs) (us++ds):=r.append hd;have hl:(us++ds).length=ps.length:=by rw[<- r2.length];exact F.len _ _ _ _ h
 refine wpAny_call (codeAny_mono (F.run X.A X.stack s H ⟨us,[]⟩ (us++ds) (vs++dvs) Q E hr I.env0 (hb s us I.kIn hl) r2 h) fun r s' hq=>?_);cases r with
 |error e=>exact hx pins σ H s e s' I hq
 |ok fl=>
  cases fl with
  |ret u=>exact I.after hq
  |next=>exact False.elim hq
  |brk=>exact False.elim hq
  |cont=>exact False.elim hq
theorem xz(F:aO X.prog X.w X.K X.mg X.base CX k f fd ps sp)(hr:cq k X.A)(hg:Gl X x)(hm:X.mg x=some (.ref f))(hk:PySem.W.keepIn X.K (.ref f)=true)(hb:cL X.K fd ps ds)(hd:aH dvs ds)(hx:cF CX X E)
  (ha:PA X (e::es) t) (hdb:(x==("__debug__":Str))=false:=by decide) (he:starEach (e::es) X.env=(false,eval e X.env)::starEach es X.env:=by rfl) (hpl:(backTo pos (starEach es X.env)).any (·.1)=false:=by rfl) :
  PE X (.Call (.Name x p) (e::es) [] pos) (li sp dvs E t):=by
 intro pins s σ H Q I h;refine wpAny_Call_Name_kw (dX I hg hm ?_ hdb);refine PySem.W.callWith_K (h₀:=X.base) I.ok.mod.kin hk (bq (ha pos pins s σ H _ I h) fun us s1 ⟨vs,H1,I1,r,q⟩=>⟨I1.kIn,?_⟩) he hpl;exact kN F hr hb hd hx I1 r q
theorem xk{pl:Sem Bool}(he:PE X o ta)(c:j' X.K C)(hm:dW X.K C m f)(F:aO X.prog X.w X.K X.mg X.base CX k f fd ps sp)(hr:cq k X.A)(hb:cL X.K fd ps ds)(hd:aH dvs ds)(hx:cF CX X E)(ha:PA X (e::es) t)
  (hst:starEach (e::es) X.env=(false,eval e X.env)::starEach es X.env:=by rfl) (hpl:(backTo pos (starEach es X.env)).any (·.1)=false:=by rfl)
  (ht:eval (.Call (.Attribute o m apos) (e::es) [] pos) X.env=(do
   let ov <- eval o X.env
   standAt apos.atName
   let (f,first) <- holding [ov] (getMethod ov m pl)
   callWith pos f first (backTo pos (starEach (e::es) X.env)) (backToKw pos (keywordEach [] X.env))):=by rfl) :
  PE X (.Call (.Attribute o m apos) (e::es) [] pos) (sT C m sp dvs E ta t):=by
 intro pins s σ H Q I h;refine PySem.W.methodCall_KW (pl:=pl) (bq (he pins s σ H _ I h) fun u s1 ⟨x,H1,I1,rx,a,dx,fs,ex,ea,l,q⟩=>?_) ht;subst ex;obtain rfl:u=Value.ref a:=rx;refine fh I1 ea c hm l ?_;refine PySem.W.callWith_K (first:=[.ref a]) (h₀:=X.base) I.ok.mod.kin hm.kp (bq (ha pos pins s1 σ H1 _ I1 q) fun us s2 ⟨vs,H2,I2,r,q2⟩=>⟨I2.kIn,?_⟩) hst hpl;exact kN (us:=.ref a::us) (vs:=.ref a::vs) F hr hb hd hx I2 (.cons rfl r) q2
structure Mk(K:PySem.W.Frag)(C f:Addr):Prop where
 makes:PySem.W.makesIn K C=true
 init:PySem.W.findIn K (.ref C) "__init__"=some (some (.ref f))
 fn:PySem.W.isFn K (.ref f)=true
 kp:PySem.W.keepIn K (.ref C)=true
theorem wj{pins:List (Addr×Obj)}{σ:St}{H:Hp}{s:Shared}{Q:VK}{us:List Value}{vs:List V}(M:Mk X.K C f)(F:aO X.prog X.w X.K X.mg X.base CX k f fd ps sp)(hr:cq (k+1) X.A)(hb:cL X.K fd ps ds)(hd:aH dvs ds)
  (hx:cF CX X E) (I:Inv X pins σ H s) (r:aH vs us)
  (h:∀x dx,H x=none->H dx=none->dx≠x->sp (.ref x::(vs++dvs)) (ar (ar H dx (.own x)) x (.ins C dx [])) (fun v H2=>v=.non/\Q (.ref x) H2) E) :
  wpAny (model X.prog X.w) X.A (call (.ref C) us) (EP X pins σ Q) X.xe s:=by
 have hq:=h (s.heap.objs.size+1) s.heap.objs.size (I.hok.fresh (Nat.le_succ _)) (I.hok.fresh (Dg _)) (Db (Dp _));have I2:=Inv.made (C:=C) I;have r2:aH (V.ref (s.heap.objs.size+1)::(vs++dvs)) (Value.ref (s.heap.objs.size+1)::(us++ds)):=.cons rfl (r.append hd);have hl:(Value.ref (s.heap.objs.size+1)::us++ds).length=ps.length:=by
  have e:=r2.length;rw[F.len _ _ _ _ hq]at e;exact e.symm
 refine wpAny_call (wx (f:=f) I.kIn M.makes M.init (beq_iff_eq.mp M.fn) (codeAny_mono (F.run _ X.stack _ _ ⟨Value.ref (s.heap.objs.size+1)::us,[]⟩ (Value.ref (s.heap.objs.size+1)::(us++ds)) _ _ E (hr.make C us [])
  (I2.env0.make C us []) (hb _ (Value.ref (s.heap.objs.size+1)::us) I2.kIn hl) r2 hq) fun r s' hq'=>?_))
 cases r with
 |error e=>exact hx pins σ _ _ e s' I2 hq'
 |ok fl=>
  cases fl with
  |ret u=>
   obtain⟨v,H',I3,rv,ev,q3⟩:=I2.after hq';subst ev;exact⟨rv,⟨V.ref (s.heap.objs.size+1),H',I3,rfl,q3⟩⟩
  |next=>exact False.elim hq'
  |brk=>exact False.elim hq'
  |cont=>exact False.elim hq'
theorem xB(M:Mk X.K C f)(F:aO X.prog X.w X.K X.mg X.base CX k f fd ps sp)(hr:cq (k+1) X.A)(hg:Gl X x)(hm:X.mg x=some (.ref C))(hb:cL X.K fd ps ds)(hd:aH dvs ds)(hx:cF CX X E)
  (ha:PA X (e::es) t) (hdb:(x==("__debug__":Str))=false:=by decide) (he:starEach (e::es) X.env=(false,eval e X.env)::starEach es X.env:=by rfl) (hpl:(backTo pos (starEach es X.env)).any (·.1)=false:=by rfl) :
  PE X (.Call (.Name x p) (e::es) [] pos) (sS C sp dvs E t):=by
 intro pins s σ H Q I h;refine wpAny_Call_Name_kw (dX I hg hm ?_ hdb);refine PySem.W.callWith_K (h₀:=X.base) I.ok.mod.kin M.kp (bq (ha pos pins s σ H _ I h) fun us s1 ⟨vs,H1,I1,r,q⟩=>⟨I1.kIn,?_⟩) he hpl;exact wj M F hr hb hd hx I1 r q
end
section
variable {X:Cx}{CX:iz}{k:Nat}{f C:Addr}{fd:FuncData}{ps ks:List Str}{sp:Sp}{E:XK}{x m:Str}{p pos apos kpos:Pos}{e o:Expr}{es:List Expr}{kws:List Keyword}{te ta:TE}{t tk:TA}{nm:Option Str}
structure Ai(K:PySem.W.Frag)(fd:FuncData)(ps ks:List Str)(g:List Value->List Value->List Value)(gV:List V->List V->List V):Prop where
 to:∀(s:Shared) (us ws:List Value),K.In s.heap->(g us ws).length=ps.length->BindsTo s fd ⟨us,ks.zip ws⟩ (ps.zip (g us ws))
 rel:∀{vs:List V} {us:List Value} {zs:List V} {ws:List Value},aH vs us->aH zs ws->aH (gV vs zs) (g us ws)
variable {g:List Value->List Value->List Value}{gV:List V->List V->List V}
end
structure av(N P:List Str)(sc:Scope):Prop where
 kind:sc.kind=.function
 co:sc.isCoroutine=false
 gen:sc.isGenerator=false
 nd:N.Nodup
 pre:N.take P.length=P
 par:∀x∈P,sc.names.lookup x=some .local\/sc.names.lookup x=some .cell
 nofree:∀y∈sc.names,y.2≠.free
theorem mM{kindOf:Str->Option NameKind}{x:Str}:∀{binds:List (Str×Value)} {m:Str->Option Value},(∀v,(x,v)∉binds)->bindL kindOf binds m x=m x
 | [],_,_=>rfl
 | (n,v)::r,m,h=>by
  unfold bindL;rw[mM fun w hw=>h w (C_ _ hw)]
  split
  ·have:x≠n:=by rintro rfl;exact h v List.mem_cons_self
   simp[this]
  ·rfl
theorem mK{kindOf:Str->Option NameKind}{x:Str}:∀{binds:List (Str×Value)} {m:Str->Option Value},(∀v,(x,v)∉binds)->bindC kindOf binds m x=m x
 | [],_,_=>rfl
 | (n,v)::r,m,h=>by
  unfold bindC;rw[mK fun w hw=>h w (C_ _ hw)]
  split
  ·rfl
  ·have:x≠n:=by rintro rfl;exact h v List.mem_cons_self
   simp[this]
theorem m4{kindOf:Str->Option NameKind}{x:Str}{v:Value}:∀{P:List Str} {vs:List Value} {i:Nat} {m:Str->Option Value},P.Nodup->P[i]?=some x->vs[i]?=some v->kindOf x=some .local ->
  bindL kindOf (P.zip vs) m x=some v
 | [],_,_,_,_,h,_,_=>by simp at h
 |_::_,[],_,_,_,_,h,_=>by simp at h
 |p::P,w::vs,0,m,nd,h1,h2,hk=>by
  simp at h1 h2;subst h1;subst h2
  show bindL kindOf ((p,w)::P.zip vs) m p=_;unfold bindL;rw[mM fun v hv=>(List.nodup_cons.mp nd).1 (List.of_mem_zip hv).1,if_pos hk];simp
 |p::P,w::vs,i+1,m,nd,h1,h2,hk=>by
  show bindL kindOf ((p,w)::P.zip vs) m x=_;unfold bindL;exact m4 (i:=i) (List.nodup_cons.mp nd).2 (by simpa using h1) (by simpa using h2) hk
theorem nc{kindOf:Str->Option NameKind}{x:Str}{v:Value}:∀{P:List Str} {vs:List Value} {i:Nat} {m:Str->Option Value},P.Nodup->P[i]?=some x->vs[i]?=some v->kindOf x≠some .local ->
  bindC kindOf (P.zip vs) m x=some v
 | [],_,_,_,_,h,_,_=>by simp at h
 |_::_,[],_,_,_,_,h,_=>by simp at h
 |p::P,w::vs,0,m,nd,h1,h2,hk=>by
  simp at h1 h2;subst h1;subst h2
  show bindC kindOf ((p,w)::P.zip vs) m p=_;unfold bindC;rw[mK fun v hv=>(List.nodup_cons.mp nd).1 (List.of_mem_zip hv).1,if_neg hk];simp
 |p::P,w::vs,i+1,m,nd,h1,h2,hk=>by
  show bindC kindOf ((p,w)::P.zip vs) m x=_;unfold bindC;exact nc (i:=i) (List.nodup_cons.mp nd).2 (by simpa using h1) (by simpa using h2) hk
noncomputable def start(N:List Str)(vs:List V):St:=vs.map some++List.replicate (N.length-vs.length) none
noncomputable def dL(CX:iz)(P:Program)(w:World)(K:PySem.W.Frag)(mg:Str->Option Value)(base:Heap)(N:List Str)(qual:Str)(scope:Scope)(f:Addr)(cd:Value)(A:Around)(outer:List Env)(s:Shared)(H:Hp)(E:XK):Cx where
 prog:=P
 w:=w
 K:=K
 mg:=mg
 base:=base
 A:=A.deeper (envOfC qual scope s.heap.objs.size f cd)
 N:=N
 s₀:=s
 H₀:=H
 env:=envOfC qual scope s.heap.objs.size f cd
 outer:=outer
 stack:=envOfC qual scope s.heap.objs.size f cd::outer
 ex:=[]
 calm:=true
 fn:=fun _=>true
 pn:=[]
 xe:=fun e s'=>wpAny (model P w) (A.deeper (envOfC qual scope s.heap.objs.size f cd)) (leaving (envOfC qual scope s.heap.objs.size f cd) e) (fun _ s''=>CX outer H s E e s'') (fun e' s''=>CX outer H s E e' s'') s'
theorem pF{sc:Scope}{n:Nat}{x:Str}(h:sc.names.lookup x=some .cell):∃c,(cellsFrom n sc.names []).lookup x=some c:=by
 have q:=PySem.W.cellsFrom_some sc.names n [] (.inl h);exact Option.isSome_iff_exists.mp q
theorem uq{CX:iz}{P:Program}{w:World}{K:PySem.W.Frag}{mg:Str->Option Value}{base:Heap}{N ps:List Str}{qual:Str}{scope:Scope}{f:Addr}{cd:Value}{A:Around}{outer:List Env}{s s1:Shared}{H:Hp}{E:XK}{us:List Value}{vs:List V}
  (S:av N ps scope) (hd:A.handled=none) (e0:ql P w K mg base A outer s H) (hl:vs.length=ps.length) (r:aH vs us)
  (x:InCallC s s.heap.objs.size (bindL (envOfC qual scope s.heap.objs.size f cd).kindOf (ps.zip us) fun _=>none) (cellsFrom (s.heap.objs.size+1) scope.names []) (bindC (envOfC qual scope s.heap.objs.size f cd).kindOf (ps.zip us) fun _=>none) s1) :
  Inv (dL CX P w K mg base N qual scope f cd A outer s H E) [] (start N vs) H s1:=by
 have hpl:ps.length<=N.length:=by have:=congrArg List.length S.pre;rw[Du]at this;omega
 obtain⟨h1,tk,rfl,hk⟩:=x.done;have noA:∀b:Addr,b∉(dL CX P w K mg base N qual scope f cd A outer s H E).ex:=fun b z=>absurd (show b∈([]:List Addr) from z) (by simp);refine⟨⟨e0.mod,S.kind,rfl,rfl,Dg _,fun y z c h1 h2=>?_,fun y hy=>?_,fun y c _ h=>?_,fun _=>hd,Around.frames_deeper e0.frames,.inr ⟨rfl,rfl⟩,fun b z=>absurd z (noA b),e0.bs,e0.bsz,fun b _ _=>noA b,fun b z=>absurd z (noA b),e0.funs,e0.frf⟩,
  rfl,e0.bare,Un.kept hk,⟨_,x.toInCall.ns,fun i y v h1 h2 h3=>?_⟩,fun y c h=>⟨_,x.cell y c h⟩,e0.hok.fresh (Dg _),fun y c h=>?_,fun p hp=>absurd (show p∈([]:List (Addr×Obj)) from hp) (by simp),e0.hok.kept hk,?_⟩
 ·exact name_of_addr x.apart (PySem.mem_of_lookup h1) (PySem.mem_of_lookup h2)
 ·have hy:scope.names.lookup y=some .cell\/scope.names.lookup y=some .free:=hy
  rcases hy with hy | hy
  ·exact pF hy
  ·exact absurd rfl (S.nofree _ (PySem.mem_of_lookup hy))
 ·exact Nat.le_of_lt (x.above y c (PySem.mem_of_lookup h))
 ·have hi:i<vs.length:=by
   unfold start at h2
   by_cases hi:i<vs.length
   ·exact hi
   ·rw[Dc (by simpa using hi)]at h2
    rw[List.getElem?_replicate]at h2
    split at h2<;>cases h2
  have ha:vs[i]?=some v:=by
   unfold start at h2;rw[Dd (by simpa using hi),CS]at h2;cases e:vs[i]? with
   |none=>rw[e]at h2;cases h2
   |some a=>rw[e]at h2;cases h2;rfl
  obtain⟨u,hu,rv⟩:=r.get ha;have hp:ps[i]?=some y:=by
   rw[<- S.pre,List.getElem?_take_of_lt (by omega)];exact h1
  have ndP:ps.Nodup:=by rw[<- S.pre];exact S.nd.sublist (List.take_sublist _ _)
  refine⟨u,rv,?_⟩;rcases S.par y (CU hp) with k | k
  ·exact .inl ⟨k,m4 ndP hp hu k⟩
  ·obtain⟨c,e⟩:=pF (n:=s.heap.objs.size+1) k
   refine .inr ⟨.inl k,c,e,?_⟩;have q:=x.cell y c e;rw[nc ndP hp hu (by show scope.names.lookup y≠_;rw[k];decide)]at q;exact q
 ·exact e0.hok.fresh (Nat.le_of_lt (x.above y c (PySem.mem_of_lookup h)))
 ·unfold start
  show _=N.length;rw[Df,CP,List.length_replicate];omega
theorem xW{CX:iz}{P:Program}{w:World}{K:PySem.W.Frag}{mg:Str->Option Value}{base:Heap}{k:Nat}{f:Addr}{name qual:Str}{params:Arguments}{body:List Stmt}{scope:Scope}{dV kV doc pm cdv ct oc:Value}{an od:Option Addr}
  {osl:Array (Option Value)} {N ps:List Str} {sp:Sp} (lk:K.lookup f=some ⟨oc,od,.func (PySem.W.fnOf name qual params body scope dV kV doc pm an cdv ct),osl⟩) (hcd:PySem.W.codeIn K cdv qual=true) (S:av N ps scope)
  (len:∀vs H Q E,sp vs H Q E->vs.length=ps.length)
  (hbody:∀(A:Around) (outer:List Env) (s:Shared) (H:Hp) (vs:List V) (Q:VK) (E:XK),cq k (A.deeper (envOfC qual scope s.heap.objs.size f cdv))->sp vs H Q E ->
   ∃t,qB (dL CX P w K mg base N qual scope f cdv A outer s H E) body t/\t {nx:=fun _ H'=>Q .non H',rt:=Q} (start N vs) H) :
  aO P w K mg base CX (k+1) f (PySem.W.fnOf name qual params body scope dV kV doc pm an cdv ct) ps sp:=by
 refine⟨len,fun A outer s H args us vs Q E hr e0 hb r hsp=>?_⟩;have hl:=len _ _ _ _ hsp;have KX:K.In s.heap:=e0.mod.kin.keeps fun b o e=>(e0.bs b o e).1;have lim:s.heap.NoLimit:=e0.mod.nolimit.keeps fun b o e=>(e0.bs b o e).1;have hkind:∀y∈ps.zip us,scope.names.lookup y.1=some .local\/(scope.names.lookup y.1=some .cell/\((cellsFrom (s.heap.objs.size+1) scope.names []).lookup y.1).isSome=true):=fun⟨n,v⟩ hy=>by
  rcases S.par n (List.of_mem_zip hy).1 with q | q
  ·exact .inl q
  ·exact .inr ⟨q,PySem.W.cellsFrom_some _ _ _ (.inl q)⟩
 refine codeAny_call_function hr.depth (KX _ _ lk) rfl S.co S.gen rfl (PySem.W.codeRec_of KX hcd) (hb _ _ _ _ ?_);refine wpAny_newFunctionEnv_cells S.kind hkind fun env he s1 x=>?_;subst he;refine⟨lim.keeps x.toInCall.keep,codeAny_func ?_⟩;obtain⟨t,ht,hq⟩:=hbody A outer s H vs Q E (hr.deeper _) hsp;have I:Inv (dL CX P w K mg base N qual scope f cdv A outer s H E) [] (start N vs) H s1:=uq S hr.hd e0 hl r x;refine wpAny_mono (ht [] s1 (start N vs) H _ I hq) (fun fl s' hs=>?_) fun e s' hs=>hs;have fin:∀{σ':St} {H':Hp} {v:V} {u:Value},Inv (dL CX P w K mg base N qual scope f cdv A outer s H E) [] σ' H' s'->aG v u->Q v H'->CE outer P w H s Q u s':=
  fun{σ' H' v u} J rv q=>⟨v,H',J.os,J.bare,J.base,J.hok,rv,q⟩
 cases fl with
 |ret u=>
  obtain⟨v,σ',H',J,rv,q⟩:=hs;exact fin J rv q
 |next=>
  obtain⟨σ',H',J,q⟩:=hs;exact fin (v:=V.non) (u:=Value.none) J rfl q
 |brk=>
  obtain⟨_,_,_,q⟩:=hs;exact False.elim q
 |cont=>
  obtain⟨_,_,_,q⟩:=hs;exact False.elim q
section
variable {X:Cx}{x:Str}{p pos:Pos}{e:Expr}{es:List Expr}{t:TA}{id T:String}{r:List V->Hp->VK->Prop}
noncomputable def zM(r:List V->Hp->VK->Prop)(t:TA):TE:=fun σ H Q=>t σ H fun vs H1=>r vs H1 Q
theorem aQ(hc:eY X (.builtin id) r)(hg:Gl X x)(hm:X.mg x=none)(hv:bootBuiltins x=some (.builtin id))(ha:PA X (e::es) t)(hn:x≠"__name__":=by decide)(hdb:(x==("__debug__":Str))=false:=by decide)
  (he:starEach (e::es) X.env=(false,eval e X.env)::starEach es X.env:=by rfl) (hpl:(backTo pos (starEach es X.env)).any (·.1)=false:=by rfl):PE X (.Call (.Name x p) (e::es) [] pos) (zM r t):=by
 intro pins s σ H Q I h;refine wpAny_Call_Name_kw (fC I hg hm hv ?_ hn hdb);exact PyProof.Rows.callWith_builtin1 (bq (ha pos pins s σ H _ I h) fun us s1 ⟨vs,H1,I1,r1,q1⟩=>hc pins s1 σ H1 vs us Q I1 r1 q1) he hpl
theorem gR(hc:eY X (.type T) r)(hg:Gl X x)(hm:X.mg x=none)(hv:bootBuiltins x=some (.type T))(ha:PA X (e::es) t)(hn:x≠"__name__":=by decide)(hdb:(x==("__debug__":Str))=false:=by decide)
  (he:starEach (e::es) X.env=(false,eval e X.env)::starEach es X.env:=by rfl) (hpl:(backTo pos (starEach es X.env)).any (·.1)=false:=by rfl):PE X (.Call (.Name x p) (e::es) [] pos) (zM r t):=by
 intro pins s σ H Q I h;refine wpAny_Call_Name_kw (fC I hg hm hv ?_ hn hdb);exact PyProof.Rows.callWith_type1 (bq (ha pos pins s σ H _ I h) fun us s1 ⟨vs,H1,I1,r1,q1⟩=>hc pins s1 σ H1 vs us Q I1 r1 q1) he hpl
end
end L2
namespace HT
open PySem PyProof.Rows
section
open PySem.SeqAt
open PySem.AutoSeq1 (wpAny_loadPart')
open PySem.MeetsSeq PySem.MeetsSeq2 PySem.MeetsSeq3
end
section
variable {prog:Program}{w:World}{A:Around}{E:Value->Shared->Prop}{s:Shared}
theorem cat_tup{t b:Addr}{vs ws:List Value}{Q:Value->Shared->Prop}(ht:IsTup s.heap t vs.toArray)(hb:IsTup s.heap b ws.toArray)(hv:vs≠[])
  (h1:ws=[]->Q (.ref t) s) (h2:ws≠[]->Q (.ref s.heap.objs.size) {s with heap:=s.heap.push {cls:=.type "tuple",data:=.seq (vs++ws).toArray} })
  (hsz:vs.length+ws.length<=sizeLine):wpAny (model prog w) A (binaryOp .Add (.ref t) (.ref b)) Q E s:=by
 obtain⟨⟨cls,dd,data,sl⟩,ho,hc,n,hd⟩:=id ht;obtain⟨⟨cls2,dd2,data2,sl2⟩,ho2,hc2,n2,hd2⟩:=id hb;simp only at hc hd hc2 hd2;subst hc hd hc2 hd2;have e:vs.toArray++ws.toArray=(vs++ws).toArray:=by simp
 by_cases hw:ws=[]
 ·exact concat_meets ⟨_,ho,rfl⟩ ⟨_,ho2,rfl⟩ noFill_tuple_add seq_tuple_add PySem.F.slot_tuple_add PySem.F.entry_tuple_add (PySem.F.args_tuple_add_2 _ _)
   (tuple_addW1 t b vs.toArray ws.toArray n n2 dd dd2 sl sl2 (by simpa using hv) (by simp[hw])) ⟨ho,ho2,h1 hw⟩
 ·refine concat_meets ⟨_,ho,rfl⟩ ⟨_,ho2,rfl⟩ noFill_tuple_add seq_tuple_add PySem.F.slot_tuple_add PySem.F.entry_tuple_add (PySem.F.args_tuple_add_2 _ _)
   (tuple_addW2 t b vs.toArray ws.toArray n n2 dd dd2 sl sl2 (by simpa using hv) (by simpa using hw) (by rw[CY,CY];exact hsz)) ⟨ho,ho2,?_⟩
  rw[e];exact h2 hw
noncomputable def sIx(n d:Nat):Option Int->Nat
 |none=>d
 |some v=>if v<0 then(v+(n:Int)).toNat else min v.toNat n
theorem sIx_nat(n d k:Nat):sIx n d (some (k:Int))=min k n:=by
 show(if(k:Int)<0 then((k:Int)+(n:Int)).toNat else min (k:Int).toNat n)=min k n;rw[if_neg (by omega),Int.toNat_natCast]
theorem sIx_le(n d:Nat)(hd:d<=n)(o:Option Int):sIx n d o<=n:=by
 cases o with
 |none=>exact hd
 |some v=>
  show(if v<0 then(v+(n:Int)).toNat else min v.toNat n)<=n
  by_cases hv:v<0
  ·rw[if_pos hv];omega
  ·rw[if_neg hv];exact Nat.min_le_right _ _
theorem sY(v:Int)(n d:Nat):(if v<0 then max (v+(n:Int)) 0 else min v (n:Int))=((sIx n d (some v):Nat):Int):=by
 show(if v<0 then max (v+(n:Int)) 0 else min v (n:Int))=(((if v<0 then(v+(n:Int)).toNat else min v.toNat n):Nat):Int)
 by_cases hv:v<0
 ·simp only[if_pos hv];omega
 ·simp only[if_neg hv];omega
theorem ri(lo hi:Option Int)(n:Nat):Builtin.Slice.sliceAdjust lo hi 1 (n:Int)=(((sIx n 0 lo:Nat):Int),((sIx n n hi:Nat):Int)):=by
 have h1:¬ ((1:Int)<0):=by omega
 unfold Builtin.Slice.sliceAdjust;simp only[h1,if_false];refine Prod.ext ?_ ?_
 ·cases lo with
  |none=>rfl
  |some v=>exact sY v n 0
 ·cases hi with
  |none=>rfl
  |some v=>exact sY v n n
theorem rq(i j:Nat):Builtin.Slice.slicePlaces (i:Int) (j:Int) 1=j-i:=by
 unfold Builtin.Slice.slicePlaces;have h1:(1:Int)>0:=by omega
 simp only[h1,if_true,Int.ediv_one]
 split<;>omega
theorem kW{v:Value}{o:Option Int}{Q:Option Int->Shared->Prop}(p:IsPart v o)(h:Q o s):wpAny (model prog w) A (Builtin.Slice.slicePartIndex v) Q E s:=by
 cases p with
 |none=>exact slicePart_none h
 |int i t=>exact slicePart_int h
theorem eU{sl:Addr}{vl vu:Value}{lo hi:Option Int}{n:Nat}{Q:Int×Int×Nat->Shared->Prop}(hs:s.heap.IsSliceOf sl vl vu .none)(pl:IsPart vl lo)(pu:IsPart vu hi)
  (h:Q (((sIx n 0 lo:Nat):Int),1,sIx n n hi-sIx n 0 lo) s):wpAny (model prog w) A (Builtin.Slice.sliceApplied (.ref sl) (pure (n:Int))) Q E s:=by
 obtain⟨os,hos,hcs,hds⟩:=id hs;unfold Builtin.Slice.sliceApplied Builtin.Slice.sliceFields;refine wpAny_bind (wpAny_bind (wpAny_field hos hds (x:=vl) rfl (wpAny_bind (wpAny_field hos hds (x:=vu) rfl (wpAny_bind (wpAny_field hos hds (x:=.none) rfl (wpAny_pure ?_)))))));refine wpAny_bind (slicePart_none ?_);show wpAny _ _ (if((1:Int)==0)=true then _ else _) _ _ s;rw[if_neg (by decide)];refine wpAny_bind (kW pl (wpAny_bind (kW pu (wpAny_bind (wpAny_pure ?_)))));show wpAny _ _ (match Builtin.Slice.sliceAdjust lo hi 1 (n:Int) with | (lo,hi)=>pure (lo,(1:Int),Builtin.Slice.slicePlaces lo hi 1)) _ _ s;rw[ri lo hi n];show wpAny _ _ (pure (((sIx n 0 lo:Nat):Int),(1:Int),Builtin.Slice.slicePlaces ((sIx n 0 lo:Nat):Int) ((sIx n n hi:Nat):Int) 1)) _ _ s;rw[rq];exact wpAny_pure h
theorem wq(xs:Array Value)(i k:Nat):((List.range k).filterMap fun(m:Nat)=>xs[((i:Int)+(m:Int)*1).toNat]?).toArray=((xs.toList.drop i).take k).toArray:=by
 have e:(fun(m:Nat)=>xs[((i:Int)+(m:Int)*1).toNat]?)=fun m=>xs[i+m]?:=by
  funext m
  have:((i:Int)+(m:Int)*1).toNat=i+m:=by omega
  rw[this]
 rw[e];have:=pick_run xs i k;rw[List.filterMap_map]at this;have e2:((fun x=>xs[x]?)∘fun x=>i+x)=fun m=>xs[i+m]?:=rfl;rw[e2]at this;rw[this]
theorem getItem_tuple_cut{t sl:Addr}{items:Array Value}{vl vu:Value}{lo hi:Option Int}{Q:Value->Shared->Prop}(ht:IsTup s.heap t items)(hs:s.heap.IsSliceOf sl vl vu .none)(pl:IsPart vl lo)(pu:IsPart vu hi)
  (hw:¬ (sIx items.size 0 lo=0/\sIx items.size items.size hi=items.size))
  (h:Q (.ref s.heap.objs.size) {s with heap:=s.heap.push {cls:=.type "tuple",data:=.seq ((items.toList.drop (sIx items.size 0 lo)).take (sIx items.size items.size hi-sIx items.size 0 lo)).toArray} })
  (hsz:items.size<=sizeLine):wpAny (model prog w) A (getItem (.ref t) (.ref sl)) Q E s:=by
 have htake:sizeOk (.seq ((items.toList.drop (sIx items.size 0 lo)).take (sIx items.size items.size hi-sIx items.size 0 lo)).toArray):=by
  show((items.toList.drop (sIx items.size 0 lo)).take (sIx items.size items.size hi-sIx items.size 0 lo)).toArray.size<=sizeLine;rw[CY,Du,Dv,Array.length_toList];omega
 have hj:sIx items.size items.size hi<=items.size:=sIx_le _ _ (Dg _) hi;obtain⟨os,hos,hcs,hds⟩:=id hs;have hTs:s.TypeIs (.ref sl) "slice":=⟨os,hos,hcs⟩;unfold getItem
 try with_reducible refine wpAny_holding ?_
 first | refine wpAny_bind (wpAny_pure ?_) | skip
 refine wpAny_bind (wpAny_sequenceKey ht.typeIs (by decide) ?_);refine wpAny_bind (wpAny_callSpecial?_slot (name:=Str.ofString "__getitem__") ht.typeIs PyProof.Rows.slot_tuple_getitem
  (wpAny_call_entry PyProof.Rows.slot_tuple_getitem ht.typeIs entry_tuple_getitem ?_ (args_tuple_getitem _ _)))
 show wpAny _ _ (Builtin.Tuple.tupleItemsOf (.ref t) >>= _) _ _ s;refine wpAny_bind (tupleItemsOf_ ht ?_);refine wpAny_bind (wpAny_typeOf hTs ?_);rw[if_pos (by decide)];refine wpAny_bind (eU hs pl pu ?_);have hno:¬ ((((sIx items.size 0 lo:Nat):Int)==0&&(1:Int)==1&&(sIx items.size items.size hi-sIx items.size 0 lo)==items.size)=true):=by
  intro q;rw[Bool.and_eq_true,Bool.and_eq_true]at q;have q1:((sIx items.size 0 lo:Nat):Int)=0:=eq_of_beq q.1.1;have q2:sIx items.size items.size hi-sIx items.size 0 lo=items.size:=eq_of_beq q.2;exact hw ⟨by omega,by omega⟩
 show wpAny _ _ (if(((sIx items.size 0 lo:Nat):Int)==0&&(1:Int)==1&&(sIx items.size items.size hi-sIx items.size 0 lo)==items.size)=true then _ else _) _ _ s;rw[if_neg hno,wq]
 first
  |exact wpAny_bind (m:=Builtin.Tuple.tupleExact _) (wpAny_newObj_type (wpAny_pure ⟨_,rfl,wpAny_pure h⟩) htake)
  |exact wpAny_bind (m:=Builtin.Tuple.tupleExact _) (wpAny_newObj_type (wpAny_bind (wpAny_pure (wpAny_pure ⟨_,rfl,wpAny_pure h⟩))) htake)
  |exact wpAny_bind (wpAny_bind (m:=Builtin.Tuple.tupleExact _) (wpAny_newObj_type (wpAny_pure (wpAny_pure ⟨_,rfl,wpAny_pure h⟩)) htake))
  |exact wpAny_bind (wpAny_bind (m:=Builtin.Tuple.tupleExact _) (wpAny_newObj_type (wpAny_pure ⟨_,rfl,wpAny_pure h⟩) htake))
end
end HT
namespace L2
open PySem PySem.Spec PyProof.Rows
noncomputable abbrev TO:=St->Hp->(Option Int->Hp->Prop)->Prop
noncomputable def PO(X:Cx)(e:Option Expr)(t:TO):Prop:=
 ∀(pins:List (Addr×Obj)) (s:Shared) (σ:St) (H:Hp) (Q:Option Int->Hp->Prop),Inv X pins σ H s->t σ H Q ->
  wpAny (model X.prog X.w) X.A (evalPart e X.env) (fun u s'=>∃o H',Inv X pins σ H' s'/\IsPart u o/\Q o H') X.xe s
noncomputable def ou:TO:=fun _ H Q=>Q none H
noncomputable def vW(t:TE):TO:=fun σ H Q=>t σ H fun x H1=>∃i,x=.int i/\Q (some i) H1
section
variable {X:Cx}{e:Expr}{te:TE}{lo hi:Option Expr}{tl th:TO}{pos p2:Pos}
theorem sB:PO X none ou:=by
 intro pins s σ H Q I h;rw[evalPart_none];exact wpAny_pure ⟨none,H,I,.none,h⟩
theorem km(h:PE X e te):PO X (some e) (vW te):=by
 intro pins s σ H Q I hw;rw[evalPart_some];refine bq (h pins s σ H _ I hw) fun u s1 ⟨x,H1,I1,r1,q1⟩=>?_;obtain⟨i,rfl,q⟩:=q1;obtain⟨t,rfl⟩:=r1;exact⟨some i,H1,I1,.int i t,q⟩
noncomputable def zQ(X:Cx)(r:V->Option Int->Option Int->Hp->VK->Prop):Prop:=
 ∀(pins:List (Addr×Obj)) (s:Shared) (σ:St) (H:Hp) (x:V) (v vl vu:Value) (lo hi:Option Int) (sl:Addr) (Q:VK),Inv X pins σ H s->aG x v->s.heap.IsSliceOf sl vl vu .none->IsPart vl lo->IsPart vu hi->r x lo hi H Q ->
  ∃T id,typeLookup (.type T) "__getitem__"=pure (some (.builtin id))/\s.TypeIs v T/\wpAny (model X.prog X.w) X.A (getItem v (.ref sl)) (EP X pins σ Q) X.xe s
noncomputable def Au(r:V->Option Int->Option Int->Hp->VK->Prop)(te:TE)(tl th:TO):TE:=fun σ H Q=>te σ H fun x H1=>tl σ H1 fun l H2=>th σ H2 fun u H3=>r x l u H3 Q
theorem lO{r:V->Option Int->Option Int->Hp->VK->Prop}(hr:zQ X r)(he:PE X e te)(hl:PO X lo tl)(hu:PO X hi th):PE X (.Subscript e (.Slice lo hi none p2) pos) (Au r te tl th):=by
 intro pins s σ H Q I h;refine Subscript_ (bq (he pins s σ H _ I h) fun v s1 ⟨x,H1,I1,r1,q1⟩=>?_);refine wpAny_Slice (bq (hl pins s1 σ H1 _ I1 q1) fun vl s2 ⟨l,H2,I2,pl,q2⟩=>bq (hu pins s2 σ H2 _ I2 q2) fun vu s3 ⟨u,H3,I3,pu,q3⟩=>?_);rw[evalPart_none];refine wpAny_pure ?_;have I4:Inv X pins σ H3 {s3 with heap:=s3.heap.push {cls:=.type "slice",data:=.fields #[vl,vu,.none]} }:=I3.kept (t':=s3.toks) fun b ob q=>CO _ q;obtain⟨T,id,hT,ht,hg⟩:=hr pins {s3 with heap:=s3.heap.push {cls:=.type "slice",data:=.fields #[vl,vu,.none]} } σ H3 x v vl vu l u s3.heap.objs.size Q I4 r1 (Heap.IsSliceOf.new ..) pl pu q3;show wpAny (model X.prog X.w) X.A (subscriptTail e (.Slice lo hi none p2) v (.ref s3.heap.objs.size)) (EP X pins σ Q) X.xe {s3 with heap:=s3.heap.push {cls:=.type "slice",data:=.fields #[vl,vu,.none]} };exact tail_any (ops:=[.ref s3.heap.objs.size,v]) ht hT hg (by with_unfolding_all rfl)
noncomputable def qt(xs:List V)(lo hi:Option Int):List V:=(xs.drop (HT.sIx xs.length 0 lo)).take (HT.sIx xs.length xs.length hi-HT.sIx xs.length 0 lo)
theorem j2(xs:List V)(lo hi:Option Int):(qt xs lo hi).length<=xs.length:=by
 unfold qt;rw[Du,Dv];omega
noncomputable def x'(K:PySem.W.Frag):R2:=fun x y H Q=>∃a b xs ys,x=.ref a/\y=.ref b/\bv K H a xs/\bv K H b ys/\xs≠[]/\xs.length+ys.length<=sizeLine /\
 (ys=[]->Q (.ref a) H)/\(ys≠[]->∀p,H p=none->Q (.ref p) (ar H p (.tup (xs++ys))))
theorem aH.nil_iff{xs:List V}{us:List Value}(r:aH xs us):us=[]↔xs=[]:=by
 cases r with
 |nil=>simp
 |cons _ _=>simp
theorem g6:aN X (binaryOp .Add) (x' X.K):=by
 intro pins s σ H x y v u Q I rx ry h;obtain⟨a,b,xs,ys,rfl,rfl,ha,hb,hx,hz,q1,q2⟩:=h;cases rx;cases ry;obtain⟨its,r1,p1,_⟩:=I.tuple ha;obtain⟨its2,r2,p2,_⟩:=I.tuple hb;refine HT.cat_tup p1 p2 (fun z=>hx (r1.nil_iff.mp z)) (fun z=>⟨.ref a,H,I,rfl,q1 (r2.nil_iff.mp z)⟩) (fun z=>?_) (by rw[<- r1.length,<- r2.length];exact hz);refine⟨.ref s.heap.objs.size,_,I.laid (t':=s.toks) (o:=.tup (xs++ys)) (fun b ob q=>CO _ q) (Dg _) ?_,rfl,q2 (fun w=>z (r2.nil_iff.mpr w)) _ (I.hok.fresh (Dg _))⟩;exact⟨by rw[Df];exact hz,_,r1.append r2,IsTup.new _ _⟩
end
noncomputable def zc(n:Nat)(i:Int):Option Nat:=if 0<=i then(if i<n then some i.toNat else none) else if -(n:Int)<=i then some (i+n).toNat else none
noncomputable def ki{α:Type}(xs:List α)(i:Int):Option α:=(zc xs.length i).bind fun j=>xs[j]?
theorem xb{n:Nat}{i:Int}{j:Nat}(h:zc n i=some j):seqIndex? i n=some j/\j<n/\-(n:Int)<=i/\i<n:=by
 unfold zc at h
 by_cases h0:0<=i
 ·rw[if_pos h0]at h
  by_cases h1:i<n
  ·rw[if_pos h1]at h
   have e:i.toNat=j:=Option.some.inj h;exact⟨by rw[seqIndex_of h0 h1,e],by omega,by omega,h1⟩
  ·rw[if_neg h1]at h;cases h
 ·rw[if_neg h0]at h
  by_cases h1:-(n:Int)<=i
  ·rw[if_pos h1]at h
   have e:(i+n).toNat=j:=Option.some.inj h;exact⟨by rw[seqIndex_neg (by omega) h1,e],by omega,h1,by omega⟩
  ·rw[if_neg h1]at h;cases h
theorem nA{α:Type}{xs:List α}{i:Int}{v:α}(h:ki xs i=some v):∃j,seqIndex? i xs.length=some j/\xs[j]?=some v/\j<xs.length/\-(xs.length:Int)<=i/\i<xs.length:=by
 unfold ki at h;cases e:zc xs.length i with
 |none=>rw[e]at h;cases h
 |some j=>
  rw[e]at h;obtain⟨h1,h2,h3,h4⟩:=xb e;exact⟨j,h1,h,h2,h3,h4⟩
theorem c8{α:Type}{xs:List α}{j:Nat}{v:α}(h:xs[j]?=some v):ki xs (j:Int)=some v:=by
 have hj:j<xs.length:=(CM.mp h).1;have e:zc xs.length (j:Int)=some j:=by
  unfold zc;rw[if_pos (by omega),if_pos (by omega)];simp
 unfold ki;rw[e];exact h
noncomputable def xE(b:Expr):Prop:=∀o i,subscripted b false o i=operate [o,i] (getItem o i)
noncomputable def y_(X:Cx)(r:R2):Prop:=
 ∀(value slice:Expr) (pins:List (Addr×Obj)) (s:Shared) (σ:St) (H:Hp) (x y:V) (v u:Value) (Q:VK),Inv X pins σ H s->aG x v->aG y u->r x y H Q ->
  subscripted slice false v u=operate [v,u] (getItem v u)->wpAny (model X.prog X.w) X.A (subscriptTail value slice v u) (EP X pins σ Q) X.xe s
noncomputable def AE(X:Cx)(id:String)(r:V->List V->Hp->VK->Prop):Prop:=
 ∀(pins:List (Addr×Obj)) (s:Shared) (σ:St) (H:Hp) (x:V) (xs:List V) (v:Value) (us:List Value) (Q:VK),Inv X pins σ H s->aG x v->aH xs us->r x xs H Q ->
  wpAny (model X.prog X.w) X.A (call (.builtin id) (v::us)) (EP X pins σ Q) X.xe s
section
variable {X:Cx}{a b:Expr}{ta tb:TE}{pos:Pos}
theorem az{r:R2}(hr:y_ X r)(ha:PE X a ta)(hb:PE X b tb)(hs:xE b):PE X (.Subscript a b pos) (y9 r ta tb):=by
 intro pins s σ H Q I h;exact Subscript_ (yG ha hb I h fun v u s2 x y H2 I2 rx ry q=>hr a b pins s2 σ H2 x y v u Q I2 rx ry q (hs _ _))
noncomputable def wn(K:PySem.W.Frag):R2:=fun x y H Q=>∃p xs i v,x=.ref p/\y=.int i/\bp K H p xs/\ki xs i=some v/\Q v H
noncomputable def vN(K:PySem.W.Frag):R2:=fun x y H Q=>∃p xs i v,x=.ref p/\y=.int i/\bv K H p xs/\ki xs i=some v/\Q v H
noncomputable def yA:R2:=fun x y H Q=>∃z i c,x=.str z/\y=.int i/\z.length<=sizeLine/\ki z.cps.toList i=some c/\Q (.str ⟨#[c]⟩) H
theorem sF:y_ X (wn X.K):=by
 intro value slice pins s σ H x y v u Q I rx ry h hs;obtain⟨p,xs,i,z,rfl,rfl,hq,he,q⟩:=h;cases rx;obtain⟨t,rfl⟩:=ry;obtain⟨its,r,pl,hz⟩:=I.list hq;obtain⟨j,h1,h2,h3,h4,h5⟩:=nA he;obtain⟨w,ew,rw'⟩:=r.get h2;have hl:=r.length;have hn:=lu;have fin:EP X pins σ Q w s:=⟨z,H,I,rw',q⟩
 by_cases h0:0<=i
 ·have hj:i.toNat=j:=by
   rw[seqIndex_of h0 h5]at h1;exact Option.some.inj h1
  exact item_listR pl.isList h0 (by omega) (by rw[hj];simpa using ew) fin hs
 ·have hj:(i+(its.toArray.size:Int)).toNat=j:=by
   rw[seqIndex_neg (by omega) h4]at h1;rw[CY,<- hl];exact Option.some.inj h1
  exact subscriptTail_builtinR (x:=w) pl.isList.typeIs slot_list_getitem.lookup
   (wpAny_getItem_list_neg (Q:=fun r s'=>r=w/\EP X pins σ Q r s') pl.isList (by omega) (by rw[CY]<;>omega) (by omega) (by rw[hj];simpa using ew) ⟨rfl,fin⟩) hs
theorem yN:y_ X (vN X.K):=by
 intro value slice pins s σ H x y v u Q I rx ry h hs;obtain⟨p,xs,i,z,rfl,rfl,hq,he,q⟩:=h;cases rx;obtain⟨t,rfl⟩:=ry;obtain⟨its,r,pl,hz⟩:=I.tuple hq;obtain⟨j,h1,h2,h3,h4,h5⟩:=nA he;obtain⟨w,ew,rw'⟩:=r.get h2;have hl:=r.length;have hn:=lu;have fin:EP X pins σ Q w s:=⟨z,H,I,rw',q⟩;exact subscriptTail_builtinR (x:=w) pl.typeIs slot_tuple_getitem.lookup
  (getItem_tuple (j:=j) (Q:=fun r s'=>r=w/\EP X pins σ Q r s') pl (by omega) (by omega) (by rw[CY,<- hl];exact h1) (by simpa using ew) ⟨rfl,fin⟩) hs
theorem nh:y_ X yA:=by
 intro value slice pins s σ H x y v u Q I rx ry h hs;obtain⟨z,i,c,rfl,rfl,hz,he,q⟩:=h;obtain⟨t,rfl⟩:=rx;obtain⟨t',rfl⟩:=ry;obtain⟨j,h1,h2,h3,h4,h5⟩:=nA he;have hl:z.cps.toList.length=z.length:=by simp[Str.length]
 rw[hl]at h1 h4 h5;have hn:=lu;exact tail_any (typeIs_str s z t) slot_str_getitem.lookup (getItem_str (c:=c) (by
  have e1:decide (i < -(2 ^ 63:Int))=false:=decide_eq_false (by omega);have e2:decide (i≥2 ^ 63)=false:=decide_eq_false (by omega);rw[e1,e2,Bool.or_false]) (by rw[h1];simpa using h2) ⟨.str ⟨#[c]⟩,H,I.tok _,⟨_,rfl⟩,q⟩) hs
theorem oX(lo hi:Option Int)(n:Nat):(sliceBounds lo hi none n).1=((HT.sIx n 0 lo:Nat):Int)/\(sliceBounds lo hi none n).2.1=((HT.sIx n n hi:Nat):Int)/\(sliceBounds lo hi none n).2.2=1:=by
 refine⟨?_,?_,rfl⟩
 ·cases lo with
  |none=>simp[sliceBounds,HT.sIx]
  |some i=>
   simp only[sliceBounds,HT.sIx,Option.getD_none,show(1:Int)>0 by decide,if_true]
   by_cases h:i<0
   ·simp only[h,if_true]<;>omega
   ·simp only[h,if_false]<;>omega
 ·cases hi with
  |none=>simp[sliceBounds,HT.sIx]
  |some i=>
   simp only[sliceBounds,HT.sIx,Option.getD_none,show(1:Int)>0 by decide,if_true]
   by_cases h:i<0
   ·simp only[h,if_true]<;>omega
   ·simp only[h,if_false]<;>omega
theorem lZ(its:List Value)(lo hi:Option Int):slicePick its.toArray lo hi none=((its.drop (HT.sIx its.length 0 lo)).take (HT.sIx its.length its.length hi-HT.sIx its.length 0 lo)).toArray:=by
 obtain⟨h1,h2,h3⟩:=oX lo hi its.toArray.size;unfold slicePick;rw[h1,h2,h3];simp only[sliceRange_one,pick_run,CY]<;>rfl
noncomputable def Ak(K:PySem.W.Frag):V->Option Int->Option Int->Hp->VK->Prop:=fun x lo hi H Q=>∃a xs,x=.ref a/\bp K H a xs/\∀p,H p=none->Q (.ref p) (ar H p (.lst (qt xs lo hi)))
theorem zP:zQ X (Ak X.K):=by
 intro pins s σ H x v vl vu lo hi sl Q I rx hs pl pu h;obtain⟨a,xs,rfl,hx,q⟩:=h;cases rx;obtain⟨its,r,ht,hz⟩:=I.list hx;have hlen:=r.length;refine⟨"list",_,slot_list_getitem.lookup,ht.isList.typeIs,?_⟩;refine wpAny_getItem_list_slice ht.isList hs pl pu .none (by simp) ?_ (by rw[CY]<;>omega);rw[lZ,<- hlen];refine⟨.ref s.heap.objs.size,_,I.laid (t':=s.toks) (o:=.lst (qt xs lo hi)) (fun b ob q=>CO _ q) (Dg _) ?_,rfl,q _ (I.hok.fresh (Dg _))⟩;exact⟨Dm (j2 xs lo hi) hz,_,0,(r.drop (HT.sIx xs.length 0 lo)).take (HT.sIx xs.length xs.length hi-HT.sIx xs.length 0 lo),CW _ rfl⟩
noncomputable def fO:V->Bool
 | .non=>true
 | .bl _=>true
 | .int _=>true
 | .str _=>true
 |_=>false
noncomputable def vL:V->V->Bool
 | .non,.non=>true
 | .bl a,.bl b=>a==b
 | .bl a,.int b=>(if a then 1 else 0)==b
 | .int a,.bl b=>a==(if b then 1 else 0)
 | .int a,.int b=>a==b
 | .str a,.str b=>a==b
 |_,_=>false
theorem vk{A:Around}{s:Shared}{y x:V}{u v:Value}(ry:aG y u)(rx:aG x v)(fy:fO y=true)(fx:fO x=true):SeqAt.EqAt A s u v (vL y x):=by
 cases y with
 |non=>
  cases ry;cases x with
  |non=>cases rx;exact SeqAt.EqAt.same _
  |bl b=>cases rx;exact SeqAt.EqAt.none_bool b
  |int b=>obtain⟨t,rfl⟩:=rx;exact SeqAt.EqAt.none_int b t
  |str b=>obtain⟨t,rfl⟩:=rx;exact SeqAt.EqAt.none_str b t
  |_=>exact absurd (show false=true from fx) Di
 |bl a=>
  cases ry;cases x with
  |non=>cases rx;exact SeqAt.EqAt.bool_none a
  |bl b=>cases rx;exact SeqAt.EqAt.bool_bool a b
  |int b=>obtain⟨t,rfl⟩:=rx;exact SeqAt.EqAt.bool_int a b t
  |str b=>obtain⟨t,rfl⟩:=rx;exact SeqAt.EqAt.bool_str a b t
  |_=>exact absurd (show false=true from fx) Di
 |int a=>
  obtain⟨t',rfl⟩:=ry;cases x with
  |non=>cases rx;exact SeqAt.EqAt.int_none a t'
  |bl b=>cases rx;exact SeqAt.EqAt.int_bool a t' b
  |int b=>obtain⟨t,rfl⟩:=rx;exact SeqAt.EqAt.int_int a t' b t
  |str b=>obtain⟨t,rfl⟩:=rx;exact SeqAt.EqAt.int_str a t' b t
  |_=>exact absurd (show false=true from fx) Di
 |str a=>
  obtain⟨t',rfl⟩:=ry;cases x with
  |non=>cases rx;exact SeqAt.EqAt.str_none a t'
  |bl b=>cases rx;exact SeqAt.EqAt.str_bool a t' b
  |int b=>obtain⟨t,rfl⟩:=rx;exact SeqAt.EqAt.str_int a t' b t
  |str b=>obtain⟨t,rfl⟩:=rx;exact SeqAt.EqAt.str_str a t' b t
  |_=>exact absurd (show false=true from fx) Di
 |_=>exact absurd (show false=true from fy) Di
noncomputable def wV(x:V)(u:Value):Bool:=match u with
 | .none=>vL .non x
 | .bool b=>vL (.bl b) x
 | .int i _=>vL (.int i) x
 | .str z _=>vL (.str z) x
 |_=>false
theorem v_{x y:V}{u:Value}(r:aG y u)(f:fO y=true):wV x u=vL y x:=by
 cases y with
 |non=>cases r;rfl
 |bl b=>cases r;rfl
 |int i=>obtain⟨t,rfl⟩:=r;rfl
 |str z=>obtain⟨t,rfl⟩:=r;rfl
 |_=>exact absurd (show false=true from f) Di
theorem oB{x:V}:∀{xs:List V} {us:List Value},aH xs us->xs.all fO=true->us.any (wV x)=xs.any fun y=>vL y x
 |_,_,.nil,_=>rfl
 |y::xs,u::us,.cons r t,f=>by
  rw[List.all_cons,Bool.and_eq_true]at f;rw[List.any_cons,List.any_cons,v_ r f.1,oB t f.2]
theorem lS{A:Around}{s:Shared}{x:V}{v:Value}(rx:aG x v)(fx:fO x=true):∀{xs:List V} {us:List Value},aH xs us->xs.all fO=true->∀u∈us,SeqAt.EqAt A s u v (wV x u)
 |_,_,.nil,_=>fun u hu=>by cases hu
 |y::xs,u::us,.cons r t,f=>fun u' hu=>by
  rw[List.all_cons,Bool.and_eq_true]at f;rcases C9.mp hu with rfl | hu
  ·rw[v_ r f.1];exact vk r rx f.1 fx
  ·exact lS rx fx t f.2 u' hu
noncomputable def zq(x:V)(xs:List V):Bool:=xs.any fun y=>vL y x
noncomputable def AJ(K:PySem.W.Frag)(neg:Bool):R2:=fun x y H Q=>∃p xs,y=.ref p/\(bp K H p xs\/bv K H p xs)/\fO x=true/\xs.all fO=true/\Q (.bl (if neg then !zq x xs else zq x xs)) H
theorem oJ:aN X (compareOp .NotIn) (AJ X.K true):=by
 intro pins s σ H x y v u Q I rx ry h;obtain⟨p,xs,rfl,hq,fx,fs,q⟩:=h;cases ry;rcases hq with hq | hq
 ·obtain⟨its,r,pl,hz⟩:=I.list hq
  refine SeqAt.notIn_listAt (wV x) pl.isList (fun w hw=>lS rx fx r fs w (by simpa using hw)) ⟨.bl _,H,I,rfl,?_⟩;rw[show its.toArray.any (wV x)=its.any (wV x) by simp,oB r fs];exact q
 ·obtain⟨its,r,pl,hz⟩:=I.tuple hq
  refine SeqAt.notIn_tupleAt (wV x) pl (fun w hw=>lS rx fx r fs w (by simpa using hw)) ⟨.bl _,H,I,rfl,?_⟩;rw[show its.toArray.any (wV x)=its.any (wV x) by simp,oB r fs];exact q
theorem o4:eY X (.builtin "len") (fun xs H Q=>∃p ys,xs=[.ref p]/\(bp X.K H p ys\/bv X.K H p ys)/\Q (.int ys.length) H):=by
 intro pins s σ H xs us Q I r h;obtain⟨p,ys,rfl,hq,q⟩:=h;obtain⟨u,rfl,rx⟩:=qp r;cases rx;have hn:=lu;rcases hq with hq | hq
 ·obtain⟨its,r',pl,hz⟩:=I.list hq
  have hlen:=r'.length;exact Calls.call_len_list pl.isList (by simp only[CY]<;>omega) ⟨.int ys.length,H,I.tok _,⟨s.toks+1,by rw[CY,hlen]⟩,q⟩
 ·obtain⟨its,r',pl,hz⟩:=I.tuple hq
  have hlen:=r'.length;exact len_tuple pl (by simp only[CY]<;>omega) ⟨.int ys.length,H,I.tok _,⟨s.toks+1,by rw[CY,hlen]⟩,q⟩
theorem cR:eY X (.builtin "len") (fun xs H Q=>∃z,xs=[.str z]/\z.length<=sizeLine/\Q (.int z.length) H):=by
 intro pins s σ H xs us Q I r h;obtain⟨z,rfl,hz,q⟩:=h;obtain⟨u,rfl,t,rfl⟩:=qp r;have hn:=lu;exact len_str (by omega) ⟨.int z.length,H,I.tok _,⟨_,rfl⟩,q⟩
theorem fm:eY X (.type "list") (fun xs H Q=>∃p ys,xs=[.ref p]/\(bp X.K H p ys\/bv X.K H p ys)/\∀l,H l=none->Q (.ref l) (ar H l (.lst ys))):=by
 intro pins s σ H xs us Q I r h;obtain⟨p,ys,rfl,hq,q⟩:=h;obtain⟨u,rfl,rx⟩:=qp r;cases rx;have fin:∀(its:List Value),aH ys its->ys.length<=sizeLine->∀(h':Heap) (c':Nat),(∀b o',s.heap.get? b=some o'->h'.get? b=some o') ->
   h'.get? s.heap.objs.size=some {cls:=.type "list",dict:=none,data:=.seq its.toArray c',slots:=#[]}->EP X pins σ Q (.ref s.heap.objs.size) {s with heap:=h' }:=fun its r' hz h' c' kp e=>
  ⟨.ref s.heap.objs.size,_,I.laid (t':=s.toks) kp (Dg _) (show aX X.prog X.w _ h' _ (.lst ys) from⟨hz,its,c',r',e⟩),rfl,q _ (I.hok.fresh (Dg _))⟩
 rcases hq with hq | hq
 ·obtain⟨its,r',pl,hz⟩:=I.list hq
  have hlen:=r'.length;obtain⟨o,ho,hc,n,hd⟩:=pl.isList;exact call_list_seq p (.inl rfl) ho hc hd (fun h' c' kp e=>fin its r' hz h' c' kp e) (by simp only[CY]<;>omega)
 ·obtain⟨its,r',pl,hz⟩:=I.tuple hq
  have hlen:=r'.length;obtain⟨o,ho,hc,n,hd⟩:=pl;exact call_list_seq p (.inr rfl) ho hc hd (fun h' c' kp e=>fin its r' hz h' c' kp e) (by simp only[CY]<;>omega)
noncomputable def AB(K:PySem.W.Frag)(T:String)(x:V)(H:Hp):Prop:=match x with
 | .str _=>T="str"
 | .int _=>T="int"
 | .ref p=>(T="list"/\∃xs,bp K H p xs)\/(T="tuple"/\∃o,K.lookup p=some o/\o.cls=.type "tuple"/\o.dict=none) \/
   (T="dict"/\((∃kvs,H p=some (.dK kvs))\/∃kvs,H p=some (.dT kvs)))\/(T="set"/\∃S n,H p=some (.set S n))
 |_=>False
theorem yY{pins:List (Addr×Obj)}{σ:St}{H:Hp}{s:Shared}{T:String}{x:V}{v:Value}(I:Inv X pins σ H s)(r:aG x v)(ty:AB X.K T x H) :
  s.TypeIs v T/\∀a,v=.ref a->∃ob,s.heap.get? a=some ob/\ob.dict=none:=by
 cases x with
 |str z=>
  obtain⟨t,rfl⟩:=r;cases(show T="str" from ty);exact⟨typeIs_str s z t,fun _ e=>nomatch e⟩
 |int i=>
  obtain⟨t,rfl⟩:=r;cases(show T="int" from ty);exact⟨typeIs_int s i t,fun _ e=>nomatch e⟩
 |ref p=>
  cases r;rcases ty with⟨rfl,xs,hq⟩ | ⟨rfl,o,hk,hc,hd⟩ | ⟨rfl,hk⟩ | ⟨rfl,S,n,hk⟩
  ·obtain⟨its,_,pl,_⟩:=I.list hq
   refine⟨pl.isList.typeIs,fun a e=>?_⟩;cases e;obtain⟨o,n,e,c,hd,_⟩:=pl;exact⟨o,e,hd⟩
  ·refine⟨⟨o,I.kIn p o hk,hc⟩,fun a e=>?_⟩
   cases e;exact⟨o,I.kIn _ o hk,hd⟩
  ·have z:∃o,s.heap.get? p=some o/\o.ExactDict:=by
    rcases hk with⟨kvs,hk⟩ | ⟨kvs,hk⟩
    ·obtain⟨_,_,_,_,o,_,_,e,ex,_⟩:=I.hok p _ hk
     exact⟨o,e,ex⟩
    ·obtain⟨_,_,_,_,o,_,_,e,ex,_⟩:=I.hok p _ hk
     exact⟨o,e,ex⟩
   obtain⟨o,e,ex⟩:=z;refine⟨⟨o,e,ex.1⟩,fun a e2=>?_⟩;cases e2;exact⟨o,e,ex.2.1⟩
  ·obtain⟨o,_,_,_,e,ex,_⟩:=I.hok p _ hk
   refine⟨⟨o,e,ex.1⟩,fun a e2=>?_⟩;cases e2;exact⟨o,e,ex.2.1⟩
 |_=>exact False.elim ty
noncomputable def zZ(K:PySem.W.Frag)(T:String)(r:V->List V->Hp->VK->Prop)(to:TE)(t:TA):TE:=fun σ H Q=>to σ H fun x H1=>AB K T x H1/\t σ H1 fun xs H2=>r x xs H2 Q
variable {o e:Expr}{es:List Expr}{to:TE}{t:TA}{name:Str}{apos cpos:Pos}{T id:String}{r:V->List V->Hp->VK->Prop}
theorem mR(pa:PlainAttrs T)(slot:Slot T name id)(hty:typeOf (.builtin id)=pure (.type "method_descriptor"))(hm:AE X id r)(ho:PE X o to)(ha:PA X (e::es) t)
  (hbase:attributeBase o name X.env (eval o X.env)=eval o X.env:=by rfl)
  (hfew:((backTo cpos (starEach (e::es) X.env)).all (fun x=>!x.1)&&(backToKw cpos (keywordEach [] X.env)).all (fun x=>x.1.isSome)
   && decide ((e::es).length+([]:List Keyword).length+(if([]:List Keyword).isEmpty then 0 else 1)<30))=true:=by rfl)
  (hline:(apos.endLine==cpos.line)=true:=by rfl) (hs:starEach (e::es) X.env=(false,eval e X.env)::starEach es X.env:=by rfl) (hplain:(backTo cpos (starEach es X.env)).any (·.1)=false:=by rfl) :
  PE X (.Call (.Attribute o name apos) (e::es) [] cpos) (zZ X.K T r to t):=by
 intro pins s σ H Q I h;refine wpAny_Call_method_late hbase hfew hline rfl (bq (ho pins s σ H _ I h) fun v s1 ⟨x,H1,I1,r1,ty,q1⟩=>?_);obtain⟨h1,h2⟩:=yY I1 r1 ty;refine⟨T,id,pa,slot,hty,h1,h2,?_⟩;have hA:=ha cpos pins s1 σ H1 _ I1 q1;rw[hs]at hA ⊢;refine Calls.callWith_builtin (by show(false||(backTo cpos (starEach es X.env)).any (·.1))=false;rw[hplain]<;>rfl) (Calls.evalArgs_plain ?_);exact bq hA fun us s2 ⟨vs,H2,I2,r2,q2⟩=>hm pins s2 σ H2 x vs v us Q I2 r1 r2 q2
end
noncomputable def AI(X:Cx)(id:String)(r:V->List V->Hp->VK->Prop):Prop:=
 ∀(pins:List (Addr×Obj)) (s:Shared) (σ:St) (H:Hp) (x:V) (xs:List V) (v:Value) (us:List Value) (Q:VK),Inv X pins σ H s->aG x v->aH xs us->r x xs H Q ->
  wpAny (model X.prog X.w) X.A (call (.builtin id) (v::us)) (EP X pins σ Q) X.xe s
theorem aH.one:∀{x:V} {us:List Value},aH [x] us->∃u,us=[u]/\aG x u
 |_,_,.cons r .nil=>⟨_,rfl,r⟩
theorem aH.two:∀{x y:V} {us:List Value},aH [x,y] us->∃u v,us=[u,v]/\aG x u/\aG y v
 |_,_,_,.cons r (.cons q .nil)=>⟨_,_,rfl,r,q⟩
theorem aH.zero:∀{us:List Value},aH [] us->us=[]
 |_,.nil=>rfl
section
variable {X:Cx}{pins:List (Addr×Obj)}{σ:St}{H:Hp}{s:Shared}{l b:Addr}{xs ys zs:List V}
theorem Inv.lset{its its':List Value}{n:Nat}{f:Array Value->Array Value}{t':Nat}(I:Inv X pins σ H s)(hH:H l=some (.lst xs))
  (e:s.heap.get? l=some {cls:=.type "list",data:=.seq its.toArray n}) (hf:f its.toArray=its'.toArray) (hv:aH ys its') (hz:ys.length<=sizeLine) :
  Inv X pins σ (ar H l (.lst ys)) {s with heap:=s.heap.update l (Obj.mapSeq f),toks:=t' }:=by
 have q:=PySem.IsL.update e f;rw[hf]at q;refine I.write (x:=l) (e:=l) (by rw[hH];exact trivial) (.inl rfl) (fun b' u hb hu=>(CV s.heap (Obj.mapSeq f) (Ne.symm hb)).trans hu) ⟨_,q⟩ ?_;exact⟨hz,its',_,hv,q⟩
theorem Inv.lnew{its:List Value}{t':Nat}(I:Inv X pins σ H s)(hv:aH ys its)(hz:ys.length<=sizeLine) :
  Inv X pins σ (ar H s.heap.objs.size (.lst ys)) {s with heap:=s.heap.push {cls:=.type "list",data:=.seq its.toArray},toks:=t' }:=
 I.laid (fun _ _ q=>CO _ q) (Dg _) ⟨hz,its,0,hv,CW _ rfl⟩
theorem Inv.fresh(I:Inv X pins σ H s):H s.heap.objs.size=none:=I.hok.fresh (Dg _)
theorem Inv.lstM(I:Inv X pins σ H s)(hH:H l=some (.lst xs)):xs.length<=sizeLine/\∃(its:List Value) (n:Nat),aH xs its/\xs.length=its.length/\s.heap.get? l=some {cls:=.type "list",data:=.seq its.toArray n}:=by
 obtain⟨z,its,n,r,e⟩:=I.hok l _ hH;exact⟨z,its,n,r,r.length,e⟩
theorem wO{n:Nat}(h:n<=sizeLine):Builtin.List.listTooLong n=false:=by
 unfold Builtin.List.listTooLong;exact decide_eq_false (by omega)
end
section
variable {X:Cx}
noncomputable def ng:V->List V->Hp->VK->Prop:=fun x vs H Q=>∃l xs y,x=.ref l/\vs=[y]/\H l=some (.lst xs)/\xs.length<sizeLine/\Q .non (ar H l (.lst (xs++[y])))
theorem gN:AI X "list.append" ng:=by
 intro pins s σ H x vs v us Q I rx rv h;obtain⟨l,xs,y,rfl,rfl,hH,hz,q⟩:=h;cases rx;obtain⟨u,rfl,ru⟩:=rv.one;obtain⟨z,its,n,r,hl,e⟩:=I.lstM hH;refine call_meets F.slot_list_append ⟨_,e,rfl⟩ F.entry_list_append (F.args_list_append_2 _ _) (PySem.list_append l its.toArray n u (by rw[CY];omega)) ⟨e,?_⟩;refine⟨.non,_,I.lset (its':=its++[u]) hH e (by simp) (r.append (.cons ru .nil)) ?_,rfl,q⟩;rw[Df,List.length_singleton];omega
noncomputable def xi:V->List V->Hp->VK->Prop:=fun x vs H Q=>∃l b xs zs,x=.ref l/\vs=[.ref b]/\H l=some (.lst xs)/\H b=some (.lst zs)/\xs.length+zs.length<=sizeLine/\Q .non (ar H l (.lst (xs++zs)))
theorem zb:AI X "list.extend" xi:=by
 intro pins s σ H x vs v us Q I rx rv h;obtain⟨l,b,xs,zs,rfl,rfl,hH,hB,hz,q⟩:=h;cases rx;obtain⟨u,rfl,ru⟩:=rv.one;cases ru;obtain⟨z,its,n,r,hl,e⟩:=I.lstM hH;obtain⟨z2,its2,n2,r2,hl2,e2⟩:=I.lstM hB;have hsz:its.toArray.size+its2.toArray.size<=sizeLine:=by rw[CY,CY];omega
 have hlong:¬ (!its.toArray.isEmpty&&Builtin.List.listTooLong (its.toArray.size+its2.toArray.size))=true:=by
  rw[wO hsz,Bool.and_false];exact Di
 refine call_meets F.slot_list_extend ⟨_,e,rfl⟩ F.entry_list_extend (F.args_list_extend_2 _ _)
  (AutoSeq1.list_extend_list_list_0 l its.toArray n b its2.toArray n2 hlong (by rw[CY];omega) (by omega)) ⟨e,e2,?_⟩
 refine⟨.non,_,I.lset (its':=its++its2) hH e (by simp) (r.append r2) ?_,rfl,q⟩;rw[Df];omega
noncomputable def yQ:R2:=fun x y H Q=>∃l b xs zs,x=.ref l/\y=.ref b/\H l=some (.lst xs)/\H b=some (.lst zs)/\xs.length+zs.length<=sizeLine/\∀p,H p=none->Q (.ref p) (ar H p (.lst (xs++zs)))
theorem yK:aN X (binaryOp .Add) yQ:=by
 intro pins s σ H x y v u Q I rx ry h;obtain⟨l,b,xs,zs,rfl,rfl,hH,hB,hz,q⟩:=h;cases rx;cases ry;obtain⟨z,its,n,r,hl,e⟩:=I.lstM hH;obtain⟨z2,its2,n2,r2,hl2,e2⟩:=I.lstM hB;refine PySem.P.add_list e e2 ?_ (by rw[CY,CY];omega);have ea:its.toArray++its2.toArray=(its++its2).toArray:=by simp
 rw[ea];exact⟨.ref _,_,I.lnew (t':=s.toks) (r.append r2) (by rw[Df];omega),rfl,q _ I.fresh⟩
end
section
variable {prog:Program}{w:World}{A:Around}{E:Value->Shared->Prop}{s:Shared}
end
section
variable {X:Cx}
end
section
variable {κ:Type}[DecidableEq κ]
noncomputable def bf(kvs:List (κ×V))(k:κ):Option V:=(kvs.find? fun kv=>decide (kv.1=k)).map (·.2)
noncomputable def bL(kvs:List (κ×V))(k:κ)(v:V):List (κ×V):=
 if(kvs.any fun kv=>decide (kv.1=k))=true then kvs.map (fun kv=>if kv.1=k then(kv.1,v) else kv) else kvs++[(k,v)]
theorem bU{p:κ×V}{r:List (κ×V)}{k:κ}(e:p.1=k):bf (p::r) k=some p.2:=by simp[bf,List.find?_cons,e]
theorem bT{p:κ×V}{r:List (κ×V)}{k:κ}(e:¬ p.1=k):bf (p::r) k=bf r k:=by simp[bf,List.find?_cons,e]
theorem dl(k:κ):∀kvs:List (κ×V),(kvs.any fun kv=>decide (kv.1=k))=(bf kvs k).isSome
 | []=>rfl
 |p::r=>by
  rw[List.any_cons]
  by_cases e:p.1=k
  ·simp only[bU e,decide_eq_true e,Bool.true_or,Option.isSome_some]
  ·rw[bT e,decide_eq_false e,Bool.false_or];exact dl k r
theorem pq(k j:κ)(y:V):∀kvs:List (κ×V),bf (kvs.map fun kv=>if kv.1=k then(kv.1,y) else kv) j=(bf kvs j).map fun x=>if j=k then y else x
 | []=>rfl
 |p::r=>by
  have ih:=pq k j y r;rw[Dl]
  by_cases h:p.1=k
  ·rw[if_pos h]
   by_cases e:p.1=j
   ·rw[bU (p:=(p.1,y)) e,bU e,Option.map_some,if_pos (e.symm.trans h)]
   ·rw[bT (p:=(p.1,y)) e,bT e,ih]
  ·rw[if_neg h]
   by_cases e:p.1=j
   ·rw[bU (p:=p) e,bU e,Option.map_some,if_neg (fun z=>h (e.trans z))]
   ·rw[bT (p:=p) e,bT e,ih]
theorem mS(k j:κ)(y:V):∀kvs:List (κ×V),bf kvs k=none->bf (kvs++[(k,y)]) j=if j=k then some y else bf kvs j
 | [],_=>by
  by_cases e:k=j
  ·rw[if_pos e.symm];exact bU (p:=(k,y)) e
  ·rw[if_neg (fun z=>e z.symm)];exact bT (p:=(k,y)) e
 |p::r,hn=>by
  rw[List.cons_append];have hk:¬ p.1=k:=fun z=>by rw[bU z]at hn;cases hn
  rw[bT hk]at hn;have ih:=mS k j y r hn
  by_cases e:p.1=j
  ·rw[bU e,bU e,if_neg (fun z=>hk (e.trans z))]
  ·rw[bT e,bT e,ih]
theorem ju(kvs:List (κ×V))(k j:κ)(y:V):bf (bL kvs k y) j=if j=k then some y else bf kvs j:=by
 unfold bL
 by_cases a:(kvs.any fun kv=>decide (kv.1=k))=true
 ·rw[if_pos a,pq]
  rw[dl]at a
  by_cases e:j=k
  ·obtain⟨x,hx⟩:=Option.isSome_iff_exists.mp a
   rw[if_pos e,e,hx,Option.map_some,if_pos rfl]
  ·rw[if_neg e]
   cases bf kvs j with
   |none=>rfl
   |some x=>rw[Option.map_some,if_neg e]
 ·rw[if_neg a]
  refine mS k j y kvs ?_;rw[dl]at a;cases q:bf kvs k with
  |none=>rfl
  |some x=>rw[q]at a;exact(a rfl).elim
theorem df(kvs:List (κ×V))(k:κ)(v:V):(bL kvs k v).length<=kvs.length+1:=by
 unfold bL
 split
 ·rw[CP];omega
 ·rw[Df,C5,List.length_nil];omega
theorem kA{kvs:List (κ×V)}{k:κ}(v:V)(h:bf kvs k=none):bL kvs k v=kvs++[(k,v)]:=by
 unfold bL;rw[dl,h];exact if_neg (by decide)
theorem fj.isSome_eq{o:Option V}{u:Option Value}(r:fj o u):o.isSome=u.isSome:=by
 cases o with
 |none=>cases u with
  |none=>rfl
  |some _=>exact(show False from r).elim
 |some _=>cases u with
  |none=>exact(show False from r).elim
  |some _=>rfl
theorem fj.getD{o:Option V}{u:Option Value}{d:V}{d':Value}(r:fj o u)(rd:aG d d'):aG (o.getD d) (u.getD d'):=by
 cases o with
 |none=>cases u with
  |none=>exact rd
  |some _=>exact(show False from r).elim
 |some _=>cases u with
  |none=>exact(show False from r).elim
  |some _=>exact r
theorem KV.val{kvs:List (κ×V)}{vs:List (κ×Value)}(r:KV kvs vs)(k:κ):fj (bf kvs k) (valueAt vs k):=by
 unfold KV at r
 induction r with
 |nil=>exact True.intro
 | @cons p q ps qs h t ih=>
  obtain⟨h1,h2⟩:=h
  by_cases e:p.1=k
  ·have e':q.1=k:=h1.symm.trans e
   have b:valueAt (q::qs) k=some q.2:=by simp[valueAt,List.find?_cons,e']
   rw[bU e,b];exact h2
  ·have e':¬ q.1=k:=fun z=>e (h1.trans z)
   have b:valueAt (q::qs) k=valueAt qs k:=by simp[valueAt,List.find?_cons,e']
   rw[bT e,b];exact ih
theorem KV.any{kvs:List (κ×V)}{vs:List (κ×Value)}(r:KV kvs vs)(k:κ):(kvs.any fun kv=>decide (kv.1=k))=vs.any fun kv=>decide (kv.1=k):=by
 unfold KV at r
 induction r with
 |nil=>rfl
 |cons h t ih=>rw[List.any_cons,List.any_cons,ih,h.1]
theorem KV.repl{kvs:List (κ×V)}{vs:List (κ×Value)}(r:KV kvs vs)(k:κ){y:V}{u:Value}(ry:aG y u) :
  KV (kvs.map fun kv=>if kv.1=k then(kv.1,y) else kv) (vs.map fun kv=>if kv.1=k then(kv.1,u) else kv):=by
 unfold KV at r ⊢
 induction r with
 |nil=>exact .nil
 | @cons p q ps qs h t ih=>
  rw[Dl,Dl];refine .cons ?_ ih;obtain⟨h1,h2⟩:=h
  by_cases e:p.1=k
  ·rw[if_pos e,if_pos (h1.symm.trans e)];exact⟨h1,ry⟩
  ·rw[if_neg e,if_neg (fun z=>e (h1.trans z))];exact⟨h1,h2⟩
theorem KV.put{kvs:List (κ×V)}{vs:List (κ×Value)}(r:KV kvs vs)(k:κ){y:V}{u:Value}(ry:aG y u):KV (bL kvs k y) (stored vs k u):=by
 unfold bL stored;rw[r.any k]
 by_cases e:(vs.any fun kv=>decide (kv.1=k))=true
 ·rw[if_pos e,if_pos e];exact r.repl k ry
 ·rw[if_neg e,if_neg e];exact Paired.snoc r ⟨rfl,ry⟩
theorem KV.length{kvs:List (κ×V)}{vs:List (κ×Value)}(r:KV kvs vs):kvs.length=vs.length:=Paired.length r
end
theorem lj{P:Program}{w:World}{k:bS}{u:Value}(r:aG (kV k) u):(bi P w).is k u=true:=by
 cases k with
 |inl i=>obtain⟨t,e⟩:=(show ∃t,u=Value.int i t from r);subst e;exact pw P w i t
 |inr x=>obtain⟨t,e⟩:=(show ∃t,u=Value.str x t from r);subst e;exact pP P w x t
theorem mB{P:Program}{w:World}:∀{ks:List bS} {us:List Value},aH (ks.map kV) us->ItemsAre (bi P w) ks us
 | [],_,r=>by rw[List.map_nil]at r;cases r;exact .nil
 |k::ks,_,r=>by
  rw[Dl]at r;cases r with
  |cons h t=>exact .cons (lj h) (mB t)
noncomputable abbrev KT(H:Hp):List (List bS×V)->List (List bS×Addr×Value)->Prop:=Paired fun p q=>p.1=q.1/\H q.2.1=some (.tup (p.1.map kV))/\aG p.2 q.2.2
theorem KT.val{H:Hp}{kvs:List (List bS×V)}{xs:List (List bS×Addr×Value)}(r:KT H kvs xs)(k:List bS):fj (bf kvs k) ((atKey xs k).map (·.2)):=by
 induction r with
 |nil=>exact True.intro
 | @cons p q ps qs h t ih=>
  obtain⟨h1,_,h2⟩:=h
  by_cases e:p.1=k
  ·have e':q.1=k:=h1.symm.trans e
   have b:atKey (q::qs) k=some q.2:=by simp[atKey,List.find?_cons,e']
   rw[bU e,b];exact h2
  ·have e':¬ q.1=k:=fun z=>e (h1.trans z)
   have b:atKey (q::qs) k=atKey qs k:=by simp[atKey,List.find?_cons,e']
   rw[bT e,b];exact ih
theorem KT.repl{H:Hp}{kvs:List (List bS×V)}{xs:List (List bS×Addr×Value)}(r:KT H kvs xs)(k:List bS){y:V}{u:Value}(ry:aG y u) :
  KT H (kvs.map fun kv=>if kv.1=k then(kv.1,y) else kv) (xs.map (putAt k u)):=by
 induction r with
 |nil=>exact .nil
 | @cons p q ps qs h t ih=>
  rw[Dl,Dl];refine .cons ?_ ih;obtain⟨h1,h2,h3⟩:=h;unfold putAt
  by_cases e:p.1=k
  ·rw[if_pos e,if_pos (h1.symm.trans e)];exact⟨h1,h2,ry⟩
  ·rw[if_neg e,if_neg (fun z=>e (h1.trans z))];exact⟨h1,h2,h3⟩
theorem KT.put{H:Hp}{kvs:List (List bS×V)}{xs:List (List bS×Addr×Value)}(r:KT H kvs xs)(k:List bS){b:Addr}{y:V}{u:Value}(hb:H b=some (.tup (k.map kV)))(ry:aG y u) :
  KT H (bL kvs k y) (storedH xs k b u):=by
 have e:(kvs.any fun kv=>decide (kv.1=k))=(atKey xs k).isSome:=by
  rw[dl,(r.val k).isSome_eq,Option.isSome_map]
 unfold bL storedH;rw[e]
 by_cases q:(atKey xs k).isSome=true
 ·rw[if_pos q,if_pos q];exact r.repl k ry
 ·rw[if_neg q,if_neg q];exact Paired.snoc r ⟨rfl,hb,ry⟩
theorem KT.keeps{H H':Hp}{kvs:List (List bS×V)}{xs:List (List bS×Addr×Value)}(r:KT H kvs xs)(ht:∀b ys,H b=some (.tup ys)->H' b=some (.tup ys)):KT H' kvs xs:=
 Paired.mapP r fun _ _ z=>⟨z.1,ht _ _ z.2.1,z.2.2⟩
section
variable {P:Program}{w:World}{H:Hp}{h:Heap}{a:Addr}
theorem xY{u:HO}(ok:ip P w H h)(e:Rd H a u):aX P w H h a u:=e.ok ok
theorem lx{kvs:List (bS×V)}(ok:ip P w H h)(e:Rd H a (.dK kvs)):kvs.length<=sizeLine/\(a==sysModules)=false/\∃vs,KV kvs vs/\h.DictOf (bi P w) a vs:=
 show aX P w H h a (.dK kvs) from xY ok e
theorem vJ{kvs:List (bS×V)}(ok:ip P w H h)(e:H a=some (.dK kvs)):kvs.length<=sizeLine/\(a==sysModules)=false/\∃vs,KV kvs vs/\h.DictOf (bi P w) a vs:=lx ok (.inl e)
theorem k7{ks:List bS}(ok:ip P w H h)(e:H a=some (.tup (ks.map kV))):(tupleKind (bi P w)).is h ks a:=by
 obtain⟨_,its,r,o,h1,h2,n,h3⟩:=(show aX P w H h a (.tup (ks.map kV)) from ok a _ e);exact⟨o,its.toArray,n,h1,h2,h3,by simpa using mB r⟩
theorem mH{kvs:List (List bS×V)}(ok:ip P w H h)(e:Rd H a (.dT kvs)):kvs.length<=sizeLine/\(a==sysModules)=false /\
  ∃xs,KT H kvs xs/\h.DictOfH (tupleKind (bi P w)) a xs:=by
 obtain⟨z,y,xs,r,o,es,ep,h1,h2,h3,h4,h5⟩:=(show aX P w H h a (.dT kvs) from xY ok e);refine⟨z,y,xs,r,o,es,ep,h1,h2,h3,h4,fun x hx=>?_,h5⟩;have all:∀{l:List (List bS×V)} {m:List (List bS×Addr×Value)},KT H l m->∀x∈m,(tupleKind (bi P w)).is h x.1 x.2.1:=by
  intro l m q
  induction q with
  |nil=>intro x hx;exact nomatch hx
  | @cons p q ps qs hq t ih=>
   intro x hx;rcases C9.mp hx with e | hx
   ·subst e
    exact k7 ok (by rw[<- hq.1];exact hq.2.1)
   ·exact ih x hx
 exact all r x hx
theorem zG{kvs:List (List bS×V)}(ok:ip P w H h)(e:H a=some (.dT kvs)):kvs.length<=sizeLine/\(a==sysModules)=false /\
  ∃xs,KT H kvs xs/\h.DictOfH (tupleKind (bi P w)) a xs:=mH ok (.inl e)
end
noncomputable def dN(H:Hp)(a:Addr)(y:V)(r:Option V):Prop:=
 (∃kvs k,Rd H a (.dK kvs)/\y=kV k/\r=bf kvs k)\/∃kvs k b,Rd H a (.dT kvs)/\y=.ref b/\H b=some (.tup (k.map kV))/\r=bf kvs k
noncomputable def sf(H:Hp)(a:Addr)(y v:V)(H':Hp):Prop:=
 (∃kvs k,H a=some (.dK kvs)/\y=kV k/\kvs.length<sizeLine/\H'=ar H a (.dK (bL kvs k v))) \/
 ∃kvs k b,H a=some (.dT kvs)/\y=.ref b/\H b=some (.tup (k.map kV))/\kvs.length<sizeLine/\H'=ar H a (.dT (bL kvs k v))
theorem dN.t{H:Hp}{a b:Addr}{kvs:List (List bS×V)}{k:List bS}(e:H a=some (.dT kvs))(eb:H b=some (.tup (k.map kV))):dN H a (.ref b) (bf kvs k):=.inr ⟨kvs,k,b,.inl e,rfl,eb,rfl⟩
theorem sf.t{H:Hp}{a b:Addr}{kvs:List (List bS×V)}{k:List bS}{v:V}(e:H a=some (.dT kvs))(eb:H b=some (.tup (k.map kV)))(hl:kvs.length<sizeLine) :
  sf H a (.ref b) v (ar H a (.dT (bL kvs k v))):=.inr ⟨kvs,k,b,e,rfl,eb,hl,rfl⟩
section
variable {X:Cx}{pins:List (Addr×Obj)}{σ:St}{H:Hp}{s:Shared}{a:Addr}{y v:V}{u r:Value}{o:Option V}{A:Around}{E:Value->Shared->Prop}
theorem Inv.big(I:Inv X pins σ H s):sysModules<s.heap.objs.size:=by
 have h:mainGlobals<s.heap.objs.size:=(I.mod.glob.keeps I.bk).lt;exact Nat.lt_trans (by decide) h
theorem uz{Q:Value->Shared->Prop}(hu:A.units+1<cLine)(I:Inv X pins σ H s)(g:dN H a y (some v))(ry:aG y u)(h:∀w' s',Inv X pins σ H s'->aG v w'->Q w' s') :
  wpAny (model X.prog X.w) A (getItem (.ref a) u) Q E s:=by
 rcases g with⟨kvs,k,e,ey,l⟩ | ⟨kvs,k,b,e,ey,eb,l⟩
 ·subst ey
  obtain⟨z,hd,vs,rel,dd⟩:=lx I.hok e;obtain⟨w',hw,rw'⟩:=fj.some_of (v:=v) (o:=valueAt vs k) (by rw[l];exact rel.val k);exact wpAny_getItem_of (lj ry) dd.mapOf hw (h w' _ (I.tok _) rw')
 ·subst ey
  cases(show u=Value.ref b from ry);obtain⟨z,hd,xs,rel,dd⟩:=mH I.hok e;obtain⟨w',hw,rw'⟩:=fj.some_of (v:=v) (o:=(atKey xs k).map (·.2)) (by rw[l];exact rel.val k);obtain⟨p,hp,hp2⟩:=Option.map_eq_some_iff.mp hw;refine wpAny_getItem_heap (tupleKind_room_in1 hu) (k7 I.hok eb) dd hp ?_;rw[hp2];exact h w' _ (I.tok _) rw'
theorem xc{Q:Value->Shared->Prop}(hu:A.units+1<cLine)(I:Inv X pins σ H s)(g:dN H a y o)(ry:aG y u)(h:∀s',Inv X pins σ H s'->Q (.bool (!o.isSome)) s') :
  wpAny (model X.prog X.w) A (compareOp .NotIn u (.ref a)) Q E s:=by
 rcases g with⟨kvs,k,e,ey,l⟩ | ⟨kvs,k,b,e,ey,eb,l⟩
 ·subst ey
  obtain⟨z,hd,vs,rel,dd⟩:=lx I.hok e;refine wpAny_notIn_of (lj ry) hd dd.mapOf ?_;rw[<- (rel.val k).isSome_eq,<- l];exact h _ (I.tok _)
 ·subst ey
  cases(show u=Value.ref b from ry);obtain⟨z,hd,xs,rel,dd⟩:=mH I.hok e;refine wpAny_notIn_heap (tupleKind_room_in1 hu) (k7 I.hok eb) hd dd ?_;have q:=(rel.val k).isSome_eq;rw[Option.isSome_map]at q;rw[<- q,<- l];exact h _ (I.tok _)
theorem kr{h':Heap}{t':Nat}{ob:HO}(I:Inv X pins σ H s)(mu:zt (H a))(hs:Heap.SameBut a s.heap h')(he:∃q,h'.get? a=some q)(new:aX X.prog X.w (ar H a ob) h' a ob) :
  Inv X pins σ (ar H a ob) {s with heap:=h',toks:=t' }:=
 I.write (x:=a) (e:=a) mu (.inl rfl) (fun b q hb z=>(hs.2 b hb).trans z) he new
theorem qP{P:Program}{w:World}{H':Hp}{h':Heap}{kvs:List (bS×V)}{vs:List (bS×Value)}(z:kvs.length<=sizeLine)(hd:(a==sysModules)=false)(rel:KV kvs vs)(dd:h'.DictOf (bi P w) a vs) :
  aX P w H' h' a (.dK kvs):=⟨z,hd,vs,rel,dd⟩
theorem tK{H':Hp}{Q:Unit->Shared->Prop}(hu:A.units+1<cLine)(I:Inv X pins σ H s)(g:sf H a y v H')(ry:aG y u)(rv:aG v r)(h:∀s',Inv X pins σ H' s'->Q () s') :
  wpAny (model X.prog X.w) A (setItem (.ref a) u r) Q E s:=by
 rcases g with⟨kvs,k,e,ey,l,eH⟩ | ⟨kvs,k,b,e,ey,eb,l,eH⟩
 ·subst ey eH
  obtain⟨z,hd,vs,rel,dd⟩:=vJ I.hok e;have hz:vs.length<=sizeLine:=by rw[<- rel.length];exact z
  have hl:(bL kvs k v).length<=sizeLine:=by have:=df kvs k v;omega
  refine wpAny_setItem_pairs (hsz:=hz) (lj ry) dd fun h' dd' hs=>h _ ?_;have he:∃q,h'.get? a=some q:=let ⟨q,_,_,hq,_⟩:=dd';⟨q,hq⟩
  exact kr I (by rw[e];exact True.intro) hs he (qP hl hd (rel.put k rv) dd')
 ·subst ey eH
  cases(show u=Value.ref b from ry);obtain⟨z,hd,xs,rel,dd⟩:=zG I.hok e;have hz:xs.length<=sizeLine:=by rw[<- Paired.length rel];exact z
  have hl:(bL kvs k v).length<=sizeLine:=by have:=df kvs k v;omega
  refine wpAny_setItem_heap (hsz:=hz) (tupleKind_room_in1 hu) (k7 I.hok eb) dd fun h' dd' hs=>h _ ?_;obtain⟨q,es,ep,hq,h2,h3,h4,_,h5⟩:=dd';refine kr I (by rw[e];exact True.intro) hs ⟨q,hq⟩ ⟨hl,hd,_,(rel.put k eb rv).keeps fun c ys ec=>?_,q,es,ep,hq,h2,h3,h4,h5⟩;rw[ah (zl ec e (fun z=>nomatch z))];exact ec
end
section
variable {X:Cx}{pins:List (Addr×Obj)}{σ:St}{H:Hp}{s:Shared}{a:Addr}{kvs:List (bS×V)}{k:bS}{u:Value}{A:Around}{E:Value->Shared->Prop}
theorem zh{Q:Value->Shared->Prop}(I:Inv X pins σ H s)(e:Rd H a (.dK kvs))(h:∀t s',Inv X pins σ H s'->Q (.int kvs.length t) s'):wpAny (model X.prog X.w) A (call (.builtin "len") [.ref a]) Q E s:=by
 obtain⟨z,hd,vs,rel,dd⟩:=lx I.hok e;refine call_len_dict hd dd (by rw[<- rel.length];rw[sizeLine_eq]at z;omega) ?_;rw[<- rel.length];exact h _ _ (I.tok _)
end
noncomputable def zm(i:Expr):Prop:=∀ov iv,subscripted i false ov iv=operate [ov,iv] (getItem ov iv)
theorem wZ{prog:Program}{w:World}{A:Around}{E:Value->Shared->Prop}{s:Shared}{env:Env}{value slice:Expr}{pos:Pos}{T id:String}{Q:Value->Shared->Prop}
  (hl:typeLookup (.type T) "__getitem__"=pure (some (.builtin id))) (hs:zm slice)
  (h:wpAny (model prog w) A (eval value env) (fun o s₁=>wpAny (model prog w) A (eval slice env) (fun i s₂=>s₂.TypeIs o T/\wpAny (model prog w) A (getItem o i) Q E s₂) E s₁) E s) :
  wpAny (model prog w) A (eval (.Subscript value slice pos) env) Q E s:=by
 refine Subscript_ (wpAny_mono h (fun o s₁ h₁=>wpAny_mono h₁ (fun i s₂ h₂=>?_) fun _ _ x=>x) fun _ _ x=>x);obtain⟨hT,h₂⟩:=h₂;unfold subscriptTail;refine wpAny_bind ?_;rw[getitemInPython_of_ne hT.not_modules];refine wpAny_bind (wpAny_specialOf hT hl ?_);have fin:wpAny (model prog w) A (subscripted slice false o i) (fun r s₃=>wpAny (model prog w) A (letTemporaryGo value o r >>= fun _=>pure r) Q E s₃) E s₂:=by
  rw[hs o i];exact wpAny_operating (wpAny_mono h₂ (fun r s₃ h₃=>wpAny_bind (wpAny_letTemporaryGo (wpAny_pure h₃))) fun _ _ x=>x)
 first
  |exact wpAny_pure (wpAny_bind fin)
  |exact wpAny_bind (wpAny_pure (wpAny_bind fin))
  |exact wpAny_bind fin
theorem pI{X:Cx}{pins:List (Addr×Obj)}{σ:St}{H:Hp}{s:Shared}{a:Addr}{y:V}{o:Option V}(I:Inv X pins σ H s)(g:dN H a y o):s.TypeIs (.ref a) "dict":=by
 rcases g with⟨kvs,k,e,_,_⟩ | ⟨kvs,k,b,e,_,_,_⟩
 ·obtain⟨_,_,vs,_,dd⟩:=lx I.hok e
  exact dd.typeIs
 ·obtain⟨_,_,xs,_,dd⟩:=mH I.hok e
  exact dd.typeIs
noncomputable def wF(td ty:TE):TE:=fun σ H Q=>td σ H fun x H1=>ty σ H1 fun y H2=>∃a v,x=.ref a/\dN H2 a y (some v)/\Q v H2
noncomputable def oj(ty td:TE):TE:=fun σ H Q=>ty σ H fun y H1=>td σ H1 fun x H2=>∃a o,x=.ref a/\dN H2 a y o/\Q (.bl (!o.isSome)) H2
noncomputable def vz(td ty tv:TE):TS:=fun D σ H=>tv σ H fun v H1=>td σ H1 fun x H2=>ty σ H2 fun y H3=>∃a H4,x=.ref a/\sf H3 a y v H4/\D.nx σ H4
section
variable {X:Cx}{o i e value:Expr}{pos pos' tpos:Pos}{td ty tv:TE}
theorem om(hu:X.A.units+1<cLine)(ho:PE X o td)(hi:PE X i ty)(hs:zm i):PE X (.Subscript o i pos) (wF td ty):=by
 intro pins s σ H Q I h;refine wZ PySem.F.slot_dict_getitem.lookup hs (bq (ho pins s σ H _ I h) fun u s1 ⟨x,H1,I1,rx,q1⟩=>bq (hi pins s1 σ H1 _ I1 q1) fun iv s2 ⟨y,H2,I2,ry,a,v,ex,g,q2⟩=>?_);subst ex;obtain rfl:u=Value.ref a:=rx;exact⟨pI I2 g,uz hu I2 g ry fun w' s3 I3 rw'=>⟨v,H2,I3,rw',q2⟩⟩
theorem mD(hu:X.A.units+1<cLine)(hi:PE X i ty)(ho:PE X o td):PC X .NotIn i o (oj ty td):=by
 intro pins s σ H Q I h;refine bq (hi pins s σ H _ I h) fun iv s1 ⟨y,H1,I1,ry,q1⟩=>bq (ho pins s1 σ H1 _ I1 q1) fun u s2 ⟨x,H2,I2,rx,a,ov,ex,g,q2⟩=>?_;subst ex;obtain rfl:u=Value.ref a:=rx;exact xc hu I2 g ry fun s3 I3=>⟨.bl (!ov.isSome),H2,I3,rfl,q2⟩
theorem oN(hu:X.A.units+1<cLine)(ho:PE X o td)(hi:PE X i ty)(hv:PE X value tv)(hs:swapsWith value (some (.Subscript o i pos')) pos.line X.env=pure false) :
  PS X (.Assign [.Subscript o i pos'] value pos) (vz td ty tv):=by
 intro pins s σ H D I h;refine wpAny_Assign_Subscript (bq (hv pins s σ H _ I h) fun r s1 ⟨v,H1,I1,rv,q1⟩=>bq (ho pins s1 σ H1 _ I1 q1) fun u s2 ⟨x,H2,I2,rx,q2⟩=>bq (hi pins s2 σ H2 _ I2 q2) fun iv s3 ⟨y,H3,I3,ry,a,H4,ex,g,q3⟩=>?_) hs;subst ex;obtain rfl:u=Value.ref a:=rx;exact tK hu I3 g ry rv fun s4 I4=>⟨σ,H4,I4,q3⟩
end
theorem vF{P:Program}{w:World}{H:Hp}(h:Heap)(hb:sysModules<h.objs.size):aX P w H (h.push {cls:=.type "dict",data:=.dict #[]}) h.objs.size (.dK []):=
 ⟨Dh _,beq_eq_false_iff_ne.mpr (Ne.symm (Db hb)),[],.nil,Heap.DictOf.new h⟩
theorem vw{P:Program}{w:World}{H:Hp}(h:Heap)(hb:sysModules<h.objs.size):aX P w H (h.push {cls:=.type "dict",data:=.dict #[]}) h.objs.size (.dT []):=
 ⟨Dh _,beq_eq_false_iff_ne.mpr (Ne.symm (Db hb)),[],.nil,_,#[],0,CW _ rfl,⟨rfl,rfl,rfl⟩,rfl,rfl,List.nodup_nil⟩
noncomputable def qJ:TE:=fun _ H Q=>∀p,H p=none->Q (.ref p) (ar H p (.dT []))
section
variable {X:Cx}{pos:Pos}
theorem lB:PE X (.Dict [] [] pos) qJ:=fun pins s σ H Q I h=>
 wpAny_Dict_empty ⟨.ref s.heap.objs.size,_,I.laid (a:=s.heap.objs.size) (o:=.dT []) (t':=s.toks) (fun _ _ q=>CO _ q) (Dg _) (vw s.heap I.big),rfl,h _ (I.hok.fresh (Dg _))⟩
end
noncomputable def kT:List (TE×TE)->St->Hp->(List (V×V)->Hp->Prop)->Prop
 | [],_,H,Q=>Q [] H
 | (tk,tv)::r,σ,H,Q=>tk σ H fun x H1=>tv σ H1 fun y H2=>kT r σ H2 fun ps H3=>Q ((x,y)::ps) H3
noncomputable abbrev VV:List (V×V)->List (Value×Value)->Prop:=Paired fun p q=>aG p.1 q.1/\aG p.2 q.2
noncomputable def zK(X:Cx)(pos:Pos)(keys:List (Option Expr))(values:List Expr)(trs:List (TE×TE)):Prop:=
 ∀(pins:List (Addr×Obj)) (s:Shared) (σ:St) (H:Hp) (Q:List (V×V)->Hp->Prop),Inv X pins σ H s->kT trs σ H Q ->
  wpAny (model X.prog X.w) X.A (evalPairs (pairTrees keys values X.env pos)) (fun vs s'=>∃ps H',Inv X pins σ H' s'/\VV ps vs/\Q ps H') X.xe s
theorem xG{X:Cx}{pos:Pos}:zK X pos [] [] []:=fun pins s σ H Q I h=>pairTrees_nil_walk ⟨[],H,I,.nil,h⟩
theorem v8{X:Cx}{pos:Pos}{k v:Expr}{ks:List (Option Expr)}{vs:List Expr}{tk tv:TE}{trs:List (TE×TE)}(hk:PE X k tk)(hv:PE X v tv)(hr:zK X pos ks vs trs) :
  zK X pos (some k::ks) (v::vs) ((tk,tv)::trs):=fun pins s σ H Q I h=>
 pairTrees_cons_walk (bq (hk pins s σ H _ I h) fun u s1 ⟨x,H1,I1,rx,q1⟩=>bq (hv pins s1 σ H1 _ I1 q1) fun w2 s2 ⟨y,H2,I2,ry,q2⟩=>
  bq (hr pins s2 σ H2 _ I2 q2) fun ws s3 ⟨ps,H3,I3,rel,q3⟩=>⟨(x,y)::ps,H3,I3,.cons ⟨rx,ry⟩ rel,q3⟩)
noncomputable def kI(kvs more:List (bS×V)):List (bS×V):=more.foldl (fun acc kv=>bL acc kv.1 kv.2) kvs
theorem KV.merge:∀{more:List (bS×V)} {rs:List (bS×Value)} {kvs:List (bS×V)} {vs:List (bS×Value)},KV more rs->KV kvs vs->KV (kI kvs more) (merged vs rs):=by
 intro more rs kvs vs r;unfold KV at r
 induction r generalizing kvs vs with
 |nil=>intro q;exact q
 | @cons p q ps qs h t ih=>
  intro r0;have e:KV (bL kvs p.1 p.2) (stored vs q.1 q.2):=by
   have:=r0.put p.1 h.2;rw[<- h.1];exact this
  exact ih e
theorem iF:∀(more kvs:List (bS×V)),(kI kvs more).length<=kvs.length+more.length
 | [],kvs=>by show kvs.length<=kvs.length+0;omega
 |p::r,kvs=>by
  have h1:=iF r (bL kvs p.1 p.2);have h2:=df kvs p.1 p.2;show(kI (bL kvs p.1 p.2) r).length<=_;rw[C5];omega
theorem lh{P:Program}{w:World}:∀{kvs:List (bS×V)} {ws:List (Value×Value)},VV (kvs.map fun kv=>(kV kv.1,kv.2)) ws->∃rs,Carries (bi P w) ws rs/\KV kvs rs
 | [],_,r=>by rw[List.map_nil]at r;cases r;exact⟨[],True.intro,.nil⟩
 |p::kvs,_,r=>by
  rw[Dl]at r;cases r with
  | @cons a b as bs h t=>
   obtain⟨rs,c,q⟩:=lh (P:=P) (w:=w) t;obtain⟨b1,b2⟩:=b;exact⟨(p.1,b2)::rs,⟨lj h.1,rfl,c⟩,.cons ⟨rfl,h.2⟩ q⟩
noncomputable def vP(trs:List (TE×TE)):TE:=fun σ H Q=>∀p,H p=none->kT trs σ (ar H p (.dK [])) fun ps H2=>H2 p=some (.dK [])/\∃kvs:List (bS×V),ps=kvs.map (fun kv=>(kV kv.1,kv.2))/\kvs.length<=15/\Q (.ref p) (ar H2 p (.dK (kI [] kvs)))
theorem xU{X:Cx}{pos:Pos}{keys:List (Option Expr)}{values:List Expr}{trs:List (TE×TE)}(h:zK X pos keys values trs)(hall:keys.all (·.isSome)=true)(hl:keys.length=values.length)(h0:keys≠[])
  (h15:keys.length<=15):PE X (.Dict keys values pos) (vP trs):=by
 intro pins s σ H Q I q;have hn:=I.hok.fresh (Dg s.heap.objs.size);have I1:=I.laid (a:=s.heap.objs.size) (o:=.dK []) (h':=s.heap.push {cls:=.type "dict",data:=.dict #[]}) (t':=s.toks) (fun _ _ q=>CO _ q) (Dg _) (vF s.heap I.big);refine wpAny_Dict_walk (knd:=bi X.prog X.w) hall hl h0 h15 (bq (h pins _ σ _ _ I1 (q _ hn)) fun ws s2 ⟨ps,H2,I2,rel,e,kvs,ep,lk,q2⟩=>?_);subst ep;obtain⟨rs,c,rk⟩:=lh (P:=X.prog) (w:=X.w) rel;obtain⟨z,hd,vs0,r0,dd⟩:=vJ I2.hok e;cases r0;refine⟨rs,c,dd,fun h' dd' hs=>⟨.ref s.heap.objs.size,_,?_,rfl,q2⟩⟩;have hz:(kI [] kvs).length<=sizeLine:=by
  have h1:=iF kvs [];rw[List.length_nil]at h1;rw[sizeLine_eq];omega
 have he:∃q,h'.get? s.heap.objs.size=some q:=let ⟨q,_,_,hq,_⟩:=dd';⟨q,hq⟩
 exact kr I2 (by rw[e];exact True.intro) hs he (qP hz hd (rk.merge .nil) dd')
structure M1(X:Cx)(o:Expr)(m:Str)(apos:Pos)(e:Expr)(cpos:Pos):Prop where
 base:attributeBase o m X.env (eval o X.env)=eval o X.env
 few:((backTo cpos (starEach [e] X.env)).all (fun x=>!x.1)&&(backToKw cpos (keywordEach [] X.env)).all (fun x=>x.1.isSome)
  && decide (([e]:List Expr).length+([]:List Keyword).length+(if([]:List Keyword).isEmpty then 0 else 1)<30))=true
 line:(apos.endLine==cpos.line)=true
 trees:backTo cpos (starEach [e] X.env)=[(false,eval e X.env)]
structure M2(X:Cx)(o:Expr)(m:Str)(apos:Pos)(e f:Expr)(cpos:Pos):Prop where
 base:attributeBase o m X.env (eval o X.env)=eval o X.env
 few:((backTo cpos (starEach [e,f] X.env)).all (fun x=>!x.1)&&(backToKw cpos (keywordEach [] X.env)).all (fun x=>x.1.isSome)
  && decide (([e,f]:List Expr).length+([]:List Keyword).length+(if([]:List Keyword).isEmpty then 0 else 1)<30))=true
 line:(apos.endLine==cpos.line)=true
 trees:backTo cpos (starEach [e,f] X.env)=[(false,eval e X.env),(false,eval f X.env)]
noncomputable def zd(H:Hp)(a:Addr):Prop:=(∃kvs,Rd H a (.dK kvs))\/∃kvs,Rd H a (.dT kvs)
theorem vx{X:Cx}{pins:List (Addr×Obj)}{σ:St}{H:Hp}{s:Shared}{a:Addr}(I:Inv X pins σ H s)(d:zd H a) :
  s.TypeIs (.ref a) "dict"/\(∀b,Value.ref a=.ref b->∃ob,s.heap.get? b=some ob/\ob.dict=none)/\(a==sysModules)=false:=by
 rcases d with⟨kvs,e⟩ | ⟨kvs,e⟩
 ·obtain⟨_,hd,vs,_,dd⟩:=lx I.hok e
  refine⟨dd.typeIs,fun b q=>?_,hd⟩;cases q;obtain⟨ob,_,_,h1,h2,_⟩:=dd;exact⟨ob,h1,h2.2.1⟩
 ·obtain⟨_,hd,xs,_,dd⟩:=mH I.hok e
  refine⟨dd.typeIs,fun b q=>?_,hd⟩;cases q;obtain⟨ob,_,_,h1,h2,_⟩:=dd;exact⟨ob,h1,h2.2.1⟩
section
variable {X:Cx}{pins:List (Addr×Obj)}{σ:St}{H:Hp}{s:Shared}{a:Addr}{y d:V}{u r:Value}{o:Option V}{A:Around}{E:Value->Shared->Prop}
theorem yl{Q:Value->Shared->Prop}(hu:A.units+1<cLine)(I:Inv X pins σ H s)(g:dN H a y o)(ry:aG y u)(rd:aG d r)(h:∀w' s',Inv X pins σ H s'->aG (o.getD d) w'->Q w' s') :
  wpAny (model X.prog X.w) A (call (.builtin "dict.get") [.ref a,u,r]) Q E s:=by
 rcases g with⟨kvs,k,e,ey,l⟩ | ⟨kvs,k,b,e,ey,eb,l⟩
 ·subst ey
  obtain⟨z,hd,vs,rel,dd⟩:=lx I.hok e;refine call_meetsIn PySem.F.slot_dict_get dd.typeIs PySem.F.entry_dict_get (PySem.F.args_dict_get_3 _ _ _) (meets_dict_get_default (bi X.prog X.w) a (lj ry) hd r) ⟨_,dd.mapOf,h _ _ (I.tok _) ?_⟩;rw[l];exact(rel.val k).getD rd
 ·subst ey
  cases(show u=Value.ref b from ry);obtain⟨z,hd,xs,rel,dd⟩:=mH I.hok e;refine call_meetsIn PySem.F.slot_dict_get dd.typeIs PySem.F.entry_dict_get (PySem.F.args_dict_get_3 _ _ _) (meetsH_dict_get_default (tupleKind (bi X.prog X.w)) a b hd r) ⟨tupleKind_room_in1 hu,k,xs,k7 I.hok eb,dd,h _ _ (I.tok _) ?_⟩;rw[l];exact(rel.val k).getD rd
end
noncomputable def r9(td ty tx:TE):TE:=fun σ H Q=>td σ H fun x H1=>∃a,x=.ref a/\zd H1 a/\ty σ H1 fun y H2=>tx σ H2 fun z H3=>∃o,dN H3 a y o/\Q (o.getD z) H3
section
variable {X:Cx}{o e f:Expr}{apos cpos:Pos}{td ty tx:TE}
theorem dU(hu:X.A.units+1<cLine)(ho:PE X o td)(he:PE X e ty)(hf:PE X f tx)(m:M2 X o "get" apos e f cpos):PE X (.Call (.Attribute o "get" apos) [e,f] [] cpos) (r9 td ty tx):=by
 intro pins s σ H Q I h;refine wpAny_Call_method m.base m.few m.line PySem.F.plainAttrs_dict PySem.F.slot_dict_get PySem.F.type_dict_get (bq (ho pins s σ H _ I h) fun u s1 ⟨x,H1,I1,rx,a,ex,d,q1⟩=>?_);subst ex;obtain rfl:u=Value.ref a:=rx;obtain⟨t1,t2,_⟩:=vx I1 d;refine⟨t1,t2,?_⟩;rw[m.trees];refine Calls.callWith_builtin rfl (Calls.evalArgs_plain (Calls.spliced_cons (bq (he pins s1 σ H1 _ I1 q1) fun iv s2 ⟨y,H2,I2,ry,q2⟩=>
  Calls.spliced_cons (bq (hf pins s2 σ H2 _ I2 q2) fun fv s3 ⟨z,H3,I3,rz,ov,g,q3⟩=>Calls.spliced_nil ?_))))
 exact yl hu I3 g ry rz fun w' s4 I4 rw'=>⟨_,H3,I4,rw',q3⟩
end
section
variable {X:Cx}{pins:List (Addr×Obj)}{σ:St}{H:Hp}{s:Shared}{a:Addr}{kvs:List (bS×V)}{A:Around}{E:Value->Shared->Prop}
end
section
variable {X:Cx}{pins:List (Addr×Obj)}{σ:St}{H:Hp}{s:Shared}{a:Addr}{y:V}{u:Value}{A:Around}{E:Value->Shared->Prop}
end
end L2
namespace Att
open PySem PySem.W PySem.Calls PyProof.Rows
theorem kh{P:Params}{h:Heap}:∀(ns:List Int) (vs:List Value),WellAll P h vs (ns.map WData.int)->IntsAre vs ns:=by
 intro ns
 induction ns with
 |nil=>
  intro vs w;rw[List.map_nil]at w;cases w;exact .nil
 |cons n ns ih=>
  intro vs w;rw[Dl]at w;cases w with
  |cons a b=>
   cases a;exact .cons _ _ (ih _ b)
theorem tu{l:OpenLaw}{n:Nat}(hn:l.most=some n){P:Params}{h:Heap}{args:List WData}{vals:List Value}
  (hpre:l.row.toRowW.claim.pre args=true) (hwl:WellAll P h vals args) :
  ∃a vs ns,vals=[Value.ref a]/\args=[WData.list (ns.map WData.int)]/\h.get? a=some {cls:=.type "list",data:=.seq vs.toArray}/\IntsAre vs ns/\ns.length<=n:=by
 have hsh:WShape.hasAll [] args [.list .int]=true:=(pre_splitW hpre).1;have hc:l.pre.holds [] {args:=args}=true:=(pre_splitW hpre).2;obtain⟨d,r,rfl,h1,h2⟩:=hasAllW_cons hsh;obtain rfl:=hasAllW_nil h2;obtain⟨xs,rfl,h3⟩:=hasW_list h1;obtain⟨ns,rfl⟩:=items_int h3;have hlen:ns.length<=n:=by
  unfold OpenLaw.pre at hc;have h4:(WTm.not (.lt (.lit (.int (n:Int))) (.len (.arg 0)))).holds [] {args:=[.list (ns.map .int)]}=true:=by
   have h4:=(holds_andW hc).1;rw[hn]at h4;exact h4
  have h5:=condW_of h4 (w_not (w_lt w_lit (w_len_list (w_arg rfl))));rw[CP]at h5;refine Nat.le_of_not_lt fun q=>?_;have q':(n:Int)<((ns.length:Nat):Int):=by omega
  first
   | (rw[decide_eq_true q']at h5;exact absurd h5 (by decide))
   | (simp at h5;omega)
 cases hwl with
 |cons w1 w2=>
  cases w2;cases w1 with
  |list ho hall=>exact⟨_,_,ns,rfl,rfl,ho,kh ns _ hall,hlen⟩
theorem tQ(l:OpenLaw)(args:List WData):l.row.toRowW.claim.post args (.bool true) args=true:=
 postW_of (r:=l.row.toRowW) (X:=(true==true))
  (show WShape.has [] (.bool true) .bool=true by first | rfl | decide | simp[WShape.has,WShape.arms,WShape.armsAll])
  (show(WTm.eq .res (.lit (.bool true))).value [] {args:=args,res:=some (.bool true),after:=args}=some (.bool (true==true)) from w_eq_bool (w_res rfl) w_lit) rfl
theorem attach_call{l:OpenLaw}{n:Nat}{q:Program}{loose:List Str}{XP:(Str->Option Value)->Heap->Prop}{YP:World->Heap->Prop}{d:DefRec}
  (hn:l.most=some n) (hdf:d.params.defaults=[])
  (call:∀(w:World) (s₀ s₁:Shared) (mg mb:Str->Option Value) (fa:Addr) (o:Obj) (pm cd doc:Value) (a:Addr) (vs:List Value) (ns:List Int),
   Ground q loose [] XP w s₀ mg mb s₁.heap->YP w s₁.heap ->
   s₁.heap.get? fa=some o->o.data=.func (docDef d.name d.params d.body d.scope pm cd doc)->s₁.heap.CodeRec cd d.name->mg d.name=some (.ref fa) ->
   s₁.heap.get? a=some {cls:=.type "list",data:=.seq vs.toArray}->IntsAre vs ns->ns.length<=n->s₁.gens=#[] ->
   codeAny (model l.prog w) callerA (.call (.ref fa) ⟨[.ref a],[]⟩) (fun r s'=>r=.ok (.ret (.bool true))/\OldK s₁.heap s'.heap/\s'.os=s₁.os/\AllBare s'.gens) s₁) :
  WalkO q loose XP YP l.row.toRowW d [] (fun f vs=>PySem.call f vs):=by
 intro w s₀ s₁ mg mb G Y fa o pm cd doc dV kV ho hd hcd hD hmg hg args vals as hpre hlay hrd hwl hlo;obtain rfl:dV=.none:=Dflts.none hD hdf;obtain rfl:kV=.none:=Dflts.noKw hD;obtain⟨a,vs,ns,rfl,rfl,hobj,hints,hlen⟩:=tu hn hpre hwl;refine enter_call (codeAny_mono (call w s₀ s₁ mg mb fa o pm cd doc a vs ns G Y ho (fd_plain hd) hcd hmg hobj hints hlen hg) fun r s' hq=>?_);obtain⟨rfl,h2,h3,h4⟩:=hq;exact⟨.inl ⟨.bool true,.bool true,[],rfl,fun _=>rfl,.bool true,tQ l _,fun _=>⟨List.Pairwise.nil,fun _ hm=>(nomatch hm)⟩⟩,h2,h3,h4⟩
section
variable {prog:Program}{w:World}{A:Around}{E:Value->Shared->Prop}{s:Shared}{K:Frag}
noncomputable def Aa(h:Heap)(L d:Addr):List (Addr×Obj):=(List.range h.objs.size).filterMap fun a=>if a=L\/a=d then none else(h.get? a).map fun o=>(a,o)
end
end Att
namespace L2
open PySem PySem.Spec PyProof.Rows
theorem mF:∀{vs:List Value} {ns:List Int},IntsAre vs ns->aH (ns.map V.int) vs
 |_,_,.nil=>.nil
 |_,_,.cons n t h=>.cons ⟨t,rfl⟩ (mF h)
noncomputable def y6(H:Hp):Prop:=∀b,H b=none\/∃o xs,H b=some (.frz o (.lst xs))
theorem wJ{P:Program}{w:World}{K:PySem.W.Frag}{mg mb:Str->Option Value}{CX:iz}{k:Nat}{fa a:Addr}{fd:FuncData}{x:Str}{sp:Sp}{s₁:Shared}{vs:List Value}{ns:List Int}
  (KX:K.In s₁.heap) (hns:s₁.heap.Ns mainGlobals mg) (hb:s₁.heap.Ns builtinsNs mb) (hbb:∀x:Str,x≠"__name__"->mb x=bootBuiltins x) (hlim:s₁.heap.NoLimit) (hg:s₁.gens=#[])
  (ha:s₁.heap.get? a=some {cls:=.type "list",data:=.seq vs.toArray}) (hi:IntsAre vs ns) (hl:ns.length<=sizeLine) (hr:cq k callerA)
  (F:∀base:Heap,K.In base->base.Ns mainGlobals mg->aO P w K mg base CX k fa fd [x] sp) (hbind:∀(s:Shared) (u:Value),BindsTo s fd ⟨[u],[]⟩ [(x,u)])
  (hsp:∀H:Hp,y6 H->bp K H a (ns.map V.int)->sp [.ref a] H (fun v _=>v=.bl true) fun _ _ _=>False)
  (hCX:∀H e s',CX [] H s₁ (fun _ _ _=>False) e s'->False) :
  codeAny (model P w) callerA (.call (.ref fa) ⟨[.ref a],[]⟩) (fun r s'=>r=.ok (.ret (.bool true))/\OldK s₁.heap s'.heap/\s'.os=s₁.os/\AllBare s'.gens) s₁:=by
 have rv:=mF hi;have lenV:=hi.length
 -- from an abstract heap in which nothing but the script may be tracked
 have core:∀H:Hp,y6 H->bp K H a (ns.map V.int)->ip P w H s₁.heap->(∀b,H b≠none->b=a)->(H a≠none->K.lookup a=none) ->
   codeAny (model P w) callerA (.call (.ref fa) ⟨[.ref a],[]⟩) (fun r s'=>r=.ok (.ret (.bool true))/\OldK s₁.heap s'.heap/\s'.os=s₁.os/\AllBare s'.gens) s₁:=by
  intro H hO hS hok hA hK;have base_of:∀{b:Addr} {o:Obj},s₁.heap.get? b=some o->H b=none->(oI s₁.heap H).get? b=some o:=fun e n=>u8 e n;have noA:∀{b:Addr} {o:Obj} {es:Array DictEntry} {ep:Nat},s₁.heap.get? b=some o->o.data=.dict es ep->H b=none:=fun{b o es ep} e d=>by
   cases q:H b with
   |none=>rfl
   |some u=>
    have e':b=a:=hA b (by rw[q];simp);subst e';rw[ha]at e;cases e
    have d':Data.seq vs.toArray _=Data.dict es ep:=d;cases d'
  have nsK:∀{b:Addr} {m:Str->Option Value},s₁.heap.Ns b m->(oI s₁.heap H).Ns b m:=fun{b m} ⟨o,es,ep,e,d,r⟩=>⟨o,es,ep,base_of e (noA e d),d,r⟩;have hKb:K.In (oI s₁.heap H):=fun b o e=>base_of (KX b o e) (by
   cases q:H b with
   |none=>rfl
   |some u=>
    have e':b=a:=hA b (by rw[q];simp);subst e';rw[hK (by rw[q];simp)]at e;cases e)
  have hM:Mod K mg (oI s₁.heap H):=⟨hKb,nsK hns,⟨mb,nsK hb,hbb⟩,let ⟨mc,h1,h2⟩:=hlim;⟨mc,nsK h1,h2⟩⟩;have e0:ql P w K mg (oI s₁.heap H) callerA [] s₁ H:=⟨rfl,hM,fun b o e=>wX e,Nat.le_of_eq (uA _ _),trivial,fun b hb=>absurd (show b∈([]:List Addr) from hb) (by simp),hok,.of_eq hg⟩;refine codeAny_mono ((F _ hKb (nsK hns)).run callerA [] s₁ H ⟨[.ref a],[]⟩ [.ref a] [.ref a] _ _ hr e0 (hbind s₁ (.ref a)) (.cons rfl .nil) (hsp H hO hS)) fun r s' h=>?_;cases r with
  |error e=>exact(hCX H e s' h).elim
  |ok fl=>
   cases fl with
   |next=>exact False.elim h
   |brk=>exact False.elim h
   |cont=>exact False.elim h
   |ret u=>
    obtain⟨v,H',os,bare,un,hok',r',q⟩:=h;have q':v=.bl true:=q;subst q';obtain rfl:u=Value.bool true:=r';refine⟨rfl,OldK.of_keep fun b o e=>?_,os,bare⟩;cases q:H b with
    |none=>exact un.keep b o e q (by intro z;exact absurd (show b∈([]:List Addr) from z) (by simp)) (by simp)
    |some u=>
     rcases hO b with z | ⟨ob,xs,z⟩
     ·rw[q]at z;cases z
     ·have z2:=un.frzs b ob _ z
      obtain⟨e1,_⟩:=hok b _ z;obtain⟨e2,_⟩:=hok' b _ z2;rw[e]at e1;cases e1
      exact e2
 cases hk:K.lookup a with
 |some o=>
  -- the script is one of the module's own objects
  have e:=KX a o hk;rw[ha]at e;cases e;refine core (fun _=>none) (fun _=>.inl rfl) (.inr ⟨_,vs.toArray,_,hk,rfl,rfl,rfl,by rw[CY,lenV];exact hl,by simpa using rv⟩) (fun b u z=>by have z':(none:Option HO)=some u:=z;cases z') (fun b z=>absurd rfl z) fun z=>absurd rfl z
 |none=>
  refine core (fun b=>if b=a then some (.frz {cls:=.type "list",data:=.seq vs.toArray} (.lst (ns.map V.int))) else none) (fun b=>?_) (.inl (.inr ⟨{cls:=.type "list",data:=.seq vs.toArray},if_pos rfl⟩)) (fun b u z=>?_) (fun b z=>?_) fun _=>hk
  ·by_cases hb:b=a
   ·exact .inr ⟨_,_,if_pos hb⟩
   ·exact .inl (if_neg hb)
  ·by_cases hb:b=a
   ·have z':=(if_pos hb).symm.trans z
    cases z';subst hb;exact⟨ha,by rw[CP];exact hl,vs,_,rv,ha⟩
   ·have z':=(if_neg hb).symm.trans z
    cases z'
  ·by_cases hb:b=a
   ·exact hb
   ·exact absurd (if_neg hb) z
theorem walk_of{l:PySem.W.OpenLaw}{n k:Nat}{q:Program}{loose:List Str}{XP:(Str->Option Value)->Heap->Prop}{YP:World->Heap->Prop}{d:DefRec}{K:Params->PySem.W.Frag}{CX:World->iz}{sp:World->Sp}{x:Str}
  (hn:l.most=some n) (hn2:n<=sizeLine) (hdf:d.params.defaults=[]) (hr:cq k callerA)
  (hY:∀(w:World) (h:Heap),YP w h->(K w.params).In h)
  (F:∀(w:World) (mg:Str->Option Value) (fa:Addr) (h:Heap),(K w.params).In h->h.Ns mainGlobals mg->mg d.name=some (.ref fa) ->
   ∃fd:FuncData,(∀(s:Shared) (u:Value),BindsTo s fd ⟨[u],[]⟩ [(x,u)]) /\
    ∀base:Heap,(K w.params).In base->base.Ns mainGlobals mg->aO l.prog w (K w.params) mg base (CX w) k fa fd [x] (sp w))
  (hsp:∀(w:World) (H:Hp) (a:Addr) (ns:List Int),ns.length<=n->y6 H->bp (K w.params) H a (ns.map V.int)->sp w [.ref a] H (fun v _=>v=.bl true) fun _ _ _=>False)
  (hCX:∀(w:World) (H:Hp) (s:Shared) (e:Value) (s':Shared),CX w [] H s (fun _ _ _=>False) e s'->False) :
  PySem.W.WalkO q loose XP YP l.row.toRowW d [] (fun f vs=>PySem.call f vs):=by
 refine Att.attach_call hn hdf fun w s₀ s₁ mg mb fa o pm cd doc a vs ns G Y ho hd hcd hmg hobj hints hlen hg=>?_;have KX:=hY w _ Y;obtain⟨fd,hb,hF⟩:=F w mg fa _ KX G.T.g hmg;exact wJ KX G.T.g G.T.b G.T.builtins G.T.nolimit hg hobj hints (Dm hlen hn2) hr hF hb (fun H hO hS=>hsp w H a ns hlen hO hS) fun H e s'=>hCX w H s₁ e s'
noncomputable def aK(s:Stmt):Arguments:=match s with
 | .FunctionDef _ a _ _ _ _ _ _ _ _=>a
 |_=>{posonlyargs:=[],args:=[],vararg:=none,kwonlyargs:=[],kw_defaults:=[],kwarg:=none,defaults:=[]}
noncomputable def aF(s:Stmt):List Stmt:=match s with
 | .FunctionDef _ _ b _ _ _ _ _ _ _=>b
 |_=>[]
noncomputable def ai(s:Stmt):Scope:=match s with
 | .FunctionDef _ _ _ _ _ _ sc _ _ _=>sc
 |_=>{kind:=.function,names:=[],isGenerator:=false,isCoroutine:=false}
noncomputable abbrev bY:iz:=fun _ _ _ _ _ _=>False
noncomputable abbrev E0:XK:=fun _ _ _=>False
theorem bo{X:Cx}:cF bY X E0:=fun _ _ _ _ _ _ _ h=>h.elim
structure di(K:PySem.W.Frag)(x qual:Str)(st:Stmt)(f:Addr)(fd:FuncData):Prop where
 ex:∃(oc:Value) (od:Option Addr) (kV doc pm:Value) (an:Option Addr) (cdv ct:Value) (osl:Array (Option Value)),
  fd=PySem.W.fnOf x qual (aK st) (aF st) (ai st) .none kV doc pm an cdv ct/\K.lookup f=some ⟨oc,od,.func fd,osl⟩/\PySem.W.codeIn K cdv qual=true
 kp:PySem.W.keepIn K (.ref f)=true
section
variable {P:Program}{w:World}{K:PySem.W.Frag}{mg:Str->Option Value}{base:Heap}
theorem di.ok{x qual:Str}{st:Stmt}{f:Addr}{fd:FuncData}{N ps:List Str}{k:Nat}{sp:Sp}(F:di K x qual st f fd)(S:av N ps (ai st))(len:∀vs H Q E,sp vs H Q E->vs.length=ps.length)
  (hbody:∀(cdv:Value) (A:Around) (outer:List Env) (s:Shared) (H:Hp) (vs:List V) (Q:VK) (E:XK),cq k (A.deeper (envOfC qual (ai st) s.heap.objs.size f cdv))->sp vs H Q E ->
   ∃t,qB (dL bY P w K mg base N qual (ai st) f cdv A outer s H E).nox (aF st) t/\t {nx:=fun _ H'=>Q .non H',rt:=Q} (start N vs) H):aO P w K mg base bY (k+1) f fd ps sp:=by
 obtain⟨oc,od,kV,doc,pm,an,cdv,ct,osl,rfl,lk,hcd⟩:=F.ex;refine xW lk hcd S len fun A outer s H vs Q E hr hsp=>?_;obtain⟨t,h,q⟩:=hbody cdv A outer s H vs Q E hr hsp;exact⟨t,h.nox,q⟩
theorem di.binds{x qual:Str}{st:Stmt}{f:Addr}{fd:FuncData}{ps:List Str}(F:di K x qual st f fd)
  (h:∀(kV doc pm:Value) (an:Option Addr) (cdv ct:Value) (us:List Value),us.length=ps.length->bindArgs (PySem.W.fnOf x qual (aK st) (aF st) (ai st) .none kV doc pm an cdv ct) ⟨us,[]⟩=pure (ps.zip us)):cL K fd ps []:=by
 obtain⟨oc,od,kV,doc,pm,an,cdv,ct,osl,rfl,lk,hcd⟩:=F.ex;exact .all (h kV doc pm an cdv ct)
theorem bx{x qual:Str}{st:Stmt}{f:Addr}{oc:Value}{od an:Option Addr}{osl:Array (Option Value)}{kV doc pm cdv ct:Value}(l:K.lookup f=some ⟨oc,od,.func (PySem.W.fnOf x qual (aK st) (aF st) (ai st) .none kV doc pm an cdv ct),osl⟩)
  (c:PySem.W.codeIn K cdv qual=true) (k:PySem.W.keepIn K (.ref f)=true):di K x qual st f (PySem.W.fnOf x qual (aK st) (aF st) (ai st) .none kV doc pm an cdv ct):=⟨⟨oc,od,kV,doc,pm,an,cdv,ct,osl,rfl,l,c⟩,k⟩
end
section
variable {X:Cx}
theorem pv(i:Nat){x:Str}{pos:Pos}(hN:X.N[i]?=some x:=by rfl)(hv:zR X.env.scope x:=by first | exact Or.inl rfl | exact Or.inr (Or.inl rfl) | exact Or.inr (Or.inr rfl))(hd:(x==("__debug__":Str))=false:=by decide)
  (hcd:(x==("__classdict__":Str))=false:=by decide):PE X (.Name x pos) (wa i):=y8 hN hv hd hcd
theorem m7:eY X (.builtin "len") (fun xs H Q=>∃a kvs,xs=[V.ref a]/\H a=some (.dK kvs)/\Q (.int kvs.length) H):=by
 intro pins s σ H xs us Q I r h;obtain⟨a,kvs,rfl,ha,q⟩:=h;obtain⟨u,rfl,ru⟩:=qp r;cases ru;exact zh I (.inl ha) fun t s' I'=>⟨.int kvs.length,H,I',⟨t,rfl⟩,q⟩
end
noncomputable def ax(H H':Hp):Prop:=∀b o,H b=some o->H' b=some o
theorem ax.refl(H:Hp):ax H H:=fun _ _ h=>h
theorem ax.trans{H H1 H2:Hp}(a:ax H H1)(b:ax H1 H2):ax H H2:=fun c o h=>b c o (a c o h)
theorem ax.free{H H':Hp}(e:ax H H'){l:Addr}(h:H' l=Option.none):H l=Option.none:=by
 cases q:H l with
 |none=>rfl
 |some o=>
  rw[e l o q]at h;cases h
theorem ax.seq{K:PySem.W.Frag}{H H':Hp}{a:Addr}{xs:List V}(e:ax H H')(h:bp K H a xs):bp K H' a xs:=by
 rcases h with(h | ⟨o,h⟩) | h
 ·exact .inl (.inl (e _ _ h))
 ·exact .inl (.inr ⟨o,e _ _ h⟩)
 ·exact .inr h
section
variable {κ:Type}[DecidableEq κ]
theorem pR{kvs:List (κ×V)}{k:κ}(h:bf kvs k=none):¬ k∈kvs.map (·.1):=by
 intro m;obtain⟨p,hp,e⟩:=Dy.mp m;have q:(kvs.any fun kv=>decide (kv.1=k))=true:=List.any_eq_true.mpr ⟨p,hp,decide_eq_true e⟩;rw[dl,h]at q;exact absurd q (by simp)
theorem xM{kvs:List (κ×V)}{k:κ}{v:V}(h:bf kvs k=some v):k∈kvs.map (·.1):=by
 have q:(kvs.any fun kv=>decide (kv.1=k))=true:=by
  rw[dl,h]
  all_goals rfl
 obtain⟨p,hp,e⟩:=List.any_eq_true.mp q;exact Dy.mpr ⟨p,hp,of_decide_eq_true e⟩
theorem sG:∀{l:List κ} {k:κ},l.Nodup->¬ k∈l->(l++[k]).Nodup
 | [],k,_,_=>by simp
 |a::r,k,h,hk=>by
  obtain⟨h1,h2⟩:=List.nodup_cons.mp h;show(a::(r++[k])).Nodup;refine List.nodup_cons.mpr ⟨fun m=>?_,sG h2 fun m=>hk (C9.mpr (Or.inr m))⟩;rcases C7.mp m with q | q
  ·exact h1 q
  ·exact hk (C9.mpr (Or.inl (CQ.mp q).symm))
theorem w8{kvs:List (κ×V)}{k:κ}(v:V)(hn:(kvs.map (·.1)).Nodup)(h:bf kvs k=none):((bL kvs k v).map (·.1)).Nodup:=by
 rw[kA v h,C6];exact sG hn (pR h)
end
end L2
namespace PySem
open Sem (wp)
open Builtin Builtin.Str Builtin.Int
namespace F
end F
section
variable {prog:Program}{w:World}{A:Around}{E:Value->Shared->Prop}{s:Shared}
end
namespace F
end F
section
variable {prog:Program}{w:World}{A:Around}{E:Value->Shared->Prop}{s:Shared}
end
end PySem
namespace L2
open PySem PySem.Spec PyProof.Rows
noncomputable def dq(env:Env):List (Str×NameKind)->List (Str×Addr)->List (Str×Addr)
 | [],acc=>acc
 | (n,k)::r,acc=>if k==.free then dq env r ((n,(env.cells.lookup n).getD 0)::acc) else dq env r acc
theorem j4{env:Env}:∀(ns:List (Str×NameKind)) (acc:List (Str×Addr)),(∀x∈ns,x.2=.free->∃c,env.cells.lookup x.1=some c) ->
  (forIn ns acc fun(x:Str×NameKind) (cs:List (Str×Addr))=>(if x.2==.free then do
    let c <- cellOf env x.1
    pure (ForInStep.yield ((x.1,c)::cs))
   else pure (ForInStep.yield cs):Sem (ForInStep (List (Str×Addr)))))=pure (dq env ns acc)
 | [],acc,_=>rfl
 | (n,k)::r,acc,h=>by
  have ih:=fun a=>j4 (env:=env) r a fun x hx=>h x (C_ _ hx);rw[List.forIn_cons]
  by_cases hk:k=.free
  ·subst hk
   obtain⟨c,hc⟩:=h (n,.free) List.mem_cons_self rfl;have hc':env.cells.lookup n=some c:=hc;have e1:cellOf env n=pure c:=by unfold cellOf;rw[hc']
   simp only[dq,hc',Option.getD_some];show((do let c <- cellOf env n;pure (ForInStep.yield ((n,c)::acc))) >>= _)=_;rw[e1,pure_bind,pure_bind];exact ih _
  ·have e2:(k==NameKind.free)=false:=by simpa using hk
   simp only[dq,e2,Bool.false_eq_true,if_false];rw[pure_bind];exact ih _
theorem gF{env:Env}{scope:Scope}(h:∀x∈scope.names,x.2=.free->∃c,env.cells.lookup x.1=some c) :
  closureFor scope env=pure (dq env scope.names []):=by
 unfold closureFor;have e:=j4 (env:=env) scope.names [] h;have e2:(forIn scope.names ([]:List (Str×Addr)) fun x cs=>(match x with
   | (name,kind)=>if kind==.free then do
     let c <- cellOf env name
     pure (ForInStep.yield ((name,c)::cs))
    else pure (ForInStep.yield cs):Sem (ForInStep (List (Str×Addr)))))=pure (dq env scope.names []):=e
 simp only[]at e2 ⊢
 first
  | (rw[e2];rfl)
  | (erw [e2];rfl)
theorem fL{env:Env}:∀{ns:List (Str×NameKind)} {acc:List (Str×Addr)} {x:Str} {c:Addr},(∀y∈ns,y.2=.free->∃c,env.cells.lookup y.1=some c) ->
  (∀y c,acc.lookup y=some c->env.cells.lookup y=some c)->(dq env ns acc).lookup x=some c->env.cells.lookup x=some c
 | [],_,_,_,_,ha,e=>ha _ _ e
 | (n,k)::r,acc,x,c,h,ha,e=>by
  have hr:∀y∈r,y.2=.free->∃c,env.cells.lookup y.1=some c:=fun y hy=>h y (C_ _ hy);unfold dq at e
  by_cases hk:k=.free
  ·subst hk
   rw[if_pos (by simp)]at e;obtain⟨c',hc⟩:=h (n,.free) List.mem_cons_self rfl;have hc':env.cells.lookup n=some c':=hc;refine fL hr (fun y d z=>?_) e;rw[hc',Option.getD_some,List.lookup_cons]at z
   by_cases q:y=n
   ·subst q
    simp at z;subst z;exact hc'
   ·have q':(y==n)=false:=by simpa using q
    rw[q']at z;exact ha y d z
  ·rw[if_neg (by simpa using hk)]at e
   exact fL hr ha e
theorem kq{env:Env}:∀{ns:List (Str×NameKind)} {acc:List (Str×Addr)} {x:Str},((∃c,acc.lookup x=some c)\/(x,NameKind.free)∈ns)->∃c,(dq env ns acc).lookup x=some c
 | [],_,_,h=>by
  rcases h with h | h
  ·exact h
  ·exact nomatch h
 | (n,k)::r,acc,x,h=>by
  unfold dq
  by_cases hk:k=.free
  ·subst hk
   rw[if_pos (by simp)];refine kq ?_
   by_cases q:x=n
   ·subst q
    left
    simp[List.lookup_cons]
   ·have q':(x==n)=false:=by simpa using q
    rcases h with⟨c,h⟩ | h
    ·exact .inl ⟨c,by rw[List.lookup_cons,q'];exact h⟩
    ·rcases C9.mp h with z | z
     ·cases z
      exact absurd rfl q
     ·exact .inr z
  ·rw[if_neg (by simpa using hk)]
   refine kq ?_;rcases h with h | h
   ·exact .inl h
   ·rcases C9.mp h with z | z
    ·cases z
     exact absurd rfl hk
    ·exact .inr z
noncomputable def qd(scope osc:Scope):Scope:=
 {scope with names:=scope.names.map fun(n,k)=>if(k==.free&&osc.kind==.function&&osc.names.lookup n==some .cell) then(n,.cell) else(n,k)}
noncomputable def vB(scope osc:Scope):Bool:=
 (scope.kind==.function)&&(osc.kind==.function)&&scope.names.all fun(n,k)=>(k != .free || !scope.names.contains (n,NameKind.cell))&&(k != .local||scope.names.lookup n==some .local) &&
  (k != .free||osc.names.lookup n==some .cell||osc.names.lookup n==some .free)&&(k != .free||(qd scope osc).names.lookup n != some .local)
structure bG(scope osc:Scope):Prop where
 kind:scope.kind=.function
 sep:∀x∈scope.names,x.2=.free->(x.1,NameKind.cell)∉scope.names
 loc:∀x∈scope.names,x.2=.local->scope.names.lookup x.1=some .local
 free:∀x∈scope.names,x.2=.free->osc.names.lookup x.1=some .cell\/osc.names.lookup x.1=some .free
 nl:∀x∈scope.names,x.2=.free->(qd scope osc).names.lookup x.1≠some .local
theorem bG.of{scope osc:Scope}(h:vB scope osc=true):bG scope osc:=by
 unfold vB at h;rw[Bool.and_eq_true,Bool.and_eq_true,Dz]at h;obtain⟨⟨h1,h0⟩,h2⟩:=h;refine⟨by simpa using h1,fun x hx e=>?_,fun x hx e=>?_,fun x hx e=>?_,fun x hx e=>?_⟩
 all_goals
  obtain⟨n,k⟩:=x;have q:=h2 (n,k) hx;simp only[Bool.and_eq_true,Bool.or_eq_true,bne_iff_ne,beq_iff_eq]at q
 ·have z:=q.1.1.1.resolve_left (fun z=>z e)
  simpa using z
 ·exact q.1.1.2.resolve_left (fun z=>z e)
 ·rcases q.1.2 with(z | z) | z
  ·exact absurd e z
  ·exact .inl z
  ·exact .inr z
 ·exact q.2.resolve_left (fun z=>z e)
theorem dM{osc:Scope}:∀{ns:List (Str×NameKind)} {x:Str} {k':NameKind},
  (ns.map fun(n,k)=>if(k==NameKind.free&&osc.kind==.function&&osc.names.lookup n==some .cell) then(n,NameKind.cell) else(n,k)).lookup x=some k' ->
  (k'=.cell\/k'=.free)->(x,NameKind.free)∈ns\/(x,NameKind.cell)∈ns
 | [],_,_,h,_=>by simp at h
 | (n,k)::r,x,k',h,hk'=>by
  rw[Dl]at h
  by_cases q:x=n
  ·subst q
   by_cases z:(k==NameKind.free&&osc.kind==.function&&osc.names.lookup x==some .cell)=true
   ·have:k=.free:=by
     simp only[Bool.and_eq_true,beq_iff_eq]at z;exact z.1.1
    subst this;exact .inl List.mem_cons_self
   ·simp only[z,Bool.false_eq_true,if_false]at h
    rw[List.lookup_cons]at h;simp at h;subst h;rcases hk' with e | e
    ·subst e;exact .inr List.mem_cons_self
    ·subst e;exact .inl List.mem_cons_self
  ·have q':(x==n)=false:=by simpa using q
   refine(dM (osc:=osc) (k':=k') (ns:=r) (x:=x) ?_ hk').imp (C_ _) (C_ _)
   by_cases z:(k==NameKind.free&&osc.kind==.function&&osc.names.lookup n==some .cell)=true
   ·simp only[z,if_true]at h
    rw[List.lookup_cons,q']at h;exact h
   ·simp only[z,Bool.false_eq_true,if_false]at h
    rw[List.lookup_cons,q']at h;exact h
theorem gC:∀(ns:List (Str×NameKind)) (n:Nat) (acc:List (Str×Addr)),cellsFrom n ns acc=cellsFrom n ns []++acc
 | [],_,_=>rfl
 | (x,k)::r,n,acc=>by
  unfold cellsFrom
  split
  ·rw[gC r (n+1) ((x,n)::acc),gC r (n+1) [(x,n)],List.append_assoc];rfl
  ·exact gC r n acc
theorem oE:∀{ns:List (Str×NameKind)} {n:Nat} {x:Str} {c:Addr},(x,c)∈cellsFrom n ns []->(x,NameKind.cell)∈ns
 | [],_,_,_,h=>nomatch h
 | (y,k)::r,n,x,c,h=>by
  unfold cellsFrom at h
  split at h
  ·rename_i hk
   rw[gC]at h;rcases C7.mp h with h | h
   ·exact C_ _ (oE h)
   ·cases CQ.mp h
    have:k=.cell:=by simpa using hk
    subst this;exact List.mem_cons_self
  ·exact C_ _ (oE h)
theorem oP:∀{ns:List (Str×NameKind)} {n:Nat} {x:Str} {acc:List (Str×Addr)},((x,NameKind.cell)∈ns\/∃c,acc.lookup x=some c)->∃c,(cellsFrom n ns acc).lookup x=some c
 | [],_,_,_,h=>h.elim (fun z=>nomatch z) id
 | (y,k)::r,n,x,acc,h=>by
  unfold cellsFrom
  split
  ·refine oP ?_
   by_cases q:x=y
   ·subst q
    exact .inr ⟨n,by simp[List.lookup_cons]⟩
   ·have q':(x==y)=false:=by simpa using q
    rcases h with h | ⟨c,h⟩
    ·rcases C9.mp h with z | z
     ·cases z;exact absurd rfl q
     ·exact .inl z
    ·exact .inr ⟨c,by rw[List.lookup_cons,q'];exact h⟩
  ·rename_i hk
   refine oP ?_;rcases h with h | h
   ·rcases C9.mp h with z | z
    ·cases z;exact absurd rfl hk
    ·exact .inl z
   ·exact .inr h
noncomputable def cS(env:Env)(scope:Scope)(C:Addr):List (Str×Addr):=cellsFrom (C+1) scope.names (dq env scope.names [])
theorem jl:∀{ns:List (Str×NameKind)} {n:Nat} {x:Str} {c:Addr},(x,c)∈cellsFrom n ns []->n<=c
 | [],_,_,_,h=>nomatch h
 | (y,k)::r,n,x,c,h=>by
  unfold cellsFrom at h
  split at h
  ·rw[gC]at h
   rcases C7.mp h with h | h
   ·exact Dm (Nat.le_succ _) (jl h)
   ·cases CQ.mp h
    exact Dg _
  ·exact jl h
theorem lV:∀{ns:List (Str×NameKind)} {n:Nat},(cellsFrom n ns []).Pairwise fun x y=>x.2≠y.2
 | [],_=>List.Pairwise.nil
 | (y,k)::r,n=>by
  unfold cellsFrom
  split
  ·rw[gC]
   refine List.pairwise_append.mpr ⟨lV,by simp,fun a ha b hb e=>?_⟩;cases CQ.mp hb;have:=jl (x:=a.1) (c:=a.2) ha;rw[e]at this;exact absurd this (Nat.not_succ_le_self _)
  ·exact lV
theorem fM{env:Env}{scope:Scope}{C:Addr}{x:Str}{c:Addr}(h:(cS env scope C).lookup x=some c) :
  ((x,c)∈cellsFrom (C+1) scope.names []/\C<c/\(x,NameKind.cell)∈scope.names)\/((cellsFrom (C+1) scope.names []).lookup x=none/\(dq env scope.names []).lookup x=some c):=by
 unfold cS at h;rw[gC,List.lookup_append]at h;cases q:(cellsFrom (C+1) scope.names []).lookup x with
 |none=>rw[q]at h;exact .inr ⟨rfl,h⟩
 |some d=>
  rw[q]at h;cases h;have:=mem_of_lookup q;exact .inl ⟨this,jl this,oE this⟩
theorem vp{ns:List (Str×NameKind)}{n:Nat}{x:Str}(h:(x,NameKind.cell)∉ns):(cellsFrom n ns []).lookup x=none:=by
 cases q:(cellsFrom n ns []).lookup x with
 |none=>rfl
 |some d=>exact absurd (oE (mem_of_lookup q)) h
section
variable {M:Model}{A:Around}{E:Value->Shared->Prop}{s:Shared}
theorem dz{scope:Scope}{globals:Addr}{closure:List (Str×Addr)}{qual:Str}{func:Option Addr}{code:Value}{outer:Env}{builtins:Addr}{Q:Env->Shared->Prop}
  (hQ:Q (newEnv scope s.heap.objs.size globals (cellsFrom (s.heap.objs.size+1) scope.names closure) qual func code (some outer) builtins) {s with heap:=pushCells (s.heap.push {cls:=.type "dict",data:=.dict #[]}) scope.names}) :
  wpAny M A (newFunctionEnv scope globals closure [] qual func code (some outer) builtins) Q E s:=by
 simp only[newFunctionEnv,Option.isSome_some,if_true];simp only[newEnv]at hQ;refine wpAny_bind (wpAny_alloc ?_);refine wpAny_bind (wpAny_layCells _ (fun name kind cells=>by cases hkc:kind==NameKind.cell<;>simp[hkc]) _ _ _ _ ?_);rw[show({s with heap:=s.heap.push {cls:=.type "dict",data:=.dict #[]} }:Shared).heap.objs.size=s.heap.objs.size+1 from Heap.size_push ..];rw[List.forIn_nil];exact wpAny_bind (wpAny_pure (wpAny_pure hQ))
end
noncomputable def Cx.blk(X:Cx)(N':List Str)(s₂:Shared)(H₂:Hp)(scope:Scope)(fp:List Addr)(C:Addr):Cx where
 prog:=X.prog
 w:=X.w
 K:=X.K
 mg:=X.mg
 base:=X.base
 A:=X.A
 N:=N'
 s₀:=s₂
 H₀:=H₂
 env:=compEnvC scope (cS X.env scope C) C X.env
 outer:=X.stack
 stack:=X.stack
 ex:=fp
 fn:=fun x=>scope.names.contains (x,NameKind.cell)
 calm:=X.calm
 pn:=[]
 xe:=fun _ _=>False
noncomputable def m9(k:Nat)(js:List Nat)(σ:St):St:=List.replicate k none++js.map fun j=>(σ[j]?).join
noncomputable def kL(own:List Str)(js:List Nat)(N:List Str):List Str:=own++js.map fun j=>N.getD j Str.empty
section
variable {X:Cx}
theorem Inv.capFree{pins:List (Addr×Obj)}{σ:St}{H:Hp}{s:Shared}{scope:Scope}(I:Inv X pins σ H s)(hk:bG scope X.env.scope):∀x∈scope.names,x.2=.free->∃c,X.env.cells.lookup x.1=some c:=
 fun x hx e=>I.ok.has x.1 (hk.free x hx e)
theorem Inv.capL{pins:List (Addr×Obj)}{σ:St}{H:Hp}{s:Shared}{scope:Scope}{x:Str}{c:Addr}(I:Inv X pins σ H s)(hk:bG scope X.env.scope)(e:(dq X.env scope.names []).lookup x=some c):X.env.cells.lookup x=some c:=
 fL (I.capFree hk) (fun _ _ z=>by simp at z) e
theorem Inv.blkL{pins:List (Addr×Obj)}{σ:St}{H:Hp}{s:Shared}{scope:Scope}{C:Addr}{x:Str}{c:Addr}(I:Inv X pins σ H s)(hk:bG scope X.env.scope)(e:(cS X.env scope C).lookup x=some c) :
  ((x,c)∈cellsFrom (C+1) scope.names []/\C<c/\(x,NameKind.cell)∈scope.names)\/X.env.cells.lookup x=some c:=
 (fM e).imp id fun z=>I.capL hk z.2
theorem yD{pins:List (Addr×Obj)}{σ:St}{H:Hp}{s:Shared}{N':List Str}{scope:Scope}{fp:List Addr}{C:Addr}(I:Inv X pins σ H s)(hk:bG scope X.env.scope)(hC:s.heap.objs.size<=C)
  (hf:∀b∈fp,kf X pins H b) (ho:∀b∈fp,∃o,s.heap.get? b=some o):(X.blk N' s H scope fp C).Ok where
 mod:=I.ok.mod
 kind:=hk.kind
 glob:=I.ok.glob
 blt:=I.ok.blt
 above:=hC
 inj:=fun x y c e1 e2=>by
  have low:∀z,X.env.cells.lookup z=some c->c<C:=fun z e=>by
   obtain⟨v,q⟩:=I.cell z c e;exact Da q.lt hC
  rcases I.blkL hk e1 with⟨a1,a2,_⟩ | a<;>rcases I.blkL hk e2 with⟨b1,b2,_⟩ | b
  ·exact name_of_addr lV a1 b1
  ·exact absurd (low _ b) (Nat.not_lt.mpr (Nat.le_of_lt a2))
  ·exact absurd (low _ a) (Nat.not_lt.mpr (Nat.le_of_lt b2))
  ·exact I.ok.inj x y c a b
 has:=fun x h=>by
  refine oP ?_;have z:(x,NameKind.free)∈scope.names\/(x,NameKind.cell)∈scope.names:=by
   rcases h with h | h
   ·exact dM (osc:=X.env.scope) h (.inl rfl)
   ·exact dM (osc:=X.env.scope) h (.inr rfl)
  rcases z with z | z
  ·exact .inr (kq (.inr z))
  ·exact .inl z
 cab:=fun x c z e=>by
  have z':(x,NameKind.cell)∈scope.names:=by
   have z2:scope.names.contains (x,NameKind.cell)=true:=z
   simpa using z2
  have e':(cS X.env scope C).lookup x=some c:=e;rcases fM e' with⟨_,a,_⟩ | ⟨a,_⟩
  ·exact Dm hC (Nat.le_of_lt a)
  ·obtain⟨d,q⟩:=oP (n:=C+1) (acc:=[]) (.inl z')
   rw[a]at q;cases q
 hd:=I.ok.hd
 frames:=I.ok.frames
 stk:=.inl rfl
 exf:=fun b hb=>⟨fun e=>by
  obtain⟨o,q⟩:=ho b hb;have e':b=C:=e;rw[e']at q;exact absurd (Dj q) (Nat.not_lt.mpr hC),fun x c e=>by
  rcases I.blkL hk e with⟨_,a,_⟩ | a
  ·obtain⟨o,q⟩:=ho b hb
   intro z;rw[z]at a;exact absurd (Da (Dj q) hC) (Nat.not_lt.mpr (Nat.le_of_lt a))
  ·exact(hf b hb).2.2.2.2.1 x c a⟩
 bs:=I.bs
 bsz:=Dm I.ok.bsz I.sz
 noex:=fun b o e hb=>by
  rcases(hf b hb).2.2.2.1 with z | z
  ·exact I.ok.noex b o e z
  ·exact absurd (Dj (I.ok.bs b o e).1) (Nat.not_lt.mpr z)
 exfs:=fun b hb hs=>by
  rcases C9.mp (I.stkSub b hs) with z | z
  ·exact(hf b hb).2.1 z
  ·exact(hf b hb).2.2.1 z
 funs:=I.stack
 frf:=I.stkFree
theorem uB{pins:List (Addr×Obj)}{σ:St}{H:Hp}{s s1:Shared}{own:List Str}{js:List Nat}{scope:Scope}{fp:List Addr}{C:Addr}{m:Str->Option Value}(I:Inv X pins σ H s)(hk:bG scope X.env.scope)(hC:s.heap.objs.size<=C)
  (hf:∀b∈fp,kf X pins H b) (ho:∀b∈fp,∃o,s.heap.get? b=some o) (hos:s1.os=s.os) (hg:s1.gens=s.gens) (hn:s1.heap.Ns C m) (keep:∀b o,s.heap.get? b=some o->s1.heap.get? b=some o)
  (hown:∀x c,(x,c)∈cellsFrom (C+1) scope.names []->s1.heap.IsCell c none) (hcap:(js.all fun j=>scope.names.contains (X.N.getD j Str.empty,NameKind.free))=true) :
  Inv (X.blk (kL own js X.N) s H scope fp C) [] (m9 own.length js σ) H s1:=by
 have cl:=fun{x:Str} {c:Addr} (e:(dq X.env scope.names []).lookup x=some c)=>fL (I.capFree hk) (fun _ _ z=>by simp at z) e;refine⟨yD I hk hC hf ho,hos,hg▸I.bare,Un.kept keep,⟨m,hn,fun i x v e1 e2 e3=>?_⟩,fun x c e=>?_,I.hok.fresh hC,fun x c e=>(I.blkL hk e).elim (fun z=>I.hok.fresh (Dm hC (Nat.le_of_lt z.2.1))) fun z=>I.freeC x c z,fun p hp=>(nomatch hp),I.hok.kept keep,?_⟩
 ·have e1':(own++js.map fun j=>X.N.getD j Str.empty)[i]?=some x:=e1
  have e2':(List.replicate own.length none++js.map fun j=>(σ[j]?).join)[i]?=some (some v):=e2
  by_cases hi:i<own.length
  ·rw[Dd (by rw[List.length_replicate];exact hi),List.getElem?_replicate,if_pos hi]at e2'
   cases e2'
  ·have hi':own.length<=i:=Nat.le_of_not_lt hi
   rw[Dc (by rw[List.length_replicate];exact hi'),List.length_replicate,CS]at e2';rw[Dc hi',CS]at e1';cases ej:js[i-own.length]? with
   |none=>rw[ej]at e1';cases e1'
   |some j=>
    rw[ej]at e1' e2';have ex:X.N.getD j Str.empty=x:=Option.some.inj e1';have ev:(σ[j]?).join=some v:=Option.some.inj e2';have hj:σ[j]?=some (some v):=by
     cases q:σ[j]? with
     |none=>rw[q]at ev;cases ev
     |some z=>rw[q]at ev;simp at ev;rw[ev]
    have hjl:j<X.N.length:=by rw[<- I.len];exact(CM.mp hj).1
    have hN:X.N[j]?=some x:=by rw[<- ex,List.getD_eq_getElem?_getD,mk hjl];rfl
    have hx:(x,NameKind.free)∈scope.names:=by
     have q:=Dz.mp hcap j (CU ej);rw[ex]at q
     simpa using q
    have ko:=hk.free _ hx rfl;obtain⟨mo,hno,hl⟩:=I.loc;obtain⟨u,ru,lk⟩:=hl j x v hN hj (ko.elim (fun z=>.inr (.inl z)) fun z=>.inr (.inr z));refine⟨u,ru,?_⟩;rcases lk with⟨kk,_⟩ | ⟨kk,c,ec,hc⟩
    ·rcases ko with z | z
     ·rw[show X.env.kindOf x=X.env.scope.names.lookup x from rfl,z]at kk;cases kk
     ·rw[show X.env.kindOf x=X.env.scope.names.lookup x from rfl,z]at kk;cases kk
    ·obtain⟨c',hc'⟩:=kq (env:=X.env) (ns:=scope.names) (acc:=[]) (x:=x) (.inr hx)
     have:=cl hc';rw[ec]at this;cases this;refine .inr ⟨?_,c,?_,hc.keeps keep⟩
     case refine_2=>
      show(cS X.env scope C).lookup x=some c;unfold cS;rw[gC,List.lookup_append,vp (hk.sep _ hx rfl)];exact hc'
     -- its kind within the block
     rcases e3 with z | z | z
     ·exact absurd z (hk.nl _ hx rfl)
     ·exact .inl z
     ·exact .inr z
 ·rcases I.blkL hk e with z | z
  ·exact⟨none,hown x c z.1⟩
  ·obtain⟨v,z⟩:=I.cell x c z
   exact⟨v,z.keeps keep⟩
 ·show(List.replicate own.length none++js.map fun j=>(σ[j]?).join).length=(own++js.map fun j=>X.N.getD j Str.empty).length
  simp
noncomputable def xZ(env:Env)(ifs:List Expr):Sem Bool:=forIn ifs true fun c r=>if r=true then do let ok <- isTrue c env (eval c env);pure (ForInStep.yield ok) else pure (ForInStep.yield r)
theorem o5{prog:Program}{w:World}{A:Around}{R:Result->Shared->Prop}{s:Shared}{elt target iter:Expr}{ifs:List Expr}{scope:Scope}{pos:Pos}{it acc:Value}{env:Env}(I:Nat->Shared->Prop)
  (turn:∀n s,I n s->wpAny (model prog w) A (pyNext it) (fun r s₁=>match r with
   |none=>R (.ok .next) s₁
   |some v=>wpAny (model prog w) A (letOwnedTupleGo target it v) (fun _ s₁'=>wpAny (model prog w) A (assign target env v) (fun _ s₂=>
     wpAny (model prog w) A (xZ env ifs) (fun ok s₃=>
      if ok=true then wpAny (model prog w) A (eval elt env) (fun x s₄=>
       wpAny (model prog w) A (call (.builtin "list.append") [acc,x]) (fun _ s₅=>∃m,m<n/\I m s₅) (fun _ _=>False) s₄) (fun _ _=>False) s₃
      else ∃m,m<n/\I m s₃) (fun _ _=>False) s₂) (fun _ _=>False) s₁') (fun _ _=>False) s₁) (fun _ _=>False) s)
  (n:Nat) (h:I n s) :
  codeAny (model prog w) A (.compLoop (.ListComp elt [⟨target,iter,ifs,0⟩] scope pos) 0 it acc env) R s:=by
 refine codeAny_loop rfl I (fun n s hI=>?_) n h;show wpAny _ A ((compTurn (.ListComp elt [⟨target,iter,ifs,0⟩] scope pos) 0 it acc env).onRaise (fun x=>do noteFrame x env;theTreesLotGoes x)) _ _ s;refine wpAny_noted ?_;rw[compTurn_list];have up:∀{α:Type} {t:Sem α} {Q Q':α->Shared->Prop} {E':Value->Shared->Prop} {s:Shared},wpAny (model prog w) A t Q (fun _ _=>False) s->(∀a s,Q a s->Q' a s)->wpAny (model prog w) A t Q' E' s:=
  fun h hQ=>wpAny_mono h hQ fun _ _ f=>f.elim
 refine wpAny_bind (wpAny_standAt (wpAny_bind (up (turn n s hI) fun r s₁ h₁=>?_)));cases r with
 |none=>exact wpAny_pure h₁
 |some v=>
  refine wpAny_bind (up h₁ fun _ s₁' h₁'=>wpAny_bind (up h₁' fun _ s₂ h₂=>wpAny_bind (up h₂ fun ok s₃ h₃=>?_)));cases ok with
  |false=>exact wpAny_pure ⟨rfl,h₃⟩
  |true=>
   exact wpAny_bind (wpAny_bind (up h₃ fun x s₄ h₄=>wpAny_bind (up h₄ fun _ s₅ h₅=>wpAny_pure (wpAny_pure ⟨rfl,h₅⟩))))
noncomputable def zn(X:Cx)(ifs:List Expr)(t:TT):Prop:=
 ∀(pins:List (Addr×Obj)) (s:Shared) (σ:St) (H:Hp) (Q:Bool->Hp->Prop),Inv X pins σ H s->t σ H Q->wpAny (model X.prog X.w) X.A (xZ X.env ifs) (TP X pins σ Q) X.xe s
noncomputable def s_:TT:=fun _ H Q=>Q true H
theorem dA{X:Cx}:zn X [] s_:=fun pins s σ H Q I h=>wpAny_tests_nil ⟨H,I,h⟩
theorem xw{X:Cx}{c:Expr}{t:TT}(h:PT X c t):zn X [c] t:=fun pins s σ H Q I q=>wpAny_tests_one (h pins s σ H Q I q)
noncomputable def jk(J:It)(g:TG)(ti:TT)(te:TE)(σ:St)(H:Hp)(Q:List V->Hp->Prop):Prop:=
 ∃W:Nat->Nat->List V->St->Hp->Prop,(∃m,W 0 m [] σ H)/\∀i m acc σ' H',W i m acc σ' H' ->
  acc.length<sizeLine/\((J.stop i H'/\Q acc H') \/
   (J.go i H'/\∃N:List V->St->Hp->Prop,(∀acc' σ2 H2,N acc' σ2 H2->∃m',m'<m/\W (i+1) m' acc' σ2 H2) /\
    ∀x H2,J.yld i H' x H2->g x σ' H2 fun σ2 H3=>ti σ2 H3 fun b H4=>if b=true then te σ2 H4 fun v H5=>N (acc++[v]) σ2 H5 else N acc σ2 H4))
noncomputable def sP(k:Nat)(js:List Nat)(wi:TI)(g:TG)(ti:TT)(te:TE):TE:=fun σ H Q=>wi σ H fun J H1=>jk J g ti te (m9 k js σ) H1 fun acc H'=>∀l,H' l=none->Q (.ref l) (ar H' l (.lst acc))
noncomputable abbrev eJ(its:List Value)(n:Nat):Obj:={cls:=.type "list",data:=.seq its.toArray n}
theorem mX{pins:List (Addr×Obj)}{σ:St}{H:Hp}{s:Shared}{elt tg iter:Expr}{ifs:List Expr}{scope:Scope}{pos:Pos}{own:List Str}{js:List Nat}{g:TG}{ti:TT}{te:TE}{J:It}{fp:List Addr}{it:Addr}{tn:Nat->Heap->Prop}{Q:List V->Hp->Prop}{E:Value->Shared->Prop}
  {RR:Value->Addr->Result->Shared->Prop} (hc:X.calm=true) (hk:bG scope X.env.scope) (hcap:(js.all fun j=>scope.names.contains (X.N.getD j Str.empty,NameKind.free))=true)
  (hg:∀s H fp C,PG (X.blk (kL own js X.N) s H scope fp C) tg g) (hi:∀s H fp C,zn (X.blk (kL own js X.N) s H scope fp C) ifs ti) (he:∀s H fp C,PE (X.blk (kL own js X.N) s H scope fp C) elt te)
  (I:Inv X pins σ H s) (T:r8 X.prog X.w X.K tg J fp it tn) (st:tn 0 s.heap) (hf:∀b∈fp,kf X pins H b)
  (hW:jk J g ti te (m9 own.length js σ) H Q)
  (hRR:∀(D C:Addr) (s':Shared) (H':Hp) (acc:List V) (m:Str->Option Value),Q acc H'->H' D=none->Inv X pins σ (ar H' D (.lst acc)) s'->s'.heap.Ns C m->ar H' D (.lst acc) C=none->C≠X.env.locals->X.s₀.heap.objs.size<=C ->
   (∀x c,X.env.cells.lookup x=some c->c≠C)->(∀p∈X.pn++pins,p.1≠C)->RR (.ref D) C (.ok .next) s') :
  wpAny (model X.prog X.w) X.A (newList []) (fun acc s₃=>wpAny (model X.prog X.w) X.A (newFunctionEnv scope X.env.globals (dq X.env scope.names []) [] X.env.qual none .none (some X.env)) (fun cenv s₄=>
   codeAny (model X.prog X.w) X.A (.compStart (.ListComp elt [⟨tg,iter,ifs,0⟩] scope pos) 0 (.ref it) acc {cenv with scope:=relabel scope X.env}) (RR acc cenv.locals) s₄) E s₃) E s:=by
 obtain⟨W,⟨m0,w0⟩,turn⟩:=hW;refine wpAny_newObj_type (dz ?_);dsimp only;generalize hH2:s.heap.push {cls:=.type "list",dict:=none,data:=.seq ([]:List Value).toArray}=H2;generalize hh1:pushCells (H2.push {cls:=.type "dict",data:=.dict #[]}) scope.names=h₁;have hpk:∀b o,(H2.push {cls:=.type "dict",data:=.dict #[]}).get? b=some o->h₁.get? b=some o:=fun b o e=>hh1▸pushCells_keeps _ _ b o e;have hns₁:h₁.Ns H2.objs.size fun _=>none:=by
  have q:(H2.push {cls:=.type "dict",data:=.dict #[]}).Ns H2.objs.size fun _=>none:=Heap.Ns.new ..;exact q.at' fun o e=>hpk _ o e
 have hown₁:∀x c,(x,c)∈cellsFrom (H2.objs.size+1) scope.names []->h₁.IsCell c none:=fun x c e=>by
  have ok:=cellsFrom_ok scope.names (H2.push {cls:=.type "dict",data:=.dict #[]}) (H2.objs.size+1) [] ⟨fun _ _ hm=>(nomatch hm),List.Pairwise.nil⟩ (by rw[Heap.size_push];exact Dg _);rw[Heap.size_push,hh1]at ok;exact(ok.empty x c e).1
 have hC:H2.objs.size=s.heap.objs.size+1:=by rw[<- hH2,Heap.size_push]
 have hDC:s.heap.objs.size≠H2.objs.size:=by rw[hC];exact Db (Dp _)
 have hCle:s.heap.objs.size<=H2.objs.size:=by rw[hC];exact Nat.le_succ _
 have below:∀b,b<s.heap.objs.size->b≠H2.objs.size/\b≠s.heap.objs.size:=fun b hb=>⟨by rw[hC];exact Db (Nat.lt_succ_of_lt hb),Db hb⟩;have old:∀b o,s.heap.get? b=some o->h₁.get? b=some o:=fun b o e=>hpk b o (CO _ (hH2▸CO _ e));have hacc:h₁.get? s.heap.objs.size=some (eJ [] 0):=hpk _ _ (CO _ (hH2▸CW _ rfl));have hob:∀b∈fp,∃o,s.heap.get? b=some o:=fun b hb=>let ⟨o,e,_⟩:=T.obj 0 _ st b hb;⟨o,e⟩
 have st₁:tn 0 h₁:=T.keep 0 _ _ st fun b _ o e=>old b o e;generalize hXb:X.blk (kL own js X.N) s H scope fp H2.objs.size=Xb;have I₁:Inv Xb [] (m9 own.length js σ) H {s with heap:=h₁}:=hXb▸uB I hk hCle hf hob rfl rfl hns₁ old hown₁ hcap;have eP:Xb.prog=X.prog:=by rw[<- hXb];rfl
 have ew:Xb.w=X.w:=by rw[<- hXb];rfl
 have eK:Xb.K=X.K:=by rw[<- hXb];rfl
 have eA:Xb.A=X.A:=by rw[<- hXb];rfl
 have ec:Xb.calm=true:=by rw[<- hXb];exact hc
 have eE:Xb.env=compEnvC scope (cS X.env scope H2.objs.size) H2.objs.size X.env:=by rw[<- hXb];rfl
 have ex:Xb.xe=fun _ _=>False:=by rw[<- hXb];rfl
 have es:Xb.s₀=s:=by rw[<- hXb];rfl
 have eh:Xb.H₀=H:=by rw[<- hXb];rfl
 have ef:Xb.fs=iJ X.stack:=by rw[<- hXb];rfl
 have exx:Xb.ex=fp:=by rw[<- hXb];rfl
 have ep:Xb.pn=[]:=by rw[<- hXb];rfl
 have eL:Xb.env.locals=H2.objs.size:=by rw[eE];rfl
 have hD0:H s.heap.objs.size=none:=I.hok.fresh (Dg _)
 -- D is no iterator's,no frame's
 have hDf:∀b∈fp,b≠s.heap.objs.size:=fun b hb e=>by
  obtain⟨o,q⟩:=hob b hb;rw[e]at q;exact absurd (Dj q) (Do _)
 have hDs:s.heap.objs.size∉Xb.fs:=fun z=>by
  rw[ef]at z;rcases C9.mp (I.stkSub _ z) with q | q
  ·exact absurd I.lt (by rw[<- q];exact Do _)
  ·exact I.nofs (Dg _) q
 have hDcell:∀x c,Xb.env.cells.lookup x=some c->c≠s.heap.objs.size:=fun x c e q=>by
  rcases I.blkL hk (C:=H2.objs.size) (x:=x) (c:=c) (by rw[eE]at e;exact e) with⟨_,z,_⟩ | z
  ·rw[q]at z
   exact absurd hCle (Nat.not_le.mpr z)
  ·obtain⟨v,o,ho,_⟩:=I.cell x c z
   rw[q]at ho;exact absurd (Dj ho) (Do _)
 have stat:∀{pl:List (Addr×Obj)} {H':Hp},(∀b∈fp,H' b=none)->(∀p∈pl,p.1=s.heap.objs.size)->∀b∈fp,kf Xb pl H' b:=fun hn hp b hb=>by
  refine⟨hn b hb,?_,?_,.inl (by rw[exx];exact hb),fun x c e=>?_,fun p hpp=>?_⟩
  ·rw[eL];exact(below b (let ⟨o,q⟩:=hob b hb;Dj q)).1
  ·rw[ef];intro z
   rcases C9.mp (I.stkSub b z) with q | q
   ·exact(hf b hb).2.1 q
   ·exact(hf b hb).2.2.1 q
  ·rcases I.blkL hk (C:=H2.objs.size) (x:=x) (c:=c) (by rw[eE]at e;exact e) with⟨_,z,_⟩ | z
   ·intro q
    rw[q]at z;obtain⟨o,q2⟩:=hob b hb;exact absurd (Da (Dj q2) hCle) (Nat.not_lt.mpr (Nat.le_of_lt z))
   ·exact(hf b hb).2.2.2.2.1 x c z
  ·rw[ep,DB]at hpp
   rw[hp p hpp];exact(hDf b hb).symm
 have loop:∀s₃:Shared,s₃={s with heap:=h₁} ->
   codeAny (model X.prog X.w) X.A (.compLoop (.ListComp elt [⟨tg,iter,ifs,0⟩] scope pos) 0 (.ref it) (.ref s.heap.objs.size) (compEnvC scope (cS X.env scope H2.objs.size) H2.objs.size X.env))
    (RR (.ref s.heap.objs.size) H2.objs.size) s₃:=by
  rintro s₃ rfl;refine o5 (fun n s'=>∃(i:Nat) (acc:List V) (its:List Value) (k:Nat) (σ':St) (H':Hp),Inv Xb [] σ' H' s'/\tn i s'.heap/\(∀b∈fp,H' b=none)/\H' s.heap.objs.size=none/\s'.heap.get? s.heap.objs.size=some (eJ its k)/\aH acc its/\W i n acc σ' H')
   ?_ m0 ⟨0,[],[],0,_,H,I₁,st₁,fun b hb=>(hf b hb).1,hD0,hacc,.nil,w0⟩
  rintro n s' ⟨i,acc,its,k,σ',H',I',st',fr',hD',oD',rv',w'⟩;obtain⟨hlen,tt⟩:=turn i n acc σ' H' w'
  -- the gathered list,pinned
  have Ip:Inv Xb [(s.heap.objs.size,eJ its k)] σ' H' s':=I'.pins_of fun p hp=>by
   have e:p=(s.heap.objs.size,eJ its k):=by simpa using hp
   subst e;exact⟨oD',hD',by rw[eL];exact hDC,hDs,fun v z=>by cases z⟩
  have hpl:∀p∈[(s.heap.objs.size,eJ its k)],p.1=s.heap.objs.size:=fun p hp=>by
   have e:p=(s.heap.objs.size,eJ its k):=by simpa using hp
   rw[e]
  rcases tt with⟨stop,q⟩ | ⟨go,N,hN,step⟩
  ·have d:=T.done Xb eP ew eK ec i _ s' σ' H' (fun _ _=>False) Ip (stat fr' hpl) st' stop
   rw[eA]at d;refine wpAny_mono d (fun r s1 hr=>?_) fun _ _ z=>z;obtain⟨rfl,I1⟩:=hr;have oD1:s1.heap.get? s.heap.objs.size=some (eJ its k):=(I1.pin _ (List.mem_append_right _ (CQ.mpr rfl))).1;obtain⟨mC,hnC,_⟩:=I1.loc;rw[eL]at hnC;obtain⟨oC,_,_,hoC,_⟩:=id hnC;have hCH:H' H2.objs.size=none:=by have:=I1.free;rwa [eL]at this
   have ub:Un (iJ X.stack) fp H H' s.heap s1.heap:=by have:=I1.base;rwa [ef,exx,eh,es]at this
   refine hRR _ _ s1 H' acc mC q hD' ?_ hnC ?_ ?_ ?_ ?_ ?_
   ·-- Aj outside
    refine I.call' (ch:=fp) (by have:=I1.os;rwa [es]at this) ⟨fun b o e n1 h1 h2=>ub.keep b o e n1 h1 h2,fun b o e n1 h1 h2=>ub.slot b o e n1 h1 h2,fun b o e n1 h1=>?_,ub.there,fun b xs e=>?_,fun b o u e=>?_,fun b ps e=>?_⟩ ?_ (by have:=I1.bare;exact this) fun b hb=>?_
    ·rw[ah (fun z=>by rw[z]at e;exact absurd (Dj e) (Do _))]
     exact ub.free b o e n1 h1
    ·rw[ah (au (ub.tups b xs e) hD')]
     exact ub.tups b xs e
    ·rw[ah (au (ub.frzs b o u e) hD')]
     exact ub.frzs b o u e
    ·obtain⟨more,z⟩:=ub.tbls b ps e
     exact⟨more,by rw[ah (au z hD')];exact z⟩
    ·intro b u e
     have hokb:=I1.hok;rw[eP,ew]at hokb
     by_cases hb:b=s.heap.objs.size
     ·subst hb
      rw[ac]at e;cases e;exact⟨Nat.le_of_lt hlen,its,k,rv',oD1⟩
     ·rw[ah hb]at e
      refine(hokb b u e).stay (fun c v _ z=>z) (fun c z=>?_) fun c xs z=>?_
      ·rw[ah (au z hD')];exact z
      ·rw[ah (au z hD')];exact z
    ·exact⟨(hf b hb).2.2.2.1,(hf b hb).2.1,(hf b hb).2.2.2.2.1,(hf b hb).2.2.2.2.2⟩
   ·rw[ah hDC.symm];exact hCH
   ·intro z;have:=I.lt;rw[<- z]at this;exact absurd this (Nat.not_lt.mpr hCle)
   ·exact Dm I.sz hCle
   ·intro x c e z
    obtain⟨v,o,ho,_⟩:=I.cell x c e;rw[z]at ho;exact absurd (Dj ho) (Nat.not_lt.mpr hCle)
   ·intro p hp z
    have:=(I.pin p hp).1;rw[z]at this;exact absurd (Dj this) (Nat.not_lt.mpr hCle)
  ·have d:=T.item Xb eP ew eK ec i _ s' σ' H' (fun _ _=>False) Ip (stat fr' hpl) st' go
   rw[eA]at d;refine wpAny_mono d (fun r s1 hr=>?_) fun _ _ z=>z;obtain⟨u,rfl,d2⟩:=hr;refine wpAny_mono d2 (fun _ s2 hr2=>?_) fun _ _ z=>z;obtain⟨x,H2',I2,r2,y2,st2,fr2⟩:=hr2;have I2':=I2.pinned (stat fr2 hpl) (T.obj _ _ st2);have G:=hXb▸hg s H fp H2.objs.size;have d3:=G _ s2 σ' H2' x u _ I2' r2 (step x H2' y2);rw[eP,ew,eA,ex,eE]at d3;refine wpAny_mono d3 (fun _ s3 hr3=>?_) fun _ _ z=>z;obtain⟨σ3,H3,I3,q3⟩:=hr3;have Gi:=hXb▸hi s H fp H2.objs.size;have d4:=Gi _ s3 σ3 H3 _ I3 q3;rw[eP,ew,eA,ex,eE]at d4;refine wpAny_mono d4 (fun b s4 hr4=>?_) fun _ _ z=>z;obtain⟨H4,I4,q4⟩:=hr4;have again:∀{s5:Shared} {H5:Hp} {σ5:St},Inv Xb ([(s.heap.objs.size,eJ its k)]++lN fp s2.heap) σ5 H5 s5->s5.heap.get? s.heap.objs.size=some (eJ its k)/\H5 s.heap.objs.size=none/\tn (i+1) s5.heap/\∀b∈fp,H5 b=none:=fun{s5 H5 σ5} I5=>by
    have pD:=I5.pin (s.heap.objs.size,eJ its k) (List.mem_append_right _ (List.mem_append_left _ (CQ.mpr rfl)));refine⟨pD.1,pD.2.1,T.keep _ _ _ st2 fun b hb o e=>(I5.pin (b,o) (List.mem_append_right _ (List.mem_append_right _ (fb hb e)))).1,fun b hb=>?_⟩;obtain⟨o,e,_⟩:=T.obj _ _ st2 b hb;exact(I5.pin (b,o) (List.mem_append_right _ (List.mem_append_right _ (fb hb e)))).2.1
   have bare:∀{s5:Shared} {H5:Hp} {σ5:St} {pl:List (Addr×Obj)},Inv Xb pl σ5 H5 s5->Inv Xb [] σ5 H5 s5:=fun I5=>I5.pins_of fun p hp=>nomatch hp;cases b with
   |false=>
    obtain⟨m',hm,w5⟩:=hN _ _ _ q4;obtain⟨a1,a2,a3,a4⟩:=again I4;exact⟨m',hm,i+1,acc,its,k,σ3,H4,bare I4,a3,a4,a2,a1,rv',w5⟩
   |true=>
    have Ge:=hXb▸he s H fp H2.objs.size;have d5:=Ge _ s4 σ3 H4 _ I4 q4;rw[eP,ew,eA,ex,eE]at d5;refine wpAny_mono d5 (fun y s5 hr5=>?_) fun _ _ z=>z;obtain⟨v,H5,I5,r5,q5⟩:=hr5;obtain⟨m',hm,w5⟩:=hN _ _ _ q5;obtain⟨a1,a2,a3,a4⟩:=again I5;have hl:=rv'.length;refine call_meets F.slot_list_append ⟨_,a1,rfl⟩ F.entry_list_append (F.args_list_append_2 _ _) (PySem.list_append s.heap.objs.size its.toArray k y (by rw[CY];omega)) ⟨a1,?_⟩;have qu:=PySem.IsL.update a1 (fun x_1=>x_1.push y);have qe:(its.toArray.push y)=(its++[y]).toArray:=by simp
    rw[qe]at qu;have I6:Inv Xb [] σ3 H5 {s5 with heap:=s5.heap.update s.heap.objs.size (Obj.mapSeq fun x_1=>x_1.push y),toks:=s5.toks}:=
     (bare I5).turned (fun b o hb e=>(CV s5.heap _ (Ne.symm hb)).trans e) a2 (by rw[eL];exact hDC) (.inr (by rw[es];exact Dg _)) hDcell (by rw[ep];intro p hp;exact nomatch hp)
    refine⟨m',hm,i+1,acc++[v],its++[y],_,σ3,H5,I6,T.keep _ _ _ a3 (fun b hb o e=>(CV s5.heap _ (hDf b hb).symm).trans e),a4,a2,qu,rv'.append (.cons r5 .nil),w5⟩
 refine codeAny_compStart_list (loop _ rfl) ?_;exact T.self _ 0 _ _ _ st₁ (loop _ rfl)
theorem fF{elt tg iter:Expr}{ifs:List Expr}{scope:Scope}{pos:Pos}(own:List Str)(js:List Nat){wi:TI}{g:TG}{ti:TT}{te:TE}(hc:X.calm=true)(hk:bG scope X.env.scope)
  (hcap:(js.all fun j=>scope.names.contains (X.N.getD j Str.empty,NameKind.free))=true) (hw:PI X tg iter wi)
  (hg:∀s H fp C,PG (X.blk (kL own js X.N) s H scope fp C) tg g) (hi:∀s H fp C,zn (X.blk (kL own js X.N) s H scope fp C) ifs ti) (he:∀s H fp C,PE (X.blk (kL own js X.N) s H scope fp C) elt te)
  (hs:∀x,foldedSetIterable iter X.env x=pure x:=by intro _;rfl):PE X (.ListComp elt [⟨tg,iter,ifs,0⟩] scope pos) (sP own.length js wi g ti te):=by
 intro pins s σ H Q I h;rw[eval_ListComp];refine wpAny_comprehension_free (use:=none) rfl hs (gF (I.capFree hk)) hk.kind hk.loc (bq (hw pins s σ H _ I h) fun v s1 h1=>bq h1 fun itv s2 h2=>?_);obtain⟨it,fp,tn,J,H2,rfl,I2,T,st2,f2,hW⟩:=h2;refine mX (RR:=fun acc C=>compPost (model X.prog X.w) X.A X.xe none (EP X pins σ Q) acc C) (Q:=fun acc H'=>∀l,H' l=none->Q (.ref l) (ar H' l (.lst acc))) hc hk hcap hg hi he I2 T st2 f2 hW ?_;intro D C s' H' acc m q hD I' hn hC0 hCL hCs hCc hCp;refine⟨m,hn,fun h' sb=>?_⟩;exact⟨.ref D,_,I'.turned (t':=s'.toks) (fun b o hb e=>(sb.2 b hb).trans e) hC0 hCL (.inr hCs) hCc hCp,rfl,q D hD⟩
theorem iY{i:Nat}{x:Str}{elt tg iter:Expr}{ifs:List Expr}{scope:Scope}{pos spos:Pos}{px:Pos}(own:List Str)(js:List Nat){wi:TI}{g:TG}{ti:TT}{te:TE}(hN:X.N.Nodup)(hxi:X.N[i]?=some x)(hx:Loc X.env.scope x)
  (hsw:swapsWith (.ListComp elt [⟨tg,iter,ifs,0⟩] scope pos) (some (.Name x px)) spos.line X.env=pure true)
  (hc:X.calm=true) (hk:bG scope X.env.scope)
  (hcap:(js.all fun j=>scope.names.contains (X.N.getD j Str.empty,NameKind.free))=true) (hw:PI X tg iter wi)
  (hg:∀s H fp C,PG (X.blk (kL own js X.N) s H scope fp C) tg g) (hi:∀s H fp C,zn (X.blk (kL own js X.N) s H scope fp C) ifs ti) (he:∀s H fp C,PE (X.blk (kL own js X.N) s H scope fp C) elt te)
  (hs:∀x,foldedSetIterable iter X.env x=pure x:=by intro _;rfl) (hf:X.fn x=true\/X.env.scope.names.lookup x=some .local:=by first | exact .inl rfl | exact .inr rfl | assumption) :
  PS X (.Assign [.Name x px] (.ListComp elt [⟨tg,iter,ifs,0⟩] scope pos) spos) (xx (sP own.length js wi g ti te) (j1 i)):=by
 intro pins s σ H Dn I h;rw[exec_Assign_Name_used _ _ _ _ hsw];refine wpAny_bind (wpAny_standAt (wpAny_bind ?_));show wpAny _ _ (do let _ <- comprehension (.ListComp elt [⟨tg,iter,ifs,0⟩] scope pos) scope X.env _ (newList []) false (eval iter X.env) (some (assign (.Name x px) X.env))) _ _ s;refine wpAny_bind (wpAny_mono (wpAny_comprehension_free (use:=some (assign (.Name x px) X.env)) (Q:=fun _ s'=>SP X pins Dn .next s') (E:=X.xe) rfl hs (gF (I.capFree hk)) hk.kind hk.loc ?_) (fun _ s' q=>wpAny_pure (wpAny_pure q)) fun _ _ z=>z);refine(bq (hw pins s σ H _ I h) fun v s1 h1=>bq h1 fun itv s2 h2=>?_);obtain⟨it,fp,tn,J,H2,rfl,I2,T,st2,f2,hW⟩:=h2;refine mX (RR:=fun acc C=>compPost (model X.prog X.w) X.A X.xe (some (assign (.Name x px) X.env)) (fun _ s'=>SP X pins Dn .next s') acc C) (Q:=fun acc H'=>∀l,H' l=none->j1 i (.ref l) σ (ar H' l (.lst acc)) Dn.nx) hc hk hcap hg hi he I2 T st2 f2 hW ?_;intro D C s' H' acc m q hD I' hn hC0 hCL hCs hCc hCp;show wpAny _ _ (assign (.Name x px) X.env (.ref D)) _ _ s';refine wpAny_assign_Name (mW I' hN hxi hx (v:=.ref D) rfl (fun s'' I'' sb=>?_) hf);obtain⟨a,sb,ha⟩:=sb;have hCa:C≠a:=by
  rcases ha with z | z
  ·rw[z];exact hCL
  ·exact(hCc x a z).symm
 refine⟨m,hn.sameBut sb hCa,fun h' sb'=>?_⟩;exact⟨_,_,I''.turned (t':=s''.toks) (fun b o hb e=>(sb'.2 b hb).trans e) hC0 hCL (.inr hCs) hCc hCp,q D hD⟩
end
section
variable {K:PySem.W.Frag}{g:TG}{ti:TT}{te:TE}{σ:St}{H:Hp}{Q:List V->Hp->Prop}
theorem oZ{J:It}{n:Nat}(Pv:Nat->List V->St->Hp->Prop)(h0:Pv 0 [] σ H)(hz:∀i acc σ H,Pv i acc σ H->acc.length<sizeLine)(hi:∀i acc σ H,Pv i acc σ H->i<=n)
  (stop:∀acc σ H,Pv n acc σ H->J.stop n H) (go:∀i acc σ H,i<n->Pv i acc σ H->J.go i H)
  (hs:∀i x acc σ H H2,i<n->Pv i acc σ H->J.yld i H x H2->g x σ H2 fun σ2 H3=>ti σ2 H3 fun b H4=>if b=true then te σ2 H4 fun v H5=>Pv (i+1) (acc++[v]) σ2 H5 else Pv (i+1) acc σ2 H4)
  (he:∀acc σ H,Pv n acc σ H->Q acc H) :
  jk J g ti te σ H Q:=by
 refine⟨fun i m acc σ H=>Pv i acc σ H/\m=n+1-i,⟨n+1,h0,rfl⟩,?_⟩;rintro i m acc σ' H' ⟨w,rfl⟩;refine⟨hz i acc σ' H' w,?_⟩;have hle:=hi i acc σ' H' w;rcases Nat.lt_or_ge i n with hlt | hge
 ·refine .inr ⟨go i acc σ' H' hlt w,fun acc' σ2 H2=>Pv (i+1) acc' σ2 H2,fun acc' σ2 H2 w2=>⟨n+1-(i+1),?_,w2,rfl⟩,fun x H2 y=>hs i x acc σ' H' H2 hlt w y⟩
  have:=hi (i+1) acc' σ2 H2 w2;omega
 ·have e:i=n:=by omega
  subst e;exact .inl ⟨stop acc σ' H' w,he acc σ' H' w⟩
theorem jM{a:Addr}{xs:List V}(Pv:Nat->List V->St->Hp->Prop)(h0:Pv 0 [] σ H)(hz:∀i acc σ H,Pv i acc σ H->acc.length<sizeLine)(hi:∀i acc σ H,Pv i acc σ H->i<=xs.length)
  (hl:∀i acc σ H,Pv i acc σ H->bp K H a xs)
  (hs:∀i x acc σ H,xs[i]?=some x->Pv i acc σ H->g x σ H fun σ2 H3=>ti σ2 H3 fun b H4=>if b=true then te σ2 H4 fun v H5=>Pv (i+1) (acc++[v]) σ2 H5 else Pv (i+1) acc σ2 H4)
  (he:∀acc σ H,Pv xs.length acc σ H->Q acc H):jk (wT K a) g ti te σ H Q:=by
 exact oZ (J:=wT K a) (g:=g) (ti:=ti) (te:=te) (Q:=Q) (n:=xs.length) Pv h0 hz hi (fun acc σ H w=>⟨xs,hl _ _ _ _ w,Dg _⟩)
  (fun i acc σ H hlt w=>⟨xs,xs[i],hl _ _ _ _ w,mk hlt⟩) (fun i x acc σ H H2 hlt w y=>by obtain⟨rfl,hx⟩:=y;exact hs i x acc σ H2 (hx xs (hl _ _ _ _ w)) w) he
theorem fu{lo:Int}{n:Nat}(Pv:Nat->List V->St->Hp->Prop)(h0:Pv 0 [] σ H)(hz:∀i acc σ H,Pv i acc σ H->acc.length<sizeLine)(hi:∀i acc σ H,Pv i acc σ H->i<=n)
  (hs:∀i acc σ H,i<n->Pv i acc σ H->g (.int (lo+i)) σ H fun σ2 H3=>ti σ2 H3 fun b H4=>if b=true then te σ2 H4 fun v H5=>Pv (i+1) (acc++[v]) σ2 H5 else Pv (i+1) acc σ2 H4)
  (he:∀acc σ H,Pv n acc σ H->Q acc H):jk (vf lo n) g ti te σ H Q:=by
 exact oZ (J:=vf lo n) (g:=g) (ti:=ti) (te:=te) (Q:=Q) (n:=n) Pv h0 hz hi (fun acc σ H w=>Dg _) (fun i acc σ H hlt w=>hlt) (fun i x acc σ H H2 hlt w y=>by obtain⟨rfl,rfl⟩:=y;exact hs i acc σ H2 hlt w) he
end
structure gW(P:Program)(w:World)(K:PySem.W.Frag)(mg:Str->Option Value)(base:Heap)(CX:iz)(k:Nat)(x:Str)(ps:List Str)(sp:Sp):Prop where
 ex:∃(f:Addr) (fd:FuncData),aO P w K mg base CX k f fd ps sp/\mg x=some (.ref f)/\PySem.W.keepIn K (.ref f)=true/\cL K fd ps []
structure NB(mg:Str->Option Value):Prop where
 len:mg "len"=none
 range:mg "range"=none
 list:mg "list"=none
 tuple:mg "tuple"=none
 isinstance:mg "isinstance"=none
 int:mg "int"=none
 bool:mg "bool"=none
 str:mg "str"=none
 reversed:mg "reversed"=none
 all:mg "all"=none
 enumerate:mg "enumerate"=none
 zip:mg "zip"=none
 sorted:mg "sorted"=none
 set:mg "set"=none
 dict:mg "dict"=none
 min:mg "min"=none
 max:mg "max"=none
 sum:mg "sum"=none
 ValueError:mg "ValueError"=none
section
variable {X:Cx}{CX:iz}{k:Nat}{x:Str}{ps:List Str}{sp:Sp}{E:XK}{p pos:Pos}{e:Expr}{es:List Expr}{t:TA}
theorem aI(C:gW X.prog X.w X.K X.mg X.base CX k x ps sp)(hr:cq k X.A)(hg:Gl X x)(hx:cF CX X E)(ha:PA X (e::es) t)(hdb:(x==("__debug__":Str))=false:=by decide +kernel)
  (hst:starEach (e::es) X.env=(false,eval e X.env)::starEach es X.env:=by rfl) (hpl:(backTo pos (starEach es X.env)).any (·.1)=false:=by rfl):PE X (.Call (.Name x p) (e::es) [] pos) (li sp [] E t):=by
 obtain⟨f,fd,F,hm,hk,hb⟩:=C.ex;exact xz F hr hg hm hk hb .nil hx ha hdb hst hpl
end
section
variable {X:Cx}{tg:Expr}
noncomputable def v7(_ j:Int):Prop:=0<j/\j<18446744073709551616
theorem aT:aN X (binaryOp .FloorDiv) (rI v7 fun i j=>.int (i/j)):=Am fun i j _ _ _ _ _ hc q=>by
 have h1:(0:Int)<j:=hc.1;have h2:j<18446744073709551616:=hc.2;refine floordiv_int (by omega) (by rw[Int.fdiv_eq_ediv_of_nonneg i (by omega)];exact q) (.inl (PyProof.noPylong_of_log2 ?_));have h64:j.natAbs.log2<64:=(Nat.log2_lt (by omega)).mpr (by omega);omega
theorem iL:∀{ys:List Str} {us:List Value},aH (ys.map V.str) us->StrsAre us ys
 | [],_,.nil=>.nil
 |y::ys,_,.cons r t=>by
  obtain⟨tk,rfl⟩:=r;exact .cons y tk (iL t)
noncomputable def u_(K:PySem.W.Frag):V->List V->Hp->VK->Prop:=fun x xs H Q=>∃z p ys,x=.str z/\xs=[.ref p]/\(bp K H p (ys.map V.str)\/bv K H p (ys.map V.str))/\(ys.map (·.length)).sum+ys.length*z.length<=16777216/\Q (.str (Txt.join z ys)) H
theorem sM:AE X "str.join" (u_ X.K):=by
 intro pins s σ H x xs v us Q I rx rv h;obtain⟨z,p,ys,rfl,rfl,hs,hz,q⟩:=h;obtain⟨t,rfl⟩:=rx;obtain⟨u,rfl,ru⟩:=rv.one;cases ru;rcases hs with hs | hs
 ·obtain⟨its,r,pl,_⟩:=I.list hs
  exact join_list pl.isList (by simpa using iL r) hz fun t' k=>⟨.str _,H,I.tok k,⟨t',rfl⟩,q⟩
 ·obtain⟨its,r,pl,_⟩:=I.tuple hs
  exact join_tuple pl (by simpa using iL r) hz fun t' k=>⟨.str _,H,I.tok k,⟨t',rfl⟩,q⟩
noncomputable def zD(x:Str):It:=⟨fun i _=>i<x.cps.size,fun i H v H'=>H'=H/\∃c,x.cps[i]?=some c/\v=.str ⟨#[c]⟩,fun i _=>x.cps.size<=i⟩
theorem vy{P:Program}{w:World}{K:PySem.W.Frag}{tg:Expr}(x:Str)(t:Tok)(it:Addr):r8 P w K tg (zD x) [it] it (fun i h=>h.IsStrIter it (strIterType x) x t i) where
 mem:=by simp
 obj:=fun i h st b hb=>by
  have e:b=it:=by simpa using hb
  subst e;obtain⟨o,e,c,d⟩:=st;exact⟨o,e,fun v z=>by rw[d]at z;cases z⟩
 keep:=fun i h h' st k=>by
  obtain⟨o,e,c,d⟩:=st;exact⟨o,k it (by simp) o e,c,d⟩
 item:=by
  intro X hP hw hK hc i pins s σ H E I hf st hg;subst hP hw hK;obtain⟨f0,f1,f2,f3,f4,f5⟩:=hf it (by simp);have hi:i<x.cps.size:=hg;have hx:x.cps[i]?=some x.cps[i]:=Array.getElem?_eq_getElem hi;have fin:∀h',h'.IsStrIter it (strIterType x) x t (i+1)->Heap.SameBut it s.heap h'->∃u,(some (Value.str ⟨#[x.cps[i]]⟩ s.toks))=some u /\
    wpAny (model X.prog X.w) X.A (letOwnedTupleGo tg (.ref it) u) (fun _ s2=>∃v H',Inv X pins σ H' s2/\aG v u/\(zD x).yld i H v H'/\s2.heap.IsStrIter it (strIterType x) x t (i+1)/\∀b∈[it],H' b=none) E {s with heap:=h',toks:=s.toks+1}:=fun h' st' sb=>by
   have I1:Inv X pins σ H {s with heap:=h',toks:=s.toks+1}:=I.turned (fun b o hb e=>(sb.2 b hb).trans e) f0 f1 f3 f4 f5;obtain⟨o,e,c,d⟩:=id st';refine⟨_,rfl,sV (s:={s with heap:=h',toks:=s.toks+1}) e c d ?_ ⟨.str ⟨#[x.cps[i]]⟩,H,I1,⟨_,rfl⟩,⟨rfl,_,hx,rfl⟩,st',fun b hb=>(hf b hb).1⟩⟩;unfold strIterType
   split<;>decide
  cases ha:x.cps.all (· < 128) with
  |true=>
   have ety:strIterType x="str_ascii_iterator":=by unfold strIterType;rw[ha];rfl
   rw[ety]at st fin ⊢;exact wpAny_pyNext_ascii_item st hx fin
  |false=>
   have ety:strIterType x="str_iterator":=by unfold strIterType;rw[ha];rfl
   rw[ety]at st fin ⊢;exact wpAny_pyNext_wide_item st hx fin
 done:=by
  intro X hP hw hK hc i pins s σ H E I hf st hg;subst hP hw hK;obtain⟨f0,f1,f2,f3,f4,f5⟩:=hf it (by simp);have hi:x.cps.size<=i:=hg;have hx:x.cps[i]?=none:=Array.getElem?_eq_none hi;cases ha:x.cps.all (· < 128) with
  |true=>
   have ety:strIterType x="str_ascii_iterator":=by unfold strIterType;rw[ha];rfl
   rw[ety]at st;exact wpAny_pyNext_ascii_end (I.ok.hd hc) st hx fun h' eb=>⟨rfl,I.turned (t':=s.toks) (fun b o hb e=>eb b o hb e) f0 f1 f3 f4 f5⟩
  |false=>
   have ety:strIterType x="str_iterator":=by unfold strIterType;rw[ha];rfl
   rw[ety]at st;exact wpAny_pyNext_wide_end (I.ok.hd hc) st hx fun h' eb=>⟨rfl,I.turned (t':=s.toks) (fun b o hb e=>eb b o hb e) f0 f1 f3 f4 f5⟩
 self:=fun A i s Q E st h=>by
  cases ha:x.cps.all (· < 128) with
  |true=>
   have ety:strIterType x="str_ascii_iterator":=by unfold strIterType;rw[ha];rfl
   rw[ety]at st;exact wpAny_pyIter_striter_ascii st h
  |false=>
   have ety:strIterType x="str_iterator":=by unfold strIterType;rw[ha];rfl
   rw[ety]at st;exact wpAny_pyIter_striter_wide st h
noncomputable def yq(tl:TE):TI:=fun σ H R=>tl σ H fun v H1=>∃x,v=.str x/\R (zD x) H1
theorem yV{l:Expr}{tl:TE}(hl:PE X l tl):PI X tg l (yq tl):=by
 intro pins s σ H R I h;refine bq (hl pins s σ H _ I h) fun v s1 ⟨x,H1,I1,r1,q1⟩=>?_;obtain⟨x,rfl,q⟩:=q1;obtain⟨t,rfl⟩:=r1;refine wpAny_pyIter_strU ?_;refine⟨s1.heap.objs.size,[s1.heap.objs.size],_,_,H1,rfl,I1.kept (t':=s1.toks) fun b o e=>CO _ e,vy x t _,⟨_,CW _ rfl,rfl,rfl⟩,fun b hb=>?_,q⟩;have e:b=s1.heap.objs.size:=by simpa using hb
 subst e;exact I1.fpOk (Dg _) (I1.hok.fresh (Dg _))
noncomputable def yz:V->Option Int->Option Int->Hp->VK->Prop:=fun x lo hi H Q=>∃z,x=.str z/\z.length<=sizeLine/\Q (.str (Txt.slice z lo hi)) H
theorem wG:zQ X yz:=by
 intro pins s σ H x v vl vu lo hi sl Q I rx hs pl pu h;obtain⟨z,rfl,hz,q⟩:=h;obtain⟨t,rfl⟩:=rx;have fin:∀t' k,EP X pins σ Q (.str (Txt.slice z lo hi) t') {s with toks:=k}:=fun t' k=>⟨.str _,H,I.tok k,⟨t',rfl⟩,q⟩;refine⟨"str",_,F.slot_str_getitem.lookup,typeIs_str _ _ _,?_⟩;cases pl with
 |none=>
  cases pu with
  |none=>exact wpAny_getItem_str_slice (l:=none) (u:=none) (st:=none) hs rfl (post_val_or_str ⟨Dm (Txt.slice_le z _ _) hz,fin⟩)
  |int j uj=>exact wpAny_getItem_str_slice (l:=none) (u:=some (j,uj)) (st:=none) hs rfl (post_val_or_str ⟨Dm (Txt.slice_le z _ _) hz,fin⟩)
 |int i ui=>
  cases pu with
  |none=>exact wpAny_getItem_str_slice (l:=some (i,ui)) (u:=none) (st:=none) hs rfl (post_val_or_str ⟨Dm (Txt.slice_le z _ _) hz,fin⟩)
  |int j uj=>exact wpAny_getItem_str_slice (l:=some (i,ui)) (u:=some (j,uj)) (st:=none) hs rfl (post_val_or_str ⟨Dm (Txt.slice_le z _ _) hz,fin⟩)
noncomputable def rl:V->Value
 | .ty n=>.type n
 | .ref a=>.ref a
 |_=>.none
noncomputable def i_:V->Bool
 | .ty _=>true
 | .ref _=>true
 |_=>false
theorem nY{c:V}{u:Value}(r:aG c u)(h:i_ c=true):u=rl c:=by
 cases c with
 |ty n=>exact r
 |ref a=>exact r
 |_=>cases h
noncomputable def xI(K:PySem.W.Frag):List V->Hp->VK->Prop:=fun xs H Q=>∃x c t b,xs=[x,c]/\i_ c=true/\hV K H x t/\PySem.W.kitOne K t (rl c)=some b/\Q (.bl b) H
theorem cA:eY X (.builtin "isinstance") (xI X.K):=by
 intro pins s σ H xs us Q I r h;obtain⟨x,c,t,b,rfl,hc,ty,e,q⟩:=h;obtain⟨u,v,rfl,ru,rv⟩:=r.two;rw[nY rv hc];exact tH I ru ty e fun tk=>⟨.bl b,H,I.tok tk,rfl,q⟩
theorem wD(K:PySem.W.Frag)(n:String):PySem.W.kitOne K (.type n) (.type n)=some true:=by
 unfold PySem.W.kitOne;rw[if_pos (beq_self_eq_true _)]
inductive Dt where
 |non | bl (b:Bool) | int (i:Int) | str (x:Str) | lst (ds:List Dt) | tup (ds:List Dt)
end
end L2
namespace fY
noncomputable abbrev AA:=List Nat
noncomputable abbrev fY:=List AA
noncomputable def yL(p:fY):fY:=p.map List.reverse
noncomputable def col(p:fY)(i:Nat):AA:=p.reverse.map fun x=>x.getD i 0
noncomputable def xD(p:fY):fY:=(List.range (p.headD []).length).map (col p)
noncomputable def qg:Nat->fY->fY
 |0,p=>p
 |n+1,p=>qg n (xD p)
noncomputable def turned(p:fY)(t:Nat):fY:=qg (t%4) (if 4<=t then yL p else p)
noncomputable def after(t u:Nat):Nat:=if u<4 then t/4*4+(t+u)%4 else(1-t/4)*4+(u+8-t)%4
noncomputable def Aj(t:Nat):Nat:=if t<4 then(4-t)%4 else t
end fY
namespace QL
open PySem L2 fY
noncomputable def tx(r:List Nat):Str:=⟨r.toArray⟩
noncomputable def aW(p:fY):List V:=p.map fun r=>V.str (tx r)
theorem aY(r:List Nat):(tx r).length=r.length:=by show r.toArray.size=r.length;simp
theorem kl(r:List Nat):(tx r).cps.toList=r:=by show r.toArray.toList=r;simp
theorem bP(p:fY):(aW p).length=p.length:=by unfold aW;simp
theorem jI{p:fY}{i:Nat}(h:i<p.length):(aW p)[i]?=some (V.str (tx p[i])):=by unfold aW;rw[CS,mk h];rfl
theorem vA:∀(ys:List (List Nat)),Txt.join (Str.ofString "") (ys.map tx)=tx ys.flatten
 | []=>rfl
 |y::ys=>by
  have key:∀(zs:List (List Nat)) (a:List Nat),(zs.map tx).foldl (fun acc (p:Str)=>acc++(Str.ofString "").cps++p.cps) a.toArray=(a++zs.flatten).toArray:=by
   intro zs
   induction zs with
   |nil=>intro a;simp
   |cons z zs ih=>
    intro a;rw[Dl,List.foldl_cons];have e:a.toArray++(Str.ofString "").cps++(tx z).cps=(a++z).toArray:=by
     have e0:(Str.ofString "").cps=#[]:=rfl;rw[e0];show a.toArray ++ #[]++z.toArray=_;simp
    rw[e,ih];simp
  show(⟨(ys.map tx).foldl (fun acc (p:Str)=>acc++(Str.ofString "").cps++p.cps) (tx y).cps⟩:Str)=_;show(⟨(ys.map tx).foldl (fun acc (p:Str)=>acc++(Str.ofString "").cps++p.cps) y.toArray⟩:Str)=_;rw[key]
  rfl
theorem mP(r:List Nat):Txt.join (Str.ofString "") (r.map fun c=>(⟨#[c]⟩:Str))=tx r:=by
 have e:(r.map fun c=>(⟨#[c]⟩:Str))=(r.map fun c=>[c]).map tx:=by rw[C8];rfl
 rw[e,vA]
 congr 1
 clear e
 induction r with
 |nil=>rfl
 |cons c r ih=>simp[ih]
theorem bh{n:Nat}(h:n<=1000000):n<sizeLine:=by have:=sizeLine_eq;omega
theorem am{n:Nat}(h:n<=1000000):n<=sizeLine:=by have:=sizeLine_eq;omega
theorem af{H:Hp}{l:Addr}{o:HO}(h:H l=none):ax H (ar H l o):=fun b u e=>by rw[ah (au e h)];exact e
theorem gP{H0 H:Hp}{l:Addr}{o:HO}(s:ax H0 H)(h:H0 l=none):ax H0 (ar H l o):=fun b u e=>by rw[ah (au e h)];exact s b u e
noncomputable def qh(H:Hp)(p:fY)(Q:VK):Prop:=∀(l:Addr) (H':Hp),H l=none->H' l=some (.lst (aW p))->ax H H'->Q (.ref l) H'
theorem ye{α:Type}{xs:List α}{i:Int}(h0:0<=i)(h1:i<xs.length):∃v,v∈xs/\ki xs i=some v:=by
 have hb:i.toNat<xs.length:=by omega
 obtain⟨j,hj⟩:∃j:Nat,i=(j:Int):=⟨i.toNat,by omega⟩;subst hj;exact⟨xs[j]'(by omega),CZ _,c8 (mk (by omega))⟩
theorem oH(K:PySem.W.Frag):PySem.W.kitOne K (.type "int") (.type "bool")=some false:=by kernel_rfl
end QL
namespace L2
open PySem PySem.Spec PyProof.Rows
section
variable {X:Cx}
theorem eW:eY X (.builtin "len") (fun xs H Q=>∃p ys,xs=[.ref p]/\bp X.K H p ys/\Q (.int ys.length) H):=fun pins s σ H xs us Q I r ⟨p,ys,e,h,q⟩=>o4 pins s σ H xs us Q I r ⟨p,ys,e,.inl h,q⟩
theorem xf(i j:Int):(w4 (.int i) (.int j)=true)=True:=by simp[w4]
theorem m_{a:Expr}{ta:TE}(ha:PE X a ta)(he:∀whole,isTrue a X.env whole=(do let v <- whole;standAt a.pos;holding [v] (truthy v))):PT X a (sE ta):=by
 intro pins s σ H Q I h;rw[he];refine wpAny_bind (bq (ha pins s σ H _ I h) fun v s1 ⟨x,H1,I1,r1,k,e,q⟩=>?_);subst e;cases r1;exact wpAny_bind (wpAny_standAt (wpAny_holding (wpAny_truthy_bool ⟨H1,I1,q⟩)))
noncomputable def vi(J:It)(g:TG)(tb:TS)(D:iN)(σ:St)(H:Hp):Prop:=∃W:Nat->Nat->St->Hp->Prop,(∃m,W 0 m σ H)/\∀i m σ H,W i m σ H ->
 (J.stop i H/\D.nx σ H)\/(J.go i H/\∃N:St->Hp->Prop,(∀σ' H',N σ' H'->∃m',m'<m/\W (i+1) m' σ' H')/\∀x H',J.yld i H x H'->g x σ H' fun σ2 H2=>tb {D with nx:=N,ct:=N,bk:=D.nx} σ2 H2)
noncomputable def vS(wi:TI)(g:TG)(tb:TS):TS:=fun D σ H=>wi σ H fun J H1=>vi J g tb D σ H1
theorem bj{tg iter:Expr}{body:List Stmt}{wi:TI}{g:TG}{tb:TS}{pos:Pos}(hp:PassesOwn (model X.prog X.w) X.A X.env X.xe)(hc:X.calm=true)(hi:PI X tg iter wi)(hg:PG X tg g)(hb:qB X body tb)
  (hs:∀x,foldedSetIterable iter X.env x=pure x:=by intro _;rfl):PS X (.For tg iter body [] pos) (vS wi g tb):=yP hp hc hi hg hb hs
section
variable {K:PySem.W.Frag}{g:TG}{tb:TS}{D:iN}{σ:St}{H:Hp}
theorem cH{a:Addr}{xs:List V}(Pv:Nat->St->Hp->Prop)(h0:Pv 0 σ H)(hl:∀i σ H,i<=xs.length->Pv i σ H->bp K H a xs)
  (hs:∀i x σ H,xs[i]?=some x->Pv i σ H->g x σ H fun σ2 H2=>tb {D with nx:=Pv (i+1),ct:=Pv (i+1),bk:=D.nx} σ2 H2) (hd:∀σ H,Pv xs.length σ H->D.nx σ H):vi (wT K a) g tb D σ H:=vD Pv h0 hl hs hd
theorem bN{lo:Int}{n:Nat}(Pv:Nat->St->Hp->Prop)(h0:Pv 0 σ H)
  (hs:∀i σ H,i<n->Pv i σ H->g (.int (lo+i)) σ H fun σ2 H2=>tb {D with nx:=Pv (i+1),ct:=Pv (i+1),bk:=D.nx} σ2 H2) (hd:∀σ H,Pv n σ H->D.nx σ H):vi (vf lo n) g tb D σ H:=uQ Pv h0 hs hd
end
end
theorem dn:bootBuiltins "len"=some (.builtin "len"):=by decide +kernel
theorem o_:bootBuiltins "list"=some (.type "list"):=by decide +kernel
theorem wP:bootBuiltins "int"=some (.type "int"):=by decide +kernel
theorem xR:bootBuiltins "bool"=some (.type "bool"):=by decide +kernel
theorem bX:bootBuiltins "isinstance"=some (.builtin "isinstance"):=by decide +kernel
theorem yp:bootBuiltins "all"=some (.builtin "all"):=by decide +kernel
end L2
namespace PtM
open PySem PySem.Builtin.Str PySem.StrLaws
end PtM
namespace L2
open PySem PySem.Spec PyProof.Rows
section
variable {X:Cx}{a b c d:Expr}{ta tb tc td:TE}{pos:Pos}
noncomputable def y3(K:PySem.W.Frag):List V->Hp->VK->Prop:=fun xs H Q=>∃(p:Addr) (bs:List Bool),xs=[.ref p]/\bp K H p (bs.map V.bl)/\Q (.bl (bs.all id)) H
theorem sy:∀{bs:List Bool} {us:List Value} {i:Nat} {u:Value},aH (bs.map V.bl) us->us[i]?=some u->∃k,bs[i]?=some k/\u=.bool k
 | [],_,_,_,.nil,e=>by simp at e
 |k::bs,_,0,u,.cons r _,e=>by simp at e;subst e;exact⟨k,rfl,r⟩
 |k::bs,_,i+1,u,.cons _ t,e=>by
  obtain⟨k',h1,h2⟩:=sy (i:=i) t (by simpa using e);exact⟨k',by simpa using h1,h2⟩
theorem uO(bs:List Bool):((List.range bs.length).all fun i=>(bs[i]?).getD true)=bs.all id:=by
 rw[Bool.eq_iff_iff,Dz,Dz]
 constructor
 ·intro h x hx
  obtain⟨i,hi,e⟩:=List.getElem_of_mem hx;have q:=h i (List.mem_range.mpr hi);rw[mk hi,Option.getD_some,e]at q;exact q
 ·intro h i hi
  have hi':=List.mem_range.mp hi;rw[mk hi',Option.getD_some];exact h _ (CZ hi')
theorem u5(hc:X.calm=true):eY X (.builtin "all") (y3 X.K):=by
 intro pins s σ H xs us Q I r h;obtain⟨p,bs,rfl,hs,q⟩:=h;obtain⟨u,rfl,ru⟩:=r.one;cases ru;obtain⟨its,rv,pl,_⟩:=I.list hs;have hlt:p<s.heap.objs.size:=by obtain⟨_,e,_⟩:=pl.isList;exact Dj e
 have hlen:its.length=bs.length:=by rw[<- rv.length,CP]
 refine call_all_walk (wpAny_pyIter_list pl.isList ?_);refine⟨s.heap.objs.size,[s.heap.objs.size,p],[s.heap.objs.size],its.toArray.size,_,_,fun i=>(bs[i]?).getD true,rfl,Walks.list (A:=X.A.in1) (I.ok.hd hc) _ p (Db hlt) its.toArray,
  ⟨⟨_,CW _ rfl,rfl,rfl⟩,pl.isList.push _⟩,fun i v s' Q' E' hP hQ=>?_,fun h' tk hk=>?_⟩
 ·obtain⟨k,e,rfl⟩:=sy (i:=i) rv (by simpa using hP)
  dsimp only at hQ;rw[e,Option.getD_some]at hQ;exact wpAny_truthy_bool hQ
 ·have e:((List.range its.toArray.size).all fun i=>(bs[i]?).getD true)=bs.all id:=by rw[CY,hlen];exact uO bs
  rw[e];exact⟨.bl _,H,I.kept (t':=tk) fun b o eo=>hk b o (fun hm=>by rw[CQ.mp hm]at eo;exact Do _ (Dj eo)) (CO _ eo),rfl,q⟩
end
section
variable {K:PySem.W.Frag}{g:TG}{ti:TT}{te:TE}{σ:St}{H:Hp}{Q:List V->Hp->Prop}
end
end L2
namespace QL
open PySem L2 fY PySem.Builtin PySem.Builtin.Str
theorem rn(row:List Nat)(i k:Nat)(h:i+k<=row.length):((List.range k).map fun m=>i+m).filterMap (fun j=>row[j]?)=(row.drop i).take k:=by
 rw[List.filterMap_map]
 induction k with
 |zero=>simp
 |succ k ih=>
  rw[List.range_succ,List.filterMap_append,ih (by omega),List.take_add_one,List.getElem?_drop];have e:i+k<row.length:=by omega
  simp[mk e]
noncomputable def wf(n:Nat)(d:Int):Option Int->Int
 |none=>d
 |some i=>max 0 (min (if i<0 then i+(n:Int) else i) (n:Int))
theorem pL(n d:Nat)(v:Option Int):wf n (d:Int) v=((HT.sIx n d v:Nat):Int):=by
 cases v with
 |none=>rfl
 |some v=>
  show max 0 (min (if v<0 then v+(n:Int) else v) (n:Int))=(((if v<0 then(v+(n:Int)).toNat else min v.toNat n:Nat)):Int)
  by_cases hv:v<0
  ·rw[if_pos hv,if_pos hv,Int.max_def,Int.min_def]
   split<;>split at * <;> omega
  ·rw[if_neg hv,if_neg hv,Int.max_def,Int.min_def]
   split<;>split at * <;> omega
theorem rY(lo hi:Option Int)(n:Nat):strSliceIndices lo hi 1 n=sliceRange (wf n ((0:Nat):Int) lo) (wf n (n:Int) hi) 1:=by cases lo<;>cases hi<;>rfl
theorem mQ(row:List Nat)(lo hi:Option Int):Txt.slice (tx row) lo hi=tx ((row.drop (HT.sIx row.length 0 lo)).take (HT.sIx row.length row.length hi-HT.sIx row.length 0 lo)):=by
 have hl:=HT.sIx_le row.length 0 (Dh _) lo;have hh:=HT.sIx_le row.length row.length (Dg _) hi;have key:strSliceIndices lo hi 1 (tx row).length=(List.range (HT.sIx row.length row.length hi-HT.sIx row.length 0 lo)).map fun m=>HT.sIx row.length 0 lo+m:=by
  rw[aY,rY,pL,pL];generalize HT.sIx row.length 0 lo=a;generalize HT.sIx row.length row.length hi=b;unfold sliceRange;have en:(if(1:Int)>0 then(if(a:Int)<(b:Int) then((b:Int)-(a:Int)+1-1)/1 else 0) else(if(a:Int)>(b:Int) then((a:Int)-(b:Int)-1-1)/(-1) else 0)).toNat=b-a:=by
   rw[if_pos (by decide)]
   split<;>omega
  show(List.range (if(1:Int)>0 then(if(a:Int)<(b:Int) then((b:Int)-(a:Int)+1-1)/1 else 0) else(if(a:Int)>(b:Int) then((a:Int)-(b:Int)-1-1)/(-1) else 0)).toNat).map (fun(k:Nat)=>((a:Int)+1*(k:Int)).toNat)=_;rw[en];refine List.map_congr_left fun m _=>?_;omega
 unfold Txt.slice;rw[key];generalize HT.sIx row.length 0 lo=a at hl ⊢;generalize HT.sIx row.length row.length hi=b at hh ⊢
 by_cases hab:a+(b-a)<=row.length
 ·have e:(((List.range (b-a)).map fun m=>a+m).filterMap fun j=>(tx row).cps[j]?)=(row.drop a).take (b-a):=by
   rw[<- rn row a (b-a) hab]
   congr 1
   funext j
   show row.toArray[j]?=row[j]?;simp
  rw[e]
  split
  ·rename_i hw
   simp at hw;rw[aY]at hw;have ha0:a=0:=by omega
   have hb0:b-a=row.length:=by omega
   rw[ha0,DG];rw[ha0]at hb0;rw[hb0,Ds]
  ·rfl
 ·exact absurd hab (by omega)
end QL
namespace L2
open PySem PySem.Spec PyProof.Rows
section
variable {X:Cx}{K:PySem.W.Frag}{tg:Expr}
end
end L2
namespace PySem
open Sem (wp)
noncomputable def TrD(cp:Value->Prop)(h base:Heap)(e:Addr)(cls:Value)(od:Option Addr)(fl:Value):Prop:=
 ∃oe vs T oT ts,h.get? e=some oe/\oe.cls=cls/\oe.dict=od/\oe.data=.fields vs/\vs[1]?=some (.ref T)/\base.get? T=none/\T≠e/\h.get? T=some oT/\oT.data=.fields ts/\ts[3]?=some fl/\∃cx,vs[2]?=some cx/\cp cx
structure fW(cp:Value->Prop)(base:Heap)(l:List Env)(e:Addr)(cls:Value)(od:Option Addr)(fl:Value)(h:Heap):Prop where
 st:base.StaysIn h
 new:base.get? e=none
 ff:h.FunFrames base l
 tr:TrD cp h base e cls od fl
theorem fW.there{cp:Value->Prop}{base h:Heap}{l:List Env}{e:Addr}{cls fl:Value}{od:Option Addr}(x:fW cp base l e cls od fl h):∃oe vs,h.get? e=some oe/\oe.cls=cls/\oe.dict=od/\oe.data=.fields vs:=by
 obtain⟨oe,vs,_,_,_,a,b,c,d,_⟩:=x.tr;exact⟨oe,vs,a,b,c,d⟩
theorem lv(o:Obj)(f:Array Value->Array Value):(Obj.mapFields f o).dict=o.dict:=by unfold Obj.mapFields;split<;>rfl
section
variable {cp:Value->Prop}{M:Model}{A:Around}{E:Value->Shared->Prop}{s:Shared}{base:Heap}{env:Env}{outer:List Env}{L e:Addr}{Q:Unit->Shared->Prop}
theorem kt{cls fl:Value}{od:Option Addr}{l:List Env}(x:fW cp base l e cls od fl s.heap)(h:∀h',fW cp base l e cls od .none h'->s.heap.UpToSlots h'->Q () {s with heap:=h' }):wpAny M A (setFlight (.ref e) none) Q E s:=by
 obtain⟨oe,vs,T,oT,ts,he,hc,ho,hd,h1,hnT,hTe,hT,hdT,h3,hcx⟩:=x.tr;have hsz:3<ts.size:=(Array.getElem?_eq_some_iff.mp h3).1;have oth:∀b,b≠T->(s.heap.update T (Obj.mapFields (·.setIfInBounds 3 Value.none))).get? b=s.heap.get? b:=fun b hb=>CV _ _ (Ne.symm hb);have nrec:∀b o,s.heap.get? b=some o->(∀vs,o.data≠.fields vs)->b≠T:=fun b o hb hnf q=>by rw[q,hT]at hb;injection hb with hb;subst hb;exact hnf ts hdT
 unfold setFlight;refine wpAny_bind (wpAny_field he hd h1 ?_);rw[if_pos (show(Value.ref T != Value.none)=true from by simp)];refine wpAny_setField hT hdT hsz (h _ ⟨fun b o hb=>(oth b fun q=>by rw[q,hnT]at hb;cases hb).trans (x.st b o hb),x.new,x.ff.of_keeps fun b o hb hnf=>⟨o,(oth b (nrec b o hb hnf)).trans hb,rfl⟩,?_⟩ fun b o hb hnf=>⟨o.slots,(oth b (nrec b o hb hnf)).trans hb⟩);exact⟨oe,vs,T,_,_,(oth e (Ne.symm hTe)).trans he,hc,ho,hd,h1,hnT,hTe,C4 _ hT (Obj.isFreed_of_fields (Obj.data_mapFields hdT _)),Obj.data_mapFields hdT _,by simp[hsz],hcx⟩
theorem vT{oe:Obj}{vs:Array Value}{head:Value}{hadNext:Bool}(hfr:A.frames=some (env::outer))(hl:s.heap.FunFrames base (env::outer))(hf:env.frame=some L)
  (he:s.heap.get? e=some oe) (hkb:base.StaysIn s.heap) (hen:base.get? e=none) (hd:oe.data=.fields vs) (hsz:1<vs.size) (hcx:∃cx,vs[2]?=some cx/\cp cx)
  (h:∀h',fW cp base (env::outer) e oe.cls oe.dict (rawInt L) h'->s.heap.UpToSlots h'->Q () {s with heap:=h' }) :
  wpAny M A (do let a <- frameOf env;let pl <- entryPlaceOf L hadNext;let b <- EntryCells.newEntry head a .none (rawInt L) .none pl;setField (.ref e) 1 b) Q E s:=by
 have hene:e∉(env::outer).filterMap (·.frame):=fun hm=>by
  obtain⟨_,o,ho,hnf⟩:=hl.mem hm;rw[he]at ho;injection ho with ho;subst ho;exact hnf vs hd
 refine wpAny_bind (wpAny_frameOf_fun hfr hl hf fun h₁ hs₁=>?_);refine wpAny_bind (wpAny_entryPlaceOf fun pl hpl=>?_);unfold EntryCells.newEntry newFields;refine wpAny_bind (wpAny_newObj_type ?_ (hpl.sizeOk5 _ _ _ _ _));have he₁:h₁.get? e=some oe:=(hs₁.2.1 e hene).trans he;have kb₁:base.StaysIn h₁:=fun b o hb=>(hs₁.2.1 b fun hm=>by rw[(hl.mem hm).1]at hb;cases hb).trans (hkb b o hb);generalize hT0:({cls:=.type "traceback",dict:=none,data:=.fields ([head,.ref L,.none,rawInt L,.none]++(if pl.isEmpty then List.replicate 6 Value.none else pl)).toArray}:Obj)=To;have dTo:To.data=.fields ([head,.ref L,.none,rawInt L,.none]++(if pl.isEmpty then List.replicate 6 Value.none else pl)).toArray:=by rw[<- hT0]
 have he₂:=CO (h:=h₁) To he₁;have hTe:h₁.objs.size≠e:=Nat.ne_of_gt (Dj he₁);have keep:∀b o,b≠e->h₁.get? b=some o->((h₁.push To).update e (Obj.mapFields (·.setIfInBounds 1 (Value.ref h₁.objs.size)))).get? b=some o:=fun b o hbe hb=>by
  rw[CV _ _ (Ne.symm hbe)];exact CO _ hb
 have nrec:∀b o,s.heap.get? b=some o->(∀vs,o.data≠.fields vs)->b≠e:=fun b o hb hnf q=>by
  rw[q,he]at hb
  injection hb with hb
  subst hb;exact hnf vs hd
 refine wpAny_setField he₂ hd hsz (h _ ?_ ?_)
 ·have hd₃:=Obj.data_mapFields hd (·.setIfInBounds 1 (Value.ref h₁.objs.size))
  refine⟨fun b o hb=>keep b o (fun q=>by rw[q,hen]at hb;cases hb) (kb₁ b o hb),hen,hl.of_keeps fun b o hb hnf=>?_,?_⟩
  ·obtain⟨sl,hs⟩:=hs₁.2.2 b o hb
   exact⟨_,keep b _ (nrec b o hb hnf) hs,rfl⟩
  ·refine⟨_,_,h₁.objs.size,To,_,C4 _ he₂ (Obj.isFreed_of_fields hd₃),Obj.cls_mapFields _ _,lv _ _,hd₃,by simp[hsz],kb₁.fresh,hTe,?_,dTo,?_,?_⟩
   ·rw[CV _ _ (Ne.symm hTe)]
    refine CW _ ?_;rw[<- hT0];rfl
   ·first | (simp;done) | (rcases hpl with rfl | ⟨_,_,_,_,_,_,_,rfl⟩<;>simp)
   ·obtain⟨cx,h2,hp⟩:=hcx
    exact⟨cx,by rw[Array.getElem?_setIfInBounds_ne (by decide)];exact h2,hp⟩
 ·intro b o hb hnf
  obtain⟨sl,hs⟩:=hs₁.2.2 b o hb;exact⟨sl,keep b _ (nrec b o hb hnf) hs⟩
theorem x8{cls:Value}{od:Option Addr}(hfr:A.frames=some (env::outer))(hf:env.frame=some L)(x:fW cp base (env::outer) e cls od .none s.heap)
  (h:∀h',fW cp base (env::outer) e cls od (rawInt L) h'->s.heap.UpToSlots h'->Q () {s with heap:=h' }):wpAny M A (noteFrame (.ref e) env) Q E s:=by
 obtain⟨oe,vs,T,oT,ts,he,hc,ho,hd,h1,hnT,hTe,hT,hdT,h3,hcx⟩:=x.tr;subst hc ho;unfold noteFrame;simp only[hf];refine wpAny_bind (wpAny_field he hd h1 ?_);rw[if_pos (show(Value.ref T != Value.none)=true from by simp)];refine wpAny_bind (wpAny_field hT hdT h3 ?_);rw[if_neg (show ¬ ((Value.none==rawInt L)=true) from by simp[rawInt])];refine wpAny_bind (wpAny_setField hT hdT (Array.getElem?_eq_some_iff.mp h3).1 ?_);have oth:∀b,b≠T->(s.heap.update T (Obj.mapFields (·.setIfInBounds 3 Value.none))).get? b=s.heap.get? b:=fun b hb=>CV _ _ (Ne.symm hb);have nrec:∀b o,s.heap.get? b=some o->(∀vs,o.data≠.fields vs)->b≠T:=fun b o hb hnf q=>by rw[q,hT]at hb;injection hb with hb;subst hb;exact hnf ts hdT
 refine vT hfr (x.ff.of_keeps fun b o hb hnf=>⟨o,(oth b (nrec b o hb hnf)).trans hb,rfl⟩) hf ((oth e (Ne.symm hTe)).trans he) (fun b o hb=>(oth b fun q=>by rw[q,hnT]at hb;cases hb).trans (x.st b o hb)) x.new hd (Array.getElem?_eq_some_iff.mp h1).1 hcx fun h' y up=>h h' y fun b o hb hnf=>up b o ((oth b (nrec b o hb hnf)).trans hb) hnf
theorem yM{oe:Obj}{vs:Array Value}(hfr:A.frames=some (env::outer))(hl:s.heap.FunFrames base (env::outer))(hf:env.frame=some L)(he:s.heap.get? e=some oe)(hkb:base.StaysIn s.heap)(hen:base.get? e=none)(hd:oe.data=.fields vs)(h1:vs[1]?=some .none)(hcx:∃cx,vs[2]?=some cx/\cp cx)
  (h:∀h',fW cp base (env::outer) e oe.cls oe.dict (rawInt L) h'->s.heap.UpToSlots h'->Q () {s with heap:=h' }):wpAny M A (noteFrame (.ref e) env) Q E s:=by
 unfold noteFrame;simp only[hf];refine wpAny_bind (wpAny_field he hd h1 ?_);rw[if_neg (by decide)];exact vT hfr hl hf he hkb hen hd (Array.getElem?_eq_some_iff.mp h1).1 hcx h
theorem fW.drop{cls fl:Value}{od:Option Addr}{h:Heap}(x:fW cp base (env::outer) e cls od fl h):fW cp base outer e cls od fl h:=⟨x.st,x.new,x.ff.2.2,x.tr⟩
theorem yn{cls:Value}{od:Option Addr}(hfr:A.frames=some (env::outer))(hf:env.frame=some L)(x:fW cp base (env::outer) e cls od .none s.heap)
  (h:∀h',fW cp base outer e cls od .none h'->s.heap.UpToSlots h'->Q () {s with heap:=h' }):wpAny M A (leaving env (.ref e)) Q E s:=by
 unfold leaving;exact wpAny_bind (x8 hfr hf x fun h1 y1 u1=>kt y1 fun h2 y2 u2=>h h2 y2.drop (u1.trans u2))
theorem sC{oe:Obj}{vs:Array Value}(hfr:A.frames=some (env::outer))(hl:s.heap.FunFrames base (env::outer))(hf:env.frame=some L)(he:s.heap.get? e=some oe)(hkb:base.StaysIn s.heap)(hen:base.get? e=none)(hd:oe.data=.fields vs)(h1:vs[1]?=some .none)(hcx:∃cx,vs[2]?=some cx/\cp cx)
  (h:∀h',fW cp base outer e oe.cls oe.dict .none h'->s.heap.UpToSlots h'->Q () {s with heap:=h' }):wpAny M A (leaving env (.ref e)) Q E s:=by
 unfold leaving;exact wpAny_bind (yM hfr hl hf he hkb hen hd h1 hcx fun h1 y1 u1=>kt y1 fun h2 y2 u2=>h h2 y2.drop (u1.trans u2))
end
end PySem
namespace L2
open PySem PySem.Spec PyProof.Rows
structure Fly0(P:Program)(w:World)(outer:List Env)(H:Hp)(s:Shared)(B:Heap)(H':Hp)(s':Shared):Prop where
 st:B.StaysIn s'.heap
 ff:s'.heap.FunFrames B outer
 un:Un (iJ outer) [] H H' s.heap s'.heap
 hok:ip P w H' s'.heap
 cov:∀b o,H' b=some o->∃ob,B.get? b=some ob
 old:∀b o,s.heap.get? b=some o->b∉iJ outer->∃o',B.get? b=some o'
 os:s'.os=s.os
 bare:AllBare s'.gens
structure zk(cp:Value->Prop)(P:Program)(w:World)(outer:List Env)(H:Hp)(s:Shared)(B:Heap)(H':Hp)(s':Shared)(ea:Addr)(cls:Value)(od:Option Addr):Prop extends Fly0 P w outer H s B H' s' where
 fl:fW cp B outer ea cls od .none s'.heap
noncomputable def zB(cp:Value->Prop)(P:Program)(w:World):iz:=fun outer H s E e s'=>∃ea cls od B H',e=.ref ea/\zk cp P w outer H s B H' s' ea cls od/\H' ea=none/\E cls od H'
noncomputable abbrev bZ(P:Program)(w:World):iz:=zB (fun v=>v=.none) P w
theorem bd{cp:Value->Prop}{P:Program}{w:World}{X:Cx}:cF (zB cp P w) X (fun _ _ _=>False):=fun _ _ _ _ _ _ _ h=>by
 obtain⟨_,_,_,_,_,_,_,_,f⟩:=h;exact f.elim
theorem m8{P:Program}{w:World}{H:Hp}{B h h':Heap}(ok:ip P w H h)(cov:∀b o,H b=some o->∃ob,B.get? b=some ob)(k:B.StaysIn h)(k':B.StaysIn h'):ip P w H h':=fun a o e=>
 (ok a o e).stay (fun b u hb q=>by
  have hb':∃ob,B.get? b=some ob:=by
   rcases hb with rfl | hb
   ·exact cov _ _ e
   ·exact cov _ _ hb
  obtain⟨ob,hB⟩:=hb';have:=k b ob hB;rw[q]at this;cases this;exact k' b _ hB) (fun _ q=>q) fun _ _ q=>q
theorem aX.there{P:Program}{w:World}{H:Hp}{h:Heap}{a:Addr}{o:HO}(x:aX P w H h a o):∃ob,h.get? a=some ob:=by
 cases o with
 |lst xs=>obtain⟨_,_,_,_,e⟩:=x;exact⟨_,e⟩
 |tup xs=>obtain⟨_,_,_,ob,e,_⟩:=x;exact⟨_,e⟩
 |dK kvs=>obtain⟨_,_,_,_,o,_,_,e,_⟩:=x;exact⟨_,e⟩
 |dT kvs=>obtain⟨_,_,_,_,o,_,_,e,_⟩:=x;exact⟨_,e⟩
 |set S n=>obtain⟨o,_,_,_,e,_⟩:=x;exact⟨_,e⟩
 |ins C dx fs=>obtain⟨_,_,_,e,_⟩:=x;exact⟨_,e⟩
 |own y=>exact x
 |xd fs=>obtain⟨_,⟨_,_,_,e,_⟩,_⟩:=x;exact⟨_,e⟩
 |rng lo hi=>obtain⟨_,_,_,e⟩:=x;exact⟨_,e⟩
 |frz ob u=>obtain⟨e,_⟩:=x;exact⟨_,e⟩
 |tbl ps=>exact⟨_,show h.get? a=some _ from x⟩
 |met f y=>exact⟨_,show h.get? a=some _ from x⟩
 |ext φ=>obtain⟨_,e,_⟩:=x;exact e
section
variable {P:Program}{w:World}{K:PySem.W.Frag}{mg:Str->Option Value}{base:Heap}{N:List Str}{qual:Str}{scope:Scope}{f:Addr}{cd:Value}{A:Around}{outer:List Env}{s:Shared}{H:Hp}{E E1:XK}{CX:iz}
theorem Fly0.up{cp:Value->Prop}{X:Cx}{pins:List (Addr×Obj)}{σ:St}{H1 H':Hp}{s1 s':Shared}{B h':Heap}{ea:Addr}{cls:Value}{od:Option Addr}(I:Inv X pins σ H1 s1)(hex:X.ex=[])(hst:X.stack=X.env::X.outer)(hfr:X.env.frame=some X.env.locals)(hP:X.prog=P)(hw:X.w=w)
  (x:Fly0 P w X.stack H1 s1 B H' s') (fl2:fW cp B X.outer ea cls od .none h') (up:s'.heap.UpToSlots h') :
  zk cp P w X.outer X.H₀ X.s₀ B H' {s' with heap:=h' } ea cls od:=by
 have nex:∀b,b∉X.ex:=fun b=>by rw[hex];simp
 have nfr:∀b o,X.s₀.heap.get? b=some o->b∉X.fs->b∉iJ X.stack:=fun b o e hb hm=>by
  rw[hst]at hm;unfold iJ at hm;rw[List.filterMap_cons,hfr]at hm;rcases C9.mp hm with z | z
  ·exact absurd (Dj e) (by rw[z];exact Nat.not_lt.mpr I.ok.above)
  ·exact hb z
 have sub:∀b,b∈X.fs->b∈iJ X.stack:=fun b hb=>by
  rw[hst];unfold iJ;rw[List.filterMap_cons,hfr];exact C_ _ hb
 have kB:∀b o,X.s₀.heap.get? b=some o->b∉X.fs->∃o',B.get? b=some o':=fun b o e hb=>by
  obtain⟨o1,e1⟩:=I.base.there b o e (nex b);exact x.old b o1 e1 (nfr b o e hb)
 have fr0:∀b∈X.fs,X.H₀ b=none:=I.ok.frf;have sl:∀b o,X.s₀.heap.get? b=some o->X.H₀ b=none->b∈X.fs->∃sl,h'.get? b=some {o with slots:=sl}:=fun b o e hn hb=>by
  obtain⟨sl1,e1⟩:=I.base.slot b o e hn hb (nex b);have n1:=I.base.free b o e hn (nex b);obtain⟨sl2,e2⟩:=x.un.slot b _ e1 n1 (sub b hb) (by simp);obtain⟨_,o3,e3,nf⟩:=x.ff.mem (sub b hb);rw[e2]at e3;cases e3;obtain⟨sl3,e4⟩:=up b _ e2 nf;exact⟨sl3,e4⟩
 refine⟨⟨fl2.st,fl2.ff,⟨fun b o e hn hb _=>?_,fun b o e hn hb _=>sl b o e hn hb,fun b o e hn _=>?_,fun b o e _=>?_,fun b xs q=>x.un.tups b xs (I.base.tups b xs q),fun b o u q=>x.un.frzs b o u (I.base.frzs b o u q),fun b ps q=>?_⟩,m8 x.hok x.cov x.st fl2.st,x.cov,kB,x.os.trans I.os,x.bare⟩,fl2⟩
 ·have e1:=I.base.keep b o e hn hb (nex b)
  have n1:=I.base.free b o e hn (nex b);have e2:=x.un.keep b o e1 n1 (nfr b o e hb) (by simp);obtain⟨o',eB⟩:=kB b o e hb;have:=x.st b o' eB;rw[e2]at this;cases this;exact fl2.st b _ eB
 ·obtain⟨o1,e1⟩:=I.base.there b o e (nex b)
  exact x.un.free b o1 e1 (I.base.free b o e hn (nex b)) (by simp)
 ·by_cases hb:b∈X.fs
  ·obtain⟨z,ez⟩:=sl b o e (fr0 b hb) hb
   exact⟨_,ez⟩
  ·obtain⟨o',eB⟩:=kB b o e hb
   exact⟨_,fl2.st b _ eB⟩
 ·obtain⟨m1,e1⟩:=I.base.tbls b ps q
  obtain⟨m2,e2⟩:=x.un.tbls b _ e1;exact⟨m1++m2,by rw[e2,Array.append_assoc]⟩
theorem bF{cp:Value->Prop}(hE:∀c d H',E1 c d H'->E c d H'):cF (zB cp P w) (dL (zB cp P w) P w K mg base N qual scope f cd A outer s H E) E1:=by
 intro pins σ H1 s1 e s' I x;obtain⟨ea,cls,od,B,H',rfl,fly,hn,q⟩:=x;refine yn I.ok.frames rfl fly.fl fun h' fl2 up=>?_;exact⟨ea,cls,od,B,H',rfl,Fly0.up I rfl rfl rfl rfl rfl fly.toFly0 fl2 up,hn,hE _ _ _ q⟩
noncomputable def vv(X:Cx)(E:XK):Prop:=∀(pins:List (Addr×Obj)) (σ:St) (H:Hp) (s:Shared) (h':Heap) (e:Addr) (cls:Value) (vs:List Value),Inv X pins σ H s->Heap.MadeExcOf s.heap h' e cls vs->E cls none H->X.xe (.ref e) {s with heap:=h' }
theorem gb(hE:∀c d H',E1 c d H'->E c d H'):vv (dL (bZ P w) P w K mg base N qual scope f cd A outer s H E) E1:=by
 intro pins σ H1 s1 h1 e cls vs I x q;have hin:∀env∈(dL (bZ P w) P w K mg base N qual scope f cd A outer s H E).stack,∀b,env.frame=some b->b∈iJ (dL (bZ P w) P w K mg base N qual scope f cd A outer s H E).stack:=fun env he b hb=>List.mem_filterMap.mpr ⟨env,he,hb⟩;obtain⟨t0,he0,ht0,htt⟩:=x.there;have nt:∀b,s1.heap.get? b=none->H1 b=none:=fun b hb=>by
  cases z:H1 b with
  |none=>rfl
  |some o=>
   obtain⟨ob,hob⟩:=(I.hok b o z).there;rw[hb]at hob;cases hob
 have hff:=PySem.W.funFrames_hide I.stack hin;have fly0:Fly0 P w (dL (bZ P w) P w K mg base N qual scope f cd A outer s H E).stack H1 s1 (PySem.W.hideAll s1.heap (iJ (dL (bZ P w) P w K mg base N qual scope f cd A outer s H E).stack)) H1 {s1 with heap:=h1}:=
  ⟨fun b o e=>x.keeps b o (PySem.W.of_hideAll _ e),hff.of_keeps fun b o e _=>⟨o,x.keeps b o e,rfl⟩,Un.kept x.keeps,I.hok.kept x.keeps,fun b o z=>by
   obtain⟨ob,hob⟩:=(I.hok b o z).there;exact⟨ob,PySem.W.hideAll_get _ hob fun hm=>by rw[I.stkFree b hm]at z;cases z⟩,fun b o e hm=>⟨o,PySem.W.hideAll_get _ e hm⟩,rfl,I.bare⟩
 have newB:(PySem.W.hideAll s1.heap (iJ (dL (bZ P w) P w K mg base N qual scope f cd A outer s H E).stack)).get? e=none:=by
  cases z:(PySem.W.hideAll s1.heap (iJ (dL (bZ P w) P w K mg base N qual scope f cd A outer s H E).stack)).get? e with
  |none=>rfl
  |some o=>have:=PySem.W.of_hideAll _ z;rw[x.new]at this;cases this
 refine sC (cp:=fun v=>v=.none) (s:={s1 with heap:=h1}) I.ok.frames fly0.ff rfl he0 fly0.st newB rfl rfl ⟨_,rfl,rfl⟩ fun h' fl2 up=>?_;exact⟨e,cls,none,_,H1,rfl,Fly0.up I rfl rfl rfl rfl rfl fly0 fl2 up,nt e x.new,hE _ _ _ q⟩
end
structure n6(K:PySem.W.Frag)(C:Addr)(bmB:List Value)(newId:String):Prop where
 exc:PySem.W.excIn K C bmB newId=true
theorem n6.obj{K:PySem.W.Frag}{C:Addr}{bmB:List Value}{newId:String}{h:Heap}(c:n6 K C bmB newId)(X:K.In h):∃bm N nm q bs hdct sn sub ab col dd k0 k1 k2 k3 k5 mN,
  h.get? C=some (excClassObj nm q C N bs bm hdct sn sub ab col dd k0 k1 k2 k3 k5 newId)/\h.Ns N mN/\mN "__init__"=none/\OwnTail h bmB bm/\∃dd' cd sl,K.lookup C=some ⟨.type "type",dd',.cls cd,sl⟩/\cd.mro=.ref C::bm:=by
 have q:=c.exc;unfold PySem.W.excIn at q;cases hl:K.lookup C with
 |none=>rw[hl]at q;cases q
 |some ob=>
  rw[hl]at q
  split at q
  ·rename_i dd cd sl e
   cases e
   split at q
   ·rename_i C' bm k0 k1 k2 k3 n k5 hm hs
    simp only[Bool.and_eq_true,beq_iff_eq,Bool.not_eq_true']at q;obtain⟨⟨⟨⟨⟨rfl,rfl⟩,hdel⟩,ht⟩,hok⟩,hni⟩:=q;have ho:=X _ _ hl;have hsl:sl=#[k0,k1,k2,k3,some (.builtin n),k5]:=Array.toList_inj.mp hs;subst hsl;obtain⟨nm,bs,mro,ns,qn,hd,sn,sub,ab,col,del⟩:=cd;dsimp only at hm hdel hok hni ho;subst hm hdel;exact⟨bm,ns,nm,qn,bs,hd,sn,sub,ab,col,dd,k0,k1,k2,k3,k5,_,ho,.of_isNs (PySem.W.isNs_of_in X hok),PySem.W.nsMap_none_of_in X hok hni,PySem.W.tail_of_in X ht,dd,_,_,rfl,rfl⟩
   ·cases q
  ·cases q
section
variable {X:Cx}{x:Str}{np cpos pos:Pos}{e₀:Expr}{bD:List Expr}{t:TA}{C:Addr}{B Bn newId nid initId inN:String}{bm bmN:List Value}{E:XK}
noncomputable def nK(C:Addr)(E:XK)(t:TA):TS:=fun _ σ H=>t σ H fun vs H1=>vs.length<=sizeLine/\E (.ref C) none H1
theorem vZ(c:n6 X.K C bm newId)(Fn:ExcBaseFacts Bn newId inN bmN)(hBn:bm.contains (.type Bn)=true)(FB:ExcBaseFacts B nid initId bm)(hc:X.calm=true)(hg:Gl X x)(hm:X.mg x=some (.ref C))(hx:vv X E)(ha:PA X (e₀::bD) t)
  (hd:(x==("__debug__":Str))=false:=by decide +kernel)
  (he:starEach (e₀::bD) X.env=(false,eval e₀ X.env)::starEach bD X.env:=by rfl) (hpl:(backTo cpos (starEach bD X.env)).any (·.1)=false:=by rfl) :
  PS X (.Raise (some (.Call (.Name x np) (e₀::bD) [] cpos)) none pos) (nK C E t):=by
 intro pins s σ H D I h;obtain⟨tl,N,nm,q,bs,hdct,sn,sub,ab,col,dd,k0,k1,k2,k3,k5,mN,hC,hN,hni,T,_⟩:=c.obj I.mod.kin;refine wpAny_Raise_call_subU (C:=C) (nm:=nm) (q:=q) (N:=N) (bs:=bs) (bm:=tl) (hdct:=hdct) (sn:=sn) (sub:=sub) (ab:=ab) (col:=col) (dd:=dd) (k0:=k0) (k1:=k1) (k2:=k2) (k3:=k3) (k5:=k5)
  Fn hBn FB (mN:=mN) (T.hasType FB.hasBase) (I.ok.hd hc) (by rw[he];show(false||(backTo cpos (starEach bD X.env)).any (·.1))=false;rw[hpl];rfl) hni (dX I hg hm ⟨rfl,?_⟩ hd)
 rw[he];have ha':=ha cpos pins s σ H _ I h;rw[he]at ha';exact Calls.evalArgs_plain (wpAny_mono ha' (fun us s₂ ⟨vs,H1,I1,r1,z,q1⟩=>⟨rfl,by rw[<- r1.length];exact z,I1.bk _ _ hC,hN.keeps I1.bk,T.keeps I1.bk,fun h' e hx'=>hx pins σ H1 s₂ h' e _ _ I1 hx' q1⟩) fun _ _ y=>y)
end
noncomputable abbrev TX:=St->Hp->VK->XK->Prop
noncomputable def PX(CX:iz)(X:Cx)(e:Expr)(t:TX):Prop:=
 ∀(pins:List (Addr×Obj)) (s:Shared) (σ:St) (H:Hp) (Q:VK) (E:XK) (Ex:Value->Shared->Prop),Inv X pins σ H s->t σ H Q E->(∀H1 s1 ev s',Inv X pins σ H1 s1->CX X.stack H1 s1 E ev s'->Ex ev s') ->
  wpAny (model X.prog X.w) X.A (eval e X.env) (EP X pins σ Q) Ex s
section
variable {X:Cx}{CX:iz}{k:Nat}{ps:List Str}{sp:Sp}{x:Str}{p pos:Pos}{e:Expr}{es:List Expr}{t:TA}
noncomputable def ss(sp:Sp)(t:TA):TX:=fun σ H Q E=>t σ H fun vs H1=>sp vs H1 Q E
theorem yx(c:gW X.prog X.w X.K X.mg X.base CX k x ps sp)(hr:cq k X.A)(hg:Gl X x)(ha:PA X.nox (e::es) t)(hdb:(x==("__debug__":Str))=false:=by decide +kernel)
  (hst:starEach (e::es) X.env=(false,eval e X.env)::starEach es X.env:=by rfl) (hpl:(backTo pos (starEach es X.env)).any (·.1)=false:=by rfl):PX CX X (.Call (.Name x p) (e::es) [] pos) (ss sp t):=by
 intro pins s σ H Q E Ex I h hEx;obtain⟨f,fd,F,hm,hk,hb⟩:=c.ex;refine wpAny_Call_Name_kw (dX I hg hm ?_ hdb);refine PySem.W.callWith_K (h₀:=X.base) I.ok.mod.kin hk (wpAny_mono (ha pos pins s σ H _ (I.wish _) h) (fun us s1 ⟨vs,H1,I1,r,q⟩=>⟨I1.kIn,?_⟩) fun _ _ f=>f.elim) hst hpl;have I2:Inv X pins σ H1 s1:=I1.unwish;have hl:(us++[]).length=ps.length:=by rw[Dq,<- r.length];exact F.len _ _ _ _ q
 have hb1:=hb s1 us I2.kIn hl;rw[Dq]at hb1;refine wpAny_call (codeAny_mono (F.run X.A X.stack s1 H1 ⟨us,[]⟩ us vs Q E hr I2.env0 hb1 r q) fun rr s' hq=>?_);cases rr with
 |error ev=>exact hEx H1 s1 ev s' I2 hq
 |ok fl=>
  cases fl with
  |ret u=>exact I2.after hq
  |next=>exact False.elim hq
  |brk=>exact False.elim hq
  |cont=>exact False.elim hq
end
theorem Fly0.un2{P:Program}{w:World}{outer:List Env}{H H':Hp}{s s':Shared}{B h6:Heap}(x:Fly0 P w outer H s B H' s')(k6:B.StaysIn h6)(up:s'.heap.UpToSlots h6)(fr0:∀b∈iJ outer,H b=none):Un (iJ outer) [] H H' s.heap h6:=by
 have sl:∀b o,s.heap.get? b=some o->H b=none->b∈iJ outer->∃sl,h6.get? b=some {o with slots:=sl}:=fun b o e hn hb=>by
  obtain⟨sl2,e2⟩:=x.un.slot b _ e hn hb (by simp);obtain⟨_,o3,e3,nf⟩:=x.ff.mem hb;rw[e2]at e3;cases e3;obtain⟨sl3,e4⟩:=up b _ e2 nf;exact⟨sl3,e4⟩
 refine⟨fun b o e hn hb _=>?_,fun b o e hn hb _=>sl b o e hn hb,fun b o e hn _=>x.un.free b o e hn (by simp),fun b o e _=>?_,x.un.tups,x.un.frzs,x.un.tbls⟩
 ·obtain⟨o',eB⟩:=x.old b o e hb
  have:=x.st b o' eB;rw[x.un.keep b o e hn hb (by simp)]at this;cases this;exact k6 b _ eB
 ·by_cases hb:b∈iJ outer
  ·obtain⟨z,ez⟩:=sl b o e (fr0 b hb) hb
   exact⟨_,ez⟩
  ·obtain⟨o',eB⟩:=x.old b o e hb
   exact⟨_,k6 b _ eB⟩
noncomputable def x0(ea:Addr)(cls:Value)(od:Option Addr)(h:Heap):Prop:=∃o vs,h.get? ea=some o/\o.cls=cls/\o.dict=od/\o.data=.fields vs
noncomputable abbrev xo(ea:Addr)(cls:Value)(od:Option Addr):HO:=.ext (x0 ea cls od)
theorem Inv.caught{cp:Value->Prop}{X:Cx}{pins:List (Addr×Obj)}{σ:St}{H H':Hp}{s s':Shared}{B h6:Heap}{ea:Addr}{cls:Value}{od:Option Addr}(I:Inv X pins σ H s)(x:Fly0 X.prog X.w X.stack H s B H' s')(fl:fW cp B X.stack ea cls od .none h6)(up:s'.heap.UpToSlots h6)(hn:H' ea=none) :
  Inv X pins σ (ar H' ea (xo ea cls od)) {s' with heap:=h6}:=by
 obtain⟨oe,vs,he,hc,hod,hd⟩:=fl.there;have newB:B.get? ea=none:=fl.new;have nfr:ea∉iJ X.stack:=fun hm=>by
  obtain⟨_,o,ho,nf⟩:=fl.ff.mem hm;rw[he]at ho;cases ho;exact nf _ hd
 have nold:s.heap.get? ea=none:=by
  cases z:s.heap.get? ea with
  |none=>rfl
  |some o=>
   obtain⟨o',eB⟩:=x.old ea o z nfr;rw[newB]at eB;cases eB
 have u:=x.un2 fl.st up I.stkFree;have ok6:=m8 x.hok x.cov x.st fl.st;have nq:∀b o,H' b=some o->b≠ea:=fun b o e z=>by rw[z,hn]at e;cases e
 refine I.call' (ch:=[]) x.os ⟨u.keep,u.slot,fun b o e n hx=>?_,u.there,fun b xs q=>?_,fun b o y q=>?_,fun b qs q=>?_⟩ (fun b o e=>?_) x.bare (fun b z=>absurd z (by simp))
 ·have nb:b≠ea:=fun z=>by rw[z,nold]at e;cases e
  rw[ah nb];exact u.free b o e n hx
 ·have q':=u.tups b xs q
  rw[ah (nq _ _ q')];exact q'
 ·have q':=u.frzs b o y q
  rw[ah (nq _ _ q')];exact q'
 ·obtain⟨more,q'⟩:=u.tbls b qs q
  exact⟨more,by rw[ah (nq _ _ q')];exact q'⟩
 ·by_cases hb:b=ea
  ·subst hb
   rw[ac]at e;cases e;exact⟨⟨oe,vs,he,hc,hod,hd⟩,⟨oe,he⟩,fun h1 h2 ⟨o,ws,e1,e2,e3,e4⟩ k=>⟨o,ws,k o e1,e2,e3,e4⟩⟩
  ·rw[ah hb]at e
   exact(ok6 b o e).stay (fun _ _ _ q=>q) (fun c q=>by rw[ah (nq _ _ q)];exact q) fun c xs q=>by rw[ah (nq _ _ q)];exact q
end L2
namespace PySem
open Sem (wp)
section
variable {M:Model}{A:Around}{E:Value->Shared->Prop}
variable {nm q nm' q':Str}{C N D N':Addr}{bs bm bs' bm':List Value}{hdct hdct':Bool}{sn sn':List Str}{sub sub':List Value}{ab ab':Bool}{col col':Option Bool}{dd dd':Option Addr}{k0 k1 k2 k3 k5 k0' k1' k2' k3' k5':Option Value}{newId newId':String}
theorem jV{h:Heap}{g:Array GenState}{d:Drawn}{t:Nat}{os:OsState}{e:Addr}{oe:Obj}{Q:Bool->Shared->Prop}
  (hC:h.get? C=some (excClassObj nm q C N bs bm hdct sn sub ab col dd k0 k1 k2 k3 k5 newId)) (hD:h.get? D=some (excClassObj nm' q' D N' bs' bm' hdct' sn' sub' ab' col' dd' k0' k1' k2' k3' k5' newId')) (he:h.get? e=some oe) (hcls:oe.cls=.ref C)
  (hbase:bm'.contains (.type "BaseException")=true) (hsub:(Value.ref C::bm).contains (.ref D)=true)
  (hq:Q true ⟨h,g,d,t,os⟩):wpAny M A (excMatches (.ref e) (.ref D)) Q E ⟨h,g,d,t,os⟩:=by
 have hcB:(Value.ref D::bm').contains (.type "BaseException")=true:=by rw[List.contains_cons,hbase,Bool.or_true]
 have f:=tc_notTuple;unfold excMatches
 repeat (first | (with_reducible refine wpAny_loadPart_at he ?_;rw[hcls]) | with_reducible refine wpAny_loadPart_at hD ?_ | (with_reducible refine wpAny_isSubtype_exc hD ?_;rw[hcB]) | (with_reducible refine wpAny_isSubtype_exc hC ?_;rw[hsub]) | wp_step)
 exact hq
end
end PySem
namespace L2
open PySem PySem.Spec PyProof.Rows
section
variable {X:Cx}{pins:List (Addr×Obj)}{σ:St}{H:Hp}{s:Shared}
theorem gO{M:Model}{A:Around}{E:Value->Shared->Prop}{i:Nat}{x:Str}{v:V}{pos:Pos}{Q:Unit->Shared->Prop}(I:Inv X pins σ H s)(hN:X.N.Nodup)(hi:X.N[i]?=some x)(hk:X.env.kindOf x=some .local)
  (h:∀s',Inv X pins (σ.set i none) H s'->Q () s'):wpAny M A (do bindName X.env x .none;unbindBehindTheSuite X.env x pos) Q E s:=by
 have hloc:X.env.scope.names.lookup x=some .local:=hk;refine wpAny_bind (wpAny_bindName (je (v:=.non) I hN hi (.inl hloc) rfl (fun s1 I1=>?_) (.inr hloc)));unfold unbindBehindTheSuite;have hiσ:i<σ.length:=by rw[I.len];exact(CM.mp hi).1
 obtain⟨m,hn,hl⟩:=id I1.loc;obtain⟨u,ru,lk⟩:=hl i x .non hi (Dr hiσ) (.inl hloc);have hm:m x=some u:=by
  rcases lk with⟨_,e⟩ | ⟨z,_⟩
  ·exact e
  ·rw[hk]at z;rcases z with z | z<;>cases z
 have hcls:(X.env.scope.kind==.class||(X.env.scope.kind==.module&&X.env.locals != X.env.globals))=false:=by rw[I.ok.kind];rfl
 refine wpAny_onRaise (wpAny_unbindName_local hk hn hm hcls fun h' u' hn' hs=>?_);have cne:=I1.cne;obtain⟨oL,_,_,hoL,_⟩:=id hn;refine h _ ⟨I1.ok,I1.os,I1.bare,⟨fun b o e n hb hx=>?_,fun b o e n hb hx=>?_,I1.base.free,fun b o e hx=>?_,I1.base.tups,I1.base.frzs,I1.base.tbls⟩,⟨_,hn',fun j y v' e1 e2 e3=>?_⟩,fun y c e=>?_,I1.free,I1.freeC,fun p hp=>?_,fun b ob e=>?_,by rw[List.length_set];exact I.len⟩
 ·exact(hs.2 b (Db (Da (Dj e) I1.ok.above))).trans (I1.base.keep b o e n hb hx)
 ·obtain⟨sl,e1⟩:=I1.base.slot b o e n hb hx
  exact⟨sl,(hs.2 b (Db (Da (Dj e) I1.ok.above))).trans e1⟩
 ·obtain⟨o',e1⟩:=I1.base.there b o e hx
  exact⟨o',(hs.2 b (Db (Da (Dj e) I1.ok.above))).trans e1⟩
 ·by_cases hj:j=i
  ·subst hj
   rw[Dr hiσ]at e2;cases e2
  ·rw[List.getElem?_set_ne (Ne.symm hj)]at e2
   obtain⟨u',r',q⟩:=hl j y v' e1 (by rw[List.getElem?_set_ne (Ne.symm hj)];exact e2) e3;refine⟨u',r',?_⟩;rcases q with⟨k,e⟩ | ⟨k,c,e,z⟩
   ·refine .inl ⟨k,?_⟩
    have:y≠x:=fun e=>hj (kO hN e1 (e▸hi));simp[this,e]
   ·exact .inr ⟨k,c,e,z.sameBut hs (cne y c e)⟩
 ·obtain⟨w',z⟩:=I1.cell y c e
  exact⟨w',z.sameBut hs (cne y c e)⟩
 ·obtain⟨e,n,ne,nf,d⟩:=I1.pin p hp
  exact⟨(hs.2 p.1 ne).trans e,n,ne,nf,d⟩
 ·refine(I1.hok b ob e).stay (fun c w' hc q=>(hs.2 c ?_).trans q) (fun _ q=>q) fun _ _ q=>q
  rintro rfl;rcases hc with rfl | hc
  ·rw[I1.free]at e;cases e
  ·rw[I1.free]at hc;cases hc
noncomputable abbrev Cx.held(X:Cx)(ea:Addr):Cx:={X with A:=X.A.mark (some (.ref ea)),calm:=false,xe:=fun _ _=>False}
theorem Inv.held(I:Inv X pins σ H s)(ea:Addr):Inv (X.held ea) pins σ H s:=
 ⟨⟨I.ok.mod,I.ok.kind,I.ok.glob,I.ok.blt,I.ok.above,I.ok.inj,I.ok.has,I.ok.cab,(fun z=>by cases z),I.ok.frames,I.ok.stk,I.ok.exf,I.ok.bs,I.ok.bsz,I.ok.noex,I.ok.exfs,I.ok.funs,I.ok.frf⟩,I.os,I.bare,I.base,I.loc,I.cell,I.free,I.freeC,I.pin,I.hok,I.len⟩
theorem Inv.unheld{ea:Addr}(hd:X.calm=true->X.A.handled=none)(I:Inv (X.held ea) pins σ H s):Inv X pins σ H s:=
 ⟨⟨I.ok.mod,I.ok.kind,I.ok.glob,I.ok.blt,I.ok.above,I.ok.inj,I.ok.has,I.ok.cab,hd,I.ok.frames,I.ok.stk,I.ok.exf,I.ok.bs,I.ok.bsz,I.ok.noex,I.ok.exfs,I.ok.funs,I.ok.frf⟩,I.os,I.bare,I.base,I.loc,I.cell,I.free,I.freeC,I.pin,I.hok,I.len⟩
end
noncomputable def sA(K:PySem.W.Frag)(C D:Addr):Prop:=∃dd cd sl,K.lookup C=some ⟨.type "type",dd,.cls cd,sl⟩/\cd.mro.contains (.ref D)=true
section
variable {X:Cx}{P:Program}{w:World}{e tg:Expr}{tx:TX}{g:TG}{i:Nat}{n x:Str}{D:Addr}{bmD:List Value}{nD:String}{b₀:Stmt}{suite:List Stmt}{apos pos hpos np:Pos}{ts:Addr->TS}
end
section
variable {X:Cx}{pins:List (Addr×Obj)}{σ:St}{H:Hp}{s:Shared}
theorem Inv.moved{ch:List Addr}{h':Heap}{tk:Nat}(I:Inv X pins σ H s)(hf:∀b∈ch,kf X pins H b)(k:∀b o,b∉ch->s.heap.get? b=some o->h'.get? b=some o):Inv X pins σ H {s with heap:=h',toks:=tk}:=by
 have nH:∀b o,H b=some o->b∉ch:=fun b o e z=>by rw[(hf b z).1]at e;cases e
 refine I.call' (s':={s with heap:=h',toks:=tk}) (ch:=ch) rfl ⟨fun b o e _ _ hc=>k b o hc e,fun b o e _ _ hc=>⟨o.slots,k b o hc e⟩,fun b o e n hc=>n,fun b o e hc=>⟨o,k b o hc e⟩,fun b xs q=>q,fun b o y q=>q,fun b qs q=>⟨#[],by rw[q];simp⟩⟩
  (fun b o e=>(I.hok b o e).stay (fun c u hc q=>k c u (by
   rcases hc with rfl | hc
   ·exact nH _ _ e
   ·exact nH _ _ hc) q) (fun _ q=>q) fun _ _ q=>q) I.bare fun b hb=>?_
 obtain⟨f0,f1,f2,f3,f4,f5⟩:=hf b hb;exact⟨f3,f1,f4,f5⟩
theorem Inv.movedT{ch:List Addr}{h':Heap}{tk:Nat}{T:Addr}{ob:HO}(I:Inv X pins σ H s)(hf:∀b∈ch,kf X pins H b)(k:∀b o,b∉ch->s.heap.get? b=some o->h'.get? b=some o)(hT:s.heap.objs.size<=T)(new:aX X.prog X.w (ar H T ob) h' T ob) :
  Inv X pins σ (ar H T ob) {s with heap:=h',toks:=tk}:=by
 have nH:∀b o,H b=some o->b∉ch:=fun b o e z=>by rw[(hf b z).1]at e;cases e
 have hn:H T=none:=I.hok.fresh hT;have nT:∀b o,s.heap.get? b=some o->b≠T:=fun b o e z=>by rw[z]at e;exact absurd (Dj e) (Nat.not_lt.mpr hT)
 refine I.call' (s':={s with heap:=h',toks:=tk}) (ch:=ch) rfl ⟨fun b o e _ _ hc=>k b o hc e,fun b o e _ _ hc=>⟨o.slots,k b o hc e⟩,fun b o e n hc=>by rw[ah (nT b o e)];exact n,fun b o e hc=>⟨o,k b o hc e⟩,fun b xs q=>by rw[ah (au q hn)];exact q,fun b o y q=>by rw[ah (au q hn)];exact q,fun b qs q=>⟨#[],by rw[ah (au q hn),q];simp⟩⟩
  (fun b o e=>?_) I.bare fun b hb=>?_
 ·by_cases hb:b=T
  ·subst hb
   rw[ac]at e;cases e;exact new
  ·rw[ah hb]at e
   exact(I.hok b o e).stay (fun c u hc q=>k c u (by
    rcases hc with rfl | hc
    ·exact nH _ _ e
    ·exact nH _ _ hc) q) (fun c q=>by rw[ah (au q hn)];exact q) fun c xs q=>by rw[ah (au q hn)];exact q
 ·obtain⟨f0,f1,f2,f3,f4,f5⟩:=hf b hb
  exact⟨f3,f1,f4,f5⟩
end
section
variable {X:Cx}{elts:List Expr}{x1:Nat}{tp:Pos}
end
end L2
namespace PySem.W
open PySem PySem.Spec PySem.Calls PyProof.Rows
section
variable {prog:Program}{w:World}{A:Around}{E:Value->Shared->Prop}{s:Shared}{K:Frag}{x D:Addr}{ox:Obj}{odo:Option Obj}{name:Str}
theorem xq(self:Value):bindSpecial (.builtin "BaseException.__getattribute__") self=pure (.builtin "BaseException.__getattribute__",[self]):=F.excAttr_ValueError.ga.bind self
theorem we{tk:Tok}{Q:Unit->Shared->Prop}(X:K.In s.heap)(I:InstAt s.heap x ox D odo)(hb:mroIn K D (.type "BaseException")=some true)(h:Q () s) :
  wpAny (model prog w) A (checkBuiltinCall "BaseException.__getattribute__" ⟨[.ref x,.str name tk],[]⟩) Q E s:=by
 have L0:=I.type (M:=model prog w);have L1:=looks_mroIn (M:=model prog w) X hb;have LI:Looks (model prog w) s.heap (isInstance (.ref x) (.type "BaseException")) true:=L0.andThen L1;have hk:builtinKind "BaseException.__getattribute__"=some .slot:=by decide +kernel
 have hs:splitId "BaseException.__getattribute__"=some ("BaseException","__getattribute__"):=by decide +kernel
 have ha:=F.args_bexc_ga (.ref x) (.str name tk);simp only[checkBuiltinCall,hk,hs];refine wpAny_bind (LI.at ?_);simp only[Bool.not_true,Bool.false_eq_true,if_false];cases hsig:Manifest.signature? "BaseException.__getattribute__" with
 |none=>exact wpAny_pure h
 |some sig=>
  simp only[argsOk,hsig]at ha;show wpAny _ _ (Bind.checkArgs _ sig _) Q E s;rw[ha];exact wpAny_pure h
theorem tq{g a v:Value}{Q:Option Value->Shared->Prop}(X:K.In s.heap)(I:InstAt s.heap x ox D odo)(hga:findIn K (.ref D) "__getattribute__"=some (some (.builtin "BaseException.__getattribute__")))(hgh:findIn K (.ref D) "__getattr__"=some none)
  (hb:mroIn K D (.type "BaseException")=some true) (hf:findObj K D odo name=some (.bind g a))
  (hc:∀(A':Around) (R:Result->Shared->Prop),R (.ok (.ret v)) {s with toks:=s.toks+1}->codeAny (model prog w) A' (.call g ⟨[a,.ref x,.ref D],[]⟩) R {s with toks:=s.toks+1}) (hv:handedIn v=true) (h:Q (some v) {s with toks:=s.toks+1}) :
  wpAny (model prog w) A (getAttr? (.ref x) name) Q E s:=by
 obtain⟨hh,gg,d,t,os⟩:=s;have L0:=I.type (M:=model prog w);have L1:=looks_findIn (M:=model prog w) X hga;have L2:=looks_findIn (M:=model prog w) X hgh;have L3:=looks_find (M:=model prog w) X I hf;unfold getAttr? getAttrBy? getAttrBy;refine wpAny_bind (wpAny_mkText (wpAny_bind (wpAny_attempt (wpAny_holding (wpAny_bind (L0.at (wpAny_bind (L1.at ?_))))))));show wpAny _ _ (getAttrByItsOwn _ _ _ _ _ _) _ _ _;unfold getAttrByItsOwn hookBefore;refine wpAny_bind (L2.at ?_);refine wpAny_bind (wpAny_attempt (wpAny_holding ?_));unfold callGetattribute boundAndCalled;show wpAny _ _ (bindSpecial _ _ >>= _) _ _ _;rw[xq];refine wpAny_bind (wpAny_pure ?_);refine wpAny_call (codeAny_call_builtin F.excAttr_ValueError.ga.plain F.entry_bexc_ga (we X I hb ?_));have e1:slotArgs "__getattribute__" 1 ⟨[.ref x,.str name t],[]⟩=pure (.ref x,[.str name t]):=rfl;unfold Builtin.«object.__getattribute__»;show wpAny _ _ (slotArgs "__getattribute__" 1 ⟨[.ref x,.str name t],[]⟩ >>= _) _ _ _;rw[e1];refine wpAny_bind (wpAny_pure ?_);refine wpAny_bind (wpAny_pure (wpAny_bind (L0.at (wpAny_bind (L3.at ?_)))));show wpAny _ _ (holding [a] (call g [a,.ref x,.ref D]) >>= ret) _ _ _;refine wpAny_bind (wpAny_holding (wpAny_call (hc _ _ (wpAny_pure ?_))));exact handed_on hv (wpAny_pure h)
theorem tz{Q:Option Value->Shared->Prop}(X:K.In s.heap)(I:InstAt s.heap x ox D odo)(hga:findIn K (.ref D) "__getattribute__"=some (some (.builtin "BaseException.__getattribute__")))(hgh:findIn K (.ref D) "__getattr__"=some none)
  (hb:mroIn K D (.type "BaseException")=some true) (hm:mroIn K D (.type "object")=some true) (hf:findObj K D odo "__class__"=some (.bind (.builtin "getset_descriptor.__get__") (.builtin "object.__class__"))) (h:Q (some (.ref D)) {s with toks:=s.toks+1}) :
  wpAny (model prog w) A (getAttr? (.ref x) "__class__") Q E s:=
 tq (v:=.ref D) X I hga hgh hb hf (fun A' R hR=>class_get (s:={s with toks:=s.toks+1}) (ox:=ox) (od:=odo) X I hm hR) rfl h
structure XTy(K:Frag)(D:Addr):Prop where
 ga:findIn K (.ref D) "__getattribute__"=some (some (.builtin "BaseException.__getattribute__"))
 gh:findIn K (.ref D) "__getattr__"=some none
 mb:mroIn K D (.type "BaseException")=some true
 mo:mroIn K D (.type "object")=some true
 ha:findIn K (.ref D) "__class__"=some (some (.builtin "object.__class__"))
 hn:specialIn K (.builtin "object.__class__") "__get__"=some (some (.builtin "getset_descriptor.__get__"))
 tk:takesIn K (.builtin "object.__class__")=some true
 cl:∃dd cd sl,K.lookup D=some ⟨.type "type",dd,.cls cd,sl⟩
theorem XTy.find(c:XTy K D):findObj K D odo "__class__"=some (.bind (.builtin "getset_descriptor.__get__") (.builtin "object.__class__")):=by
 obtain⟨dd,cd,sl,hl⟩:=c.cl;have hc:clsIn K D=some cd:=by unfold clsIn;rw[hl]
 unfold findObj;rw[hc,Option.bind_some,c.ha,Option.bind_some];simp[c.hn,c.tk]
theorem kitx_exc(c:XTy K D):KitX K (.ref x) (.ref D) (fun h=>∃ox,InstAt h x ox D odo) where
 ty:=fun _ _ _ ⟨_,I⟩=>I.type
 it:=fun _ _ X _=>by
  obtain⟨dd,cd,sl,hl⟩:=c.cl;intro A' Q' E' s' k q;unfold isType loadHead;exact wpAny_bind (wpAny_loadPart (k _ _ (X _ _ hl)) (wpAny_pure q))
 ne:=fun h tp dd its n sl X htp=>by
  obtain⟨dd,cd,sl,hl⟩:=c.cl;refine Bool.eq_false_iff.mpr fun q=>?_;have e:D=tp:=Value.ref.inj (beq_iff_eq.mp q);subst e;have z:=congrArg (fun o=>o.map Obj.cls) ((X _ _ hl).symm.trans htp);simp at z
 ca:=fun X ⟨_,I⟩ k=>tz X I c.ga c.gh c.mb c.mo c.find k
end
end PySem.W
namespace L2
open PySem PySem.Spec PyProof.Rows
section
variable {X:Cx}
theorem v6{h:Heap}{a C:Addr}(e:x0 a (.ref C) none h):∃ox,PySem.W.InstAt h a ox C none:=by
 obtain⟨o,vs,e1,e2,e3,e4⟩:=e;exact⟨o,e1,e2,by unfold PySem.W.notCls;rw[e4],by rw[e3];trivial⟩
theorem pX:∀{cs:List V} {us:List Value},aH cs us->(∀c∈cs,i_ c=true)->us=cs.map rl
 | [],_,.nil,_=>rfl
 |c::cs,_,.cons r t,h=>by rw[Dl,nY r (h c (by simp)),pX t fun z hz=>h z (by simp[hz])]
end
structure XR(K:PySem.W.Frag)(C:Addr):Prop where
 ex:∃(bm bmN:List Value) (newId Bn inN B nid initId:String),n6 K C bm newId/\ExcBaseFacts Bn newId inN bmN/\bm.contains (.type Bn)=true/\ExcBaseFacts B nid initId bm
theorem eS{X:Cx}{x:Str}{np cpos pos:Pos}{e₀:Expr}{bD:List Expr}{t:TA}{C:Addr}{E:XK}(c:XR X.K C)(hc:X.calm=true)(hg:Gl X x)(hm:X.mg x=some (.ref C))(hx:vv X E)(ha:PA X (e₀::bD) t)
  (hd:(x==("__debug__":Str))=false:=by decide +kernel)
  (he:starEach (e₀::bD) X.env=(false,eval e₀ X.env)::starEach bD X.env:=by rfl) (hpl:(backTo cpos (starEach bD X.env)).any (·.1)=false:=by rfl) :
  PS X (.Raise (some (.Call (.Name x np) (e₀::bD) [] cpos)) none pos) (nK C E t):=by
 obtain⟨bm,bmN,newId,Bn,inN,B,nid,initId,c1,c2,c3,c4⟩:=c.ex;exact vZ c1 c2 c3 c4 hc hg hm hx ha hd he hpl
section
variable {P:Program}{w:World}{K:PySem.W.Frag}{mg:Str->Option Value}{base:Heap}
theorem di.okX{x qual:Str}{st:Stmt}{f:Addr}{fd:FuncData}{N ps:List Str}{k:Nat}{sp:Sp}(F:di K x qual st f fd)(S:av N ps (ai st))(len:∀vs H Q E,sp vs H Q E->vs.length=ps.length)
  (hbody:∀(cdv:Value) (A:Around) (outer:List Env) (s:Shared) (H:Hp) (vs:List V) (Q:VK) (E:XK),cq k (A.deeper (envOfC qual (ai st) s.heap.objs.size f cdv))->sp vs H Q E ->
   ∃t,qB (dL (bZ P w) P w K mg base N qual (ai st) f cdv A outer s H E) (aF st) t/\t {nx:=fun _ H'=>Q .non H',rt:=Q} (start N vs) H):aO P w K mg base (bZ P w) (k+1) f fd ps sp:=by
 obtain⟨oc,od,kV,doc,pm,an,cdv,ct,osl,rfl,lk,hcd⟩:=F.ex;exact xW lk hcd S len fun A outer s H vs Q E hr hsp=>hbody cdv A outer s H vs Q E hr hsp
theorem aO.lift{CX:iz}{k:Nat}{f:Addr}{fd:FuncData}{ps:List Str}{sp:Sp}(F:aO P w K mg base bY k f fd ps sp):aO P w K mg base CX k f fd ps sp:=
 ⟨F.len,fun A outer s H args us vs Q E hr he hb hv hs=>codeAny_mono (F.run A outer s H args us vs Q E hr he hb hv hs) fun r s' hq=>by
  cases r with
  |error e=>exact False.elim hq
  |ok fl=>cases fl<;>exact hq⟩
theorem gW.lift{CX:iz}{k:Nat}{x:Str}{ps:List Str}{sp:Sp}(c:gW P w K mg base bY k x ps sp):gW P w K mg base CX k x ps sp:=by
 obtain⟨f,fd,F,r⟩:=c.ex;exact⟨f,fd,F.lift,r⟩
end
theorem xS{X:Cx}{K:PySem.W.Frag}{es:List Expr}{k:Nat}{t:x_}{n:Nat}{pos:Pos}(hK:X.K=K)(hc:X.calm=true)(h:zw X es t)
  (hn:(assignEach es X.env).length=n:=by rfl) (hst:(assignEach es X.env).findIdx? (·.1)=none:=by rfl):PG X (.Tuple es k pos) (vK K n t):=hK▸nJ hc h hn hst
section
variable {K:PySem.W.Frag}{g:TG}{ti:TT}{te:TE}{σ:St}{H:Hp}{Q:List V->Hp->Prop}
end
end L2
namespace QL
open PySem
theorem l8:bootBuiltins "ValueError"=some (.type "ValueError"):=by decide +kernel
end QL
namespace L2
open PySem PySem.Spec PyProof.Rows
noncomputable def Ab(K:PySem.W.Frag)(a:Addr):It:=
 ⟨fun i H=>∃xs x,bp K H a xs/\xs[i]?=some x,fun i H v H'=>∃T x,v=.ref T/\H T=none/\H'=ar H T (.tup [.int (i:Int),x])/\∀xs,bp K H a xs->xs[i]?=some x,fun i H=>∃xs,bp K H a xs/\xs.length<=i⟩
theorem tZ{P:Program}{w:World}{K:PySem.W.Frag}{elts:List Expr}{x1:Nat}{tp:Pos}{e it l:Addr}(hei:e≠it) :
  r8 P w K (.Tuple elts x1 tp) (Ab K l) [e,it] e (fun i h=>(∃old,IsEnum h e it i old)/\h.IsListIter it l i) where
 mem:=by simp
 obj:=fun i h st b hb=>by
  obtain⟨⟨old,he⟩,⟨o1,e1,c1,d1⟩⟩:=st;simp only[C9,List.not_mem_nil,or_false]at hb;rcases hb with rfl | rfl
  ·exact⟨_,he,fun v q=>by cases q⟩
  ·exact⟨_,e1,fun v q=>by rw[d1]at q;cases q⟩
 keep:=fun i h h' st hk=>by
  obtain⟨⟨old,he⟩,h1⟩:=st;exact⟨⟨old,hk e (by simp) _ he⟩,h1.at fun o e'=>hk it (by simp) o e'⟩
 item:=by
  intro X hP hw hK hc i pins s σ H E I hf st hg;subst hP hw hK;obtain⟨xs,x,hq,hx⟩:=hg;obtain⟨its,rv,p,hz⟩:=I.list hq;obtain⟨u,hu,ru⟩:=rv.get hx;obtain⟨⟨old,he⟩,h1⟩:=st;obtain⟨o1,e1,_⟩:=id h1;refine wpAny_pyNext_enum_item he h1 p.isList (x:=u) (by simpa using hu) hei fun h' a1 a2 a3 a4 hk=>?_;refine⟨_,rfl,wpAny_letOwnedTupleGo_enum a1 fun h2 he2 hs2=>?_⟩;have hfree:H s.heap.objs.size=none:=I.hok.fresh (Dg _);have lt:∀{c o},s.heap.get? c=some o->s.heap.objs.size≠c:=fun e=>Nat.ne_of_gt (Dj e);have kk:∀c o,c∉[e,it]->s.heap.get? c=some o->h2.get? c=some o:=fun c o hc q=>
   hs2.extBut _ _ (fun z=>hc (by simp[z])) (hk c o (fun z=>hc (by simp[z])) (fun z=>hc (by simp[z])) q)
  have hT:h2.get? s.heap.objs.size=some {cls:=.type "tuple",data:=.seq #[.int i s.toks,u]}:=hs2.extBut _ _ (lt he) a3;refine⟨.ref s.heap.objs.size,ar H s.heap.objs.size (.tup [.int i,x]),I.movedT (tk:=s.toks+1) hf kk (Dg _) ⟨show 2<=sizeLine from by decide +kernel,[.int i s.toks,u],.cons ⟨_,rfl⟩ (.cons ru .nil),_,hT,rfl,_,rfl⟩,rfl,
   ⟨_,x,rfl,hfree,rfl,fun zs hzs=>by rw[I.list_inj hzs hq];exact hx⟩,⟨⟨u,by simpa using he2⟩,a2.extBut hs2.extBut (Ne.symm hei)⟩,fun b hb=>?_⟩
  have hlt:b≠s.heap.objs.size:=by
   simp only[C9,List.not_mem_nil,or_false]at hb;rcases hb with rfl | rfl
   ·exact(lt he).symm
   ·exact(lt e1).symm
  rw[ah hlt];exact(hf b hb).1
 done:=by
  intro X hP hw hK hc i pins s σ H E I hf st hg;subst hP hw hK;obtain⟨xs,hq,hx⟩:=hg;obtain⟨its,rv,p,hz⟩:=I.list hq;obtain⟨⟨old,he⟩,h1⟩:=st;have l1':=rv.length;refine wpAny_pyNext_enum_end (I.ok.hd hc) he h1 p.isList (by simp;omega) fun h' hk=>⟨rfl,I.moved (tk:=s.toks) hf fun c o hc e=>hk c o (fun q=>hc (by simp[q])) e⟩
 self:=fun _ _ _ _ _ st h=>let ⟨⟨_,he⟩,_⟩:=st;wpAny_pyIter_enum he h
section
variable {X:Cx}{elts:List Expr}{x1:Nat}{tp:Pos}
noncomputable def vd(K:PySem.W.Frag)(ta:TA):TI:=fun σ H R=>ta σ H fun vs H1=>∃a xs,vs=[.ref a]/\bp K H1 a xs/\R (Ab K a) H1
theorem sL{a:Expr}{ta:TA}{p pos:Pos}(hg:Gl X "enumerate")(hm:X.mg "enumerate"=none)(ha:PA X [a] ta)(hs:starEach [a] X.env=[(false,eval a X.env)]:=by rfl):PI X (.Tuple elts x1 tp) (.Call (.Name "enumerate" p) [a] [] pos) (vd X.K ta):=by
 intro pins s σ H R I h;refine Call_ (fC I hg hm boot_enumerate (PyProof.Rows.callWith_type1 (bq (ha pos pins s σ H _ I h) fun us s1 ⟨vs,H1,I1,r1,q1⟩=>?_) (by rw[hs];rfl) (by rfl)));obtain⟨l,xs,rfl,hq,q⟩:=q1;obtain⟨u,rfl,ru⟩:=r1.one;cases ru;obtain⟨its,rv,p1,_⟩:=I1.list hq;refine call_enumerate_list p1.isList fun h' z1 z2 z3 hk=>?_;have I2:Inv X pins σ H1 {s1 with heap:=h' }:=I1.kept (t':=s1.toks) hk;refine wpAny_pyIter_enum z1 ?_;refine⟨s1.heap.objs.size+1,[s1.heap.objs.size+1,s1.heap.objs.size],_,_,H1,rfl,I2,tZ (l:=l) (Nat.ne_of_gt (Dp _)),⟨⟨_,z1⟩,z2⟩,fun b hb=>?_,q⟩;have hb':s1.heap.objs.size<=b:=by
  simp only[C9,List.not_mem_nil,or_false]at hb;rcases hb with e | e<;>(rw[e];first | exact Dg _ | exact Nat.le_add_right _ _)
 exact I1.fpOk hb' (I1.hok.fresh hb')
end
section
variable {K:PySem.W.Frag}{g:TG}{tb:TS}{D:iN}{σ:St}{H:Hp}
theorem mL{a:Addr}{xs:List V}(Pv:Nat->St->Hp->Prop)(h0:Pv 0 σ H)(hl:∀i σ H,i<=xs.length->Pv i σ H->bp K H a xs)
  (hs:∀(i:Nat) x σ H T,xs[i]?=some x->Pv i σ H->H T=none->g (.ref T) σ (ar H T (.tup [.int (i:Int),x])) fun σ2 H2=>tb {D with nx:=Pv (i+1),ct:=Pv (i+1),bk:=D.nx} σ2 H2) (hd:∀σ H,Pv xs.length σ H->D.nx σ H):vi (Ab K a) g tb D σ H:=by
 refine⟨fun i m σ H=>m=xs.length-i/\i<=xs.length/\Pv i σ H,⟨xs.length,by simp,Dh _,h0⟩,?_⟩;rintro i m σ H ⟨rfl,hi,p⟩;have q:=hl i σ H hi p
 by_cases hlt:i<xs.length
 ·refine .inr ⟨⟨xs,xs[i],q,by simp[hlt]⟩,Pv (i+1),fun σ' H' p'=>⟨xs.length-(i+1),by omega,rfl,hlt,p'⟩,fun x H' y=>?_⟩
  obtain⟨T,x,rfl,hT,rfl,y⟩:=y;exact hs i x σ _ T (y xs q) p hT
 ·have e:i=xs.length:=by omega
  subst e;exact .inl ⟨⟨xs,q,Dg _⟩,hd σ H p⟩
end
end L2
namespace PySem
open Sem (wp)
section
variable {M:Model}{A:Around}{E:Value->Shared->Prop}{env:Env}
variable {nm q:Str}{C N:Addr}{bs bm:List Value}{hdct:Bool}{sn:List Str}{sub:List Value}{ab:Bool}{col:Option Bool}{dd:Option Addr}{k0 k1 k2 k3 k5:Option Value}{newId:String}
theorem l7{s:Shared}{x:Sem Value}{Q:Flow->Shared->Prop}(hbase:bm.contains (.type "BaseException")=true)(hh:A.handled=none)
  (h:wpAny M A x (fun v s₁=>∃e oe vs,v=.ref e/\s₁.heap.get? C=some (excClassObj nm q C N bs bm hdct sn sub ab col dd k0 k1 k2 k3 k5 newId)/\s₁.heap.get? e=some oe/\oe.cls=.ref C/\oe.data=.fields vs/\vs[1]?=some .none/\E (.ref e) s₁) E s) :
  wpAny M A (raiseStmt env (some x) none) Q E s:=by
 have hcB:(Value.ref C::bm).contains (.type "BaseException")=true:=by rw[List.contains_cons,hbase,Bool.or_true]
 unfold raiseStmt;refine wpAny_bind (wpAny_mono h (fun v s₁ h₁=>?_) fun _ _ x=>x);obtain⟨e,⟨oc,od,dt,sl⟩,vs,rfl,hC,he,hc,hd,hv,hE⟩:=h₁;dsimp only at hc hd;subst hc hd;obtain⟨hp,g,d,tk,os⟩:=s₁
 repeat (first | with_reducible refine wpAny_loadPart_at he ?_ | with_reducible refine wpAny_loadPart_at hC ?_ | (with_reducible refine wpAny_isSubtype_exc hC ?_;rw[hcB]) | wp_step)
 rw[hv];refine wpAny_pure ?_;rw[if_neg (by decide)];exact wpAny_pure (wpAny_raiseNew_none hh hE)
end
section
variable {prog:Program}{w:World}{A:Around}{E:Value->Shared->Prop}{h:Heap}{g:Array GenState}{d:Drawn}{t:Nat}{os:OsState}
variable {nm q:Str}{C N:Addr}{bs bm bmB:List Value}{hdct:Bool}{sn:List Str}{sub:List Value}{ab:Bool}{col:Option Bool}{dd:Option Addr}{k0 k1 k2 k3 k5:Option Value}{B Bn newId nid initId inN:String}{bmN:List Value}{K:PySem.W.Frag}
theorem iA(Fn:ExcBaseFacts Bn newId inN bmN)(hBn:bmB.contains (.type Bn)=true)(F:ExcBaseFacts B nid initId bmB)(T:OwnTail h bmB bm)(X:K.In h){bD:List Value}{fI:Addr}{Q:Fin->Shared->Prop}
  (hC:h.get? C=some (excClassObj nm q C N bs bm hdct sn sub ab col dd k0 k1 k2 k3 k5 newId)) (hi:PySem.W.findIn K (.ref C) "__init__"=some (some (.ref fI))) (hf:PySem.W.typeIn K (.ref fI)=some (.type "function"))
  (hq:∀h' e,Heap.MadeExcOf h h' e (.ref C) bD ->
   wpAny (model prog w) A (call (.ref fI) (.ref e::bD)) (fun r s'=>r=.none/\Q (.done (.ret (.ref e))) s') E ⟨h',g,d,t,os⟩) (hrest:bD.length<=sizeLine) :
  wpAny (model prog w) A (Builtin.«type.__call__» ⟨.ref C::bD,[]⟩) Q E ⟨h,g,d,t,os⟩:=by
 repeat (first | with_reducible refine wpAny_loadPart_at hC ?_ | with_reducible refine wpAny_madeBy_exc hC ?_ | wp_step)
 refine codeAny_call_builtin_code (Code.quiet_builtin _ Fn.quiet) (wpAny_check_new_subU Fn hBn T hC ?_);refine codeAny_exc_new_subU Fn hBn F T hC ?_ hrest;show wpAny _ _ _ _ _ _;have hC₁:=CO {cls:=.ref C,data:=.fields #[.ref h.objs.size,.none,.none,.none,.bool false,.none]}
  (CO {cls:=.type "tuple",data:=.seq bD.toArray} hC)
 have hget:((h.push {cls:=.type "tuple",data:=.seq bD.toArray}).push
   {cls:=.ref C,data:=.fields #[.ref h.objs.size,.none,.none,.none,.bool false,.none]}).get? (h.objs.size+1)=some
   {cls:=.ref C,data:=.fields #[.ref h.objs.size,.none,.none,.none,.bool false,.none]}:=by heap_get
 have hcC:(Value.ref C::bm).contains (.ref C)=true:=by simp
 have X₁:K.In ((h.push {cls:=.type "tuple",data:=.seq bD.toArray}).push {cls:=.ref C,data:=.fields #[.ref h.objs.size,.none,.none,.none,.bool false,.none]}):=
  X.keeps fun b o e=>CO _ (CO _ e)
 unfold isInstance
 repeat (first | with_reducible refine wpAny_loadPart_at hget ?_ | (with_reducible refine wpAny_isSubtype_exc hC₁ ?_;rw[hcC]) | wp_step)
 show wpAny _ _ (typeLookup (.ref C) _) _ _ _;refine(PySem.W.looks_findIn X₁ hi).at ?_;refine wpAny_holding (wpAny_bind ((PySem.W.bind_fn X₁ _ hf).at ?_));refine wpAny_bind (wpAny_mono (hq _ (h.objs.size+1) ⟨fun b o hb=>CO _ (CO _ hb),Heap.get?_none_of_le (Nat.le_succ _),h.objs.size,hget,Heap.get?_none_of_le (Dg _),?_⟩) (fun r s' hr=>?_) fun _ _ x=>x)
 ·exact CO _ (Heap.get?_push_at rfl rfl)
 ·obtain⟨rfl,hQ⟩:=hr
  wp_walk
  exact hQ
theorem kS(Fn:ExcBaseFacts Bn newId inN bmN)(hBn:bmB.contains (.type Bn)=true)(F:ExcBaseFacts B nid initId bmB)(T:OwnTail h bmB bm)(X:K.In h){bD:List Value}{fI:Addr}{Q:Value->Shared->Prop}
  (hC:h.get? C=some (excClassObj nm q C N bs bm hdct sn sub ab col dd k0 k1 k2 k3 k5 newId)) (hi:PySem.W.findIn K (.ref C) "__init__"=some (some (.ref fI))) (hf:PySem.W.typeIn K (.ref fI)=some (.type "function"))
  (hq:∀h' e,Heap.MadeExcOf h h' e (.ref C) bD ->
   wpAny (model prog w) (A.under (.builtin "type.__call__" ⟨.ref C::bD,[]⟩)) (call (.ref fI) (.ref e::bD)) (fun r s'=>r=.none/\Q (.ref e) s') E ⟨h',g,d,t,os⟩) (hrest:bD.length<=sizeLine) :
  wpAny (model prog w) A (call (.ref C) bD) Q E ⟨h,g,d,t,os⟩:=by
 have f1:=tc_lookup;have f2:=tc_bind (.ref C);have hT:(⟨h,g,d,t,os⟩:Shared).TypeIs (.ref C) "type":=⟨_,hC,rfl⟩;refine wpAny_call (codeAny_of_tree ?_);show wpAny _ _ (callAny (.ref C) _) _ _ _
 repeat (any_goals (first | assumption | with_reducible refine wpAny_loadPart_at hC ?_ | wp_step))
 refine⟨rfl,?_⟩;refine codeAny_call_builtin_at (Code.quiet_builtin _ (by decide +kernel)) entry_typeCall (wpAny_check_type_call_sub hC (iA (hrest:=hrest) Fn hBn F T X hC hi hf fun h' e hm=>?_));exact hq h' e hm
end
section
variable {prog:Program}{w:World}{A:Around}{E:Value->Shared->Prop}{s:Shared}{env:Env}
variable {nm q:Str}{C N:Addr}{bs bm bmB:List Value}{hdct:Bool}{sn:List Str}{sub:List Value}{ab:Bool}{col:Option Bool}{dd:Option Addr}{k0 k1 k2 k3 k5:Option Value}{B Bn newId nid initId inN:String}{bmN:List Value}{K:PySem.W.Frag}
theorem jX(Fn:ExcBaseFacts Bn newId inN bmN)(hBn:bmB.contains (.type Bn)=true)(F:ExcBaseFacts B nid initId bmB){x:Str}{np cpos pos:Pos}{args:List Expr}{fI:Addr}{Q:Flow->Shared->Prop}
  (hbase:bm.contains (.type "BaseException")=true) (hh:A.handled=none) (hplain:(backTo cpos (starEach args env)).any (·.1)=false) (hi:PySem.W.findIn K (.ref C) "__init__"=some (some (.ref fI))) (hf:PySem.W.typeIn K (.ref fI)=some (.type "function"))
  (h:wpAny (model prog w) A (eval (.Name x np) env) (fun f s₁=>f=.ref C/\wpAny (model prog w) A (evalArgs (.ref C) true (backTo cpos (starEach args env)) [])
   (fun a s₂=>a.kw=[]/\a.pos.length<=sizeLine/\s₂.heap.get? C=some (excClassObj nm q C N bs bm hdct sn sub ab col dd k0 k1 k2 k3 k5 newId)/\K.In s₂.heap/\OwnTail s₂.heap bmB bm /\
    ∀h' e,Heap.MadeExcOf s₂.heap h' e (.ref C) a.pos->wpAny (model prog w) (A.under (.builtin "type.__call__" ⟨.ref C::a.pos,[]⟩)) (call (.ref fI) (.ref e::a.pos))
     (fun r s'=>r=.none/\∃oe vs,s'.heap.get? C=some (excClassObj nm q C N bs bm hdct sn sub ab col dd k0 k1 k2 k3 k5 newId)/\s'.heap.get? e=some oe/\oe.cls=.ref C/\oe.data=.fields vs/\vs[1]?=some .none/\E (.ref e) s') E {s₂ with heap:=h' }) E s₁) E s) :
  wpAny (model prog w) A (exec (.Raise (some (.Call (.Name x np) args [] cpos)) none pos) env) Q E s:=by
 rw[arm_exec_Raise];simp only[evalOpt,Option.map];refine wpAny_bind (wpAny_standAt (l7 (C:=C) (nm:=nm) (q:=q) (N:=N) (bs:=bs) (bm:=bm) (hdct:=hdct) (sn:=sn) (sub:=sub) (ab:=ab) (col:=col) (dd:=dd) (k0:=k0) (k1:=k1) (k2:=k2) (k3:=k3) (k5:=k5) (newId:=newId) hbase hh (wpAny_bind (wpAny_mono (wpAny_Call_ofName (wpAny_mono h (fun f s₁ h₁=>?_) fun _ _ x=>x)) (fun v s₃ h₃=>wpAny_bind (wpAny_standAt (wpAny_pure h₃))) fun _ _ x=>x))));obtain⟨rfl,h₁⟩:=h₁;unfold callWith;refine wpAny_bind (wpAny_holding (wpAny_mono h₁ (fun a s₂ h₂=>wpAny_bind (wpAny_standAt ?_)) fun _ _ x=>x));obtain⟨apos,akw⟩:=a;obtain⟨hkw,hlen,hC,hX,T,h₂⟩:=h₂;obtain rfl:akw=[]:=hkw;obtain⟨hp,g,d,tk,os⟩:=s₂;simp only[hplain];refine wpAny_bind (wpAny_keeperOf_exc hC ?_);refine wpAny_bind (kS (hrest:=hlen) Fn hBn F T hX hC hi hf fun h' e hm=>wpAny_mono (h₂ h' e hm) (fun r s' hr=>⟨hr.1,wpAny_bind (wpAny_holding (wpAny_point (wpAny_pure ?_)))⟩) fun _ _ x=>x);obtain⟨_,oe,vs,a1,a2,a3,a4,a5,a6⟩:=hr;exact⟨e,oe,vs,rfl,a1,a2,a3,a4,a5,a6⟩
end
end PySem
namespace PySem.W
open PySem PySem.Spec PySem.Calls PyProof.Rows
open Builtin Builtin.ObjectAttr
noncomputable def excOut(K:Frag)(C:Addr)(bmB:List Value)(newId:String):Bool:=match K.lookup C with
 |some ⟨.type "type",_,.cls cd,sl⟩=>(match cd.mro,sl.toList with
  | .ref C'::bm,[_,_,_,_,some (.builtin n),_]=>C'==C&&n==newId && !cd.hasDel&&tailIn K bmB bm&&nsOkIn K cd.ns
  |_,_=>false)
 |_=>false
noncomputable def strip:List Value->List Value
 | .ref _::r=>strip r
 |l=>l
theorem jf(self:Value):∀{l bm:List Value},strip l=bm->refuseLoop self "__setattr__" bm=pure ()->refuseLoop self "__setattr__" l=pure ()
 | [],_,e,h=>by rw[show([]:List Value)=_ from e];exact h
 | .ref c::r,_,e,h=>by rw[refuseLoop_ref];exact jf self (l:=r) e h
 | .type n::r,_,e,h=>by rw[show(Value.type n::r)=_ from e];exact h
 | .none::r,_,e,h=>by rw[show(Value.none::r)=_ from e];exact h
 | .bool b::r,_,e,h=>by rw[show(Value.bool b::r)=_ from e];exact h
 | .int i t::r,_,e,h=>by rw[show(Value.int i t::r)=_ from e];exact h
 | .float i t::r,_,e,h=>by rw[show(Value.float i t::r)=_ from e];exact h
 | .str i t::r,_,e,h=>by rw[show(Value.str i t::r)=_ from e];exact h
 | .bytes i t::r,_,e,h=>by rw[show(Value.bytes i t::r)=_ from e];exact h
 | .builtin n::r,_,e,h=>by rw[show(Value.builtin n::r)=_ from e];exact h
 | .ellipsis::r,_,e,h=>by rw[show(Value.ellipsis::r)=_ from e];exact h
 | .notImplemented::r,_,e,h=>by rw[show(Value.notImplemented::r)=_ from e];exact h
structure XSt(K:Frag)(C:Addr)(f:Str):Prop where
 sa:findIn K (.ref C) "__setattr__"=some (some (.builtin "object.__setattr__"))
 st:∃cd,clsIn K C=some cd/\strip cd.mro=[.type "ValueError",.type "Exception",.type "BaseException",.type "object"]/\cd.hasDict=true/\cd.mro.contains (.type "object")=true/\cd.mro.isEmpty=false
 no:findIn K (.ref C) f=some none
section
variable {prog:Program}{w:World}{A:Around}{E:Value->Shared->Prop}{s:Shared}{K:Frag}{x C:Addr}{ox:Obj}{vs:Array Value}{name:Str}{v:Value}
theorem set_new{Q:Unit->Shared->Prop}(X:K.In s.heap)(c:XSt K C name)(hx:s.heap.get? x=some ox)(hcl:ox.cls=.ref C)(hdn:ox.dict=none)(hdt:ox.data=.fields vs)
  (h:∀h' t',(∀b o,b≠x->s.heap.get? b=some o->h'.get? b=some o)->h'.get? x=some {ox with dict:=some s.heap.objs.size}->h'.Ns1 s.heap.objs.size (fun y=>if y=name then some v else none)->Q () {s with heap:=h',toks:=t' }) :
  wpAny (model prog w) A (setAttr (.ref x) name v) Q E s:=by
 obtain⟨cd,hc,hst,hhd,hob,hne⟩:=c.st;obtain⟨oc,od,dt,sl⟩:=ox;dsimp only at hcl hdn hdt;subst hcl hdn hdt;have J:InstAt s.heap x ⟨.ref C,none,.fields vs,sl⟩ C none:=⟨hx,rfl,rfl,trivial⟩;obtain⟨hh,g,d,t,os⟩:=s;have SF:=PySem.F.store_object;refine set_plain X J c.sa ?_;have sub:Looks (model prog w) hh (isInstance (.ref x) (.type "object")) true:=J.type.andThen (looks_mroIn X (by unfold mroIn;rw[hc,Option.bind_some,if_neg (by rw[hne];decide),hob]));refine codeAny_call_builtin SF.slot.plain SF.entry (@check_slot (model prog w) _ _ _ "object.__setattr__" "object" "__setattr__" (.ref x) [.str name t,v] [] _ SF.kind SF.split sub (SF.args (.ref x) (.str name t) v) ?_);have hm:Looks (model prog w) hh (mroOf (.ref C)) cd.mro:=(looks_clsIn X hc).andThen .now;rw[osa_eq,refuse_eq];refine wpAny_bind (wpAny_bind (J.type.at (wpAny_bind (hm.at ?_))));rw[jf _ hst (PySem.F.store_ValueError.passes _)];refine wpAny_pure (wpAny_bind (J.type.at (wpAny_bind ((looks_findIn X c.no).at (wpAny_bind (wpAny_pure ?_))))));have hx₁:(hh.push {cls:=.type "dict",data:=.dict #[]}).get? x=some ⟨.ref C,none,.fields vs,sl⟩:=CO _ hx;have hxs:x≠hh.objs.size:=Db (Dj hx);show wpAny _ _ (storeInOwnDict (.ref x) (.ref C) (.str name t) name v false) _ _ _;refine wpAny_bind (wpAny_pure (wpAny_bind (wpAny_bind (wpAny_loadPart hx ?_))));refine wpAny_bind ((looks_clsIn X hc).at ?_);rw[if_neg (by rw[hhd];decide)];dsimp only;rw[if_neg (by simp[typeHasDict])];refine wpAny_bind (wpAny_alloc' ?_);refine wpAny_bind (wpAny_update' hx₁ ?_);refine wpAny_pure ?_;have hgd:((hh.push {cls:=.type "dict",data:=.dict #[]}).update x fun o=>{cls:=o.cls,dict:=some hh.objs.size,data:=o.data,slots:=o.slots}).get? hh.objs.size
   = some {cls:=.type "dict",data:=.dict #[]}:=
  (Heap.get?_update_ne _ _ _ _ hxs.symm).trans (Heap.get?_push_at rfl rfl)
 have hnd:((hh.push {cls:=.type "dict",data:=.dict #[]}).update x fun o=>{cls:=o.cls,dict:=some hh.objs.size,data:=o.data,slots:=o.slots}).Ns hh.objs.size (fun _=>none):=
  ⟨_,#[],_,hgd,rfl,fun e he=>absurd he (by simp),fun _=>rfl⟩
 show wpAny _ _ (storeInDict hh.objs.size (.str name t) name v) _ _ _;unfold storeInDict newKeyGuard;refine wpAny_bind (wpAny_pure (wpAny_bind (wpAny_nsSet1 (Heap.Ns1.of_empty hnd) fun h' hn' hs=>?_)));obtain⟨oD,esD,epD,hoD,hdD,hcD⟩:=hn'.count (Within.cons name v Within.nil);refine wpAny_bind (wpAny_lookBehind hoD (by rw[hdD];exact pastItsLine_dict (Dm hcD (by rw[C5,List.length_nil,sizeLine_eq];omega))) ?_);refine wpAny_pure (h h' _ (fun b o hb e=>(hs.2 b (Db (Dj e))).trans ((Heap.get?_update_ne _ _ _ _ hb).trans (CO _ e))) ?_ hn');exact(hs.2 x hxs).trans (C4 _ hx₁ rfl)
end
end PySem.W
namespace L2
open PySem PySem.Spec PyProof.Rows
structure kc(K:PySem.W.Frag)(C:Addr)(bmB:List Value)(newId:String):Prop where
 exc:PySem.W.excOut K C bmB newId=true
theorem kc.obj{K:PySem.W.Frag}{C:Addr}{bmB:List Value}{newId:String}{h:Heap}(c:kc K C bmB newId)(X:K.In h):∃bm N nm q bs hdct sn sub ab col dd k0 k1 k2 k3 k5,
  h.get? C=some (excClassObj nm q C N bs bm hdct sn sub ab col dd k0 k1 k2 k3 k5 newId)/\OwnTail h bmB bm/\∃dd' cd sl,K.lookup C=some ⟨.type "type",dd',.cls cd,sl⟩/\cd.mro=.ref C::bm:=by
 have q:=c.exc;unfold PySem.W.excOut at q;cases hl:K.lookup C with
 |none=>rw[hl]at q;cases q
 |some ob=>
  rw[hl]at q
  split at q
  ·rename_i dd cd sl e
   cases e
   split at q
   ·rename_i C' bm k0 k1 k2 k3 n k5 hm hs
    simp only[Bool.and_eq_true,beq_iff_eq,Bool.not_eq_true']at q;obtain⟨⟨⟨⟨rfl,rfl⟩,hdel⟩,ht⟩,hok⟩:=q;have ho:=X _ _ hl;have hsl:sl=#[k0,k1,k2,k3,some (.builtin n),k5]:=Array.toList_inj.mp hs;subst hsl;obtain⟨nm,bs,mro,ns,qn,hd,sn,sub,ab,col,del⟩:=cd;dsimp only at hm hdel hok ho;subst hm hdel;exact⟨bm,ns,nm,qn,bs,hd,sn,sub,ab,col,dd,k0,k1,k2,k3,k5,ho,PySem.W.tail_of_in X ht,dd,_,_,rfl,rfl⟩
   ·cases q
  ·cases q
noncomputable def yS(ea:Addr)(cls:Value)(od:Option Addr)(h:Heap):Prop:=∃o vs,h.get? ea=some o/\o.cls=cls/\o.dict=od/\o.data=.fields vs/\vs[1]?=some .none/\vs[2]?=some .none/\vs.size=6
noncomputable abbrev xn(ea:Addr)(cls:Value)(od:Option Addr):HO:=.ext (yS ea cls od)
theorem m3{ea:Addr}{cls:Value}{od:Option Addr}:∀h1 h2:Heap,yS ea cls od h1->(∀o,h1.get? ea=some o->h2.get? ea=some o)->yS ea cls od h2:=
 fun h1 h2 ⟨o,ws,e1,e2,e3,e4,e5⟩ k=>⟨o,ws,k o e1,e2,e3,e4,e5⟩
section
variable {X:Cx}{o value:Expr}{f:Str}{pos pos':Pos}{ta tv:TE}
noncomputable def v5(K:PySem.W.Frag)(ta tv:TE)(f:Str):TS:=fun D σ H=>tv σ H fun y H1=>ta σ H1 fun x H2=>∃a C,x=.ref a/\H2 a=some (xn a (.ref C) none)/\PySem.W.XSt K C f /\
 ∀d,H2 d=none->D.nx σ (ar (ar H2 d (.xd [(f,y)])) a (xn a (.ref C) (some d)))
theorem wY(ha:PE X o ta)(hv:PE X value tv)(hs:swapsWith value (some (.Attribute o f pos')) pos.line X.env=pure false):PS X (.Assign [.Attribute o f pos'] value pos) (v5 X.K ta tv f):=by
 intro pins s σ H D I h;refine plainObj_wpAny_Assign_Attribute (bq (hv pins s σ H _ I h) fun u s1 ⟨y,H1,I1,ry,q⟩=>bq (ha pins s1 σ H1 _ I1 q) fun ov s2 ⟨x,H2,I2,rx,a,C,ex,ea,c,q2⟩=>?_) hs;subst ex;obtain rfl:ov=Value.ref a:=rx;obtain⟨⟨ob,ws,e1,e2,e3,e4,e5⟩,_,_⟩:=(show aX X.prog X.w H2 s2.heap a (xn a (.ref C) none) from I2.hok a _ ea);refine PySem.W.set_new I2.kIn c e1 e2 e3 e4 fun h' t' hk hx hn=>?_;have hfr:H2 s2.heap.objs.size=none:=I2.hok.fresh (Dg _);have hne:s2.heap.objs.size≠a:=Nat.ne_of_gt (Dj e1);have oa:(h'.update a fun _=>ob).get? a=some ob:=C4 _ hx (Obj.isFreed_of_fields e4);have oo:∀b,b≠a->(h'.update a fun _=>ob).get? b=h'.get? b:=fun b hb=>CV _ _ (Ne.symm hb);have I3:Inv X pins σ (ar H2 s2.heap.objs.size (.xd [(f,y)])) {s2 with heap:=h'.update a fun _=>ob,toks:=t' }:=I2.laid (fun b u z=>by
   by_cases hb:b=a
   ·subst hb;rw[e1]at z;cases z;exact oa
   ·rw[oo b hb];exact hk b u hb z) (Dg _) ⟨_,hn.at fun o z=>(oo _ hne).trans z,fun g=>?_⟩
 ·have I4:=I3.write (x:=a) (e:=a) (o:=xn a (.ref C) (some s2.heap.objs.size)) (h':=h') (t':=t') (by rw[ah (Ne.symm hne),ea];exact True.intro) (.inl rfl) (fun b u hb z=>by rw[<- oo b hb];exact z) ⟨_,hx⟩ ⟨⟨_,ws,hx,e2,rfl,e4,e5⟩,⟨_,hx⟩,m3⟩
  exact⟨σ,_,I4,q2 _ hfr⟩
 ·show fj (List.lookup g [(f,y)]) (if g=f then some u else none)
  by_cases z:g=f
  ·have hb:(g==f)=true:=beq_iff_eq.mpr z
   simp only[List.lookup,hb,if_pos z];exact ry
  ·have hb:(g==f)=false:=beq_eq_false_iff_ne.mpr z
   simp only[List.lookup,hb,if_neg z];exact True.intro
end
noncomputable def kj(C:Addr)(fn:Str):Sp:=fun vs H Q _=>∃a v,vs=[.ref a,v]/\H a=some (xn a (.ref C) none)/\∀d,H d=none->Q .non (ar (ar H d (.xd [(fn,v)])) a (xn a (.ref C) (some d)))
noncomputable def o6(H:Hp)(e:Addr):Hp:=fun b=>if b=e then none else H b
theorem dw{H:Hp}{e b:Addr}(h:b≠e):o6 H e b=H b:=by unfold o6;rw[if_neg h]
theorem gX{H:Hp}{e:Addr}:o6 H e e=none:=by unfold o6;rw[if_pos rfl]
noncomputable def u7(X:Cx)(E:XK):Prop:=∀(pins:List (Addr×Obj)) (σ:St) (H2:Hp) (s2:Shared) (hm:Heap) (H3:Hp) (s3:Shared) (e C:Addr) (od:Option Addr),Inv X pins σ H2 s2->Inv X pins σ H3 s3->s2.heap.get? e=none ->
 (∀b o,s2.heap.get? b=some o->hm.get? b=some o)->Un (iJ X.stack) [] (ar H2 e (xn e (.ref C) none)) H3 hm s3.heap->s3.os=s2.os->H3 e=some (xn e (.ref C) od)->E (.ref C) od (o6 H3 e)->X.xe (.ref e) s3
section
variable {P:Program}{w:World}{K:PySem.W.Frag}{mg:Str->Option Value}{base:Heap}{N:List Str}{qual:Str}{scope:Scope}{f:Addr}{cd:Value}{A:Around}{outer:List Env}{s:Shared}{H:Hp}{E E1:XK}
theorem e7(hE:∀c d H',E1 c d H'->E c d H'):u7 (dL (bZ P w) P w K mg base N qual scope f cd A outer s H E) E1:=by
 intro pins σ H2 s2 hm H3 s3 e C od I2 I3 new keep un os3 he3 q;obtain⟨⟨oe,vs,g1,g2,g3,g4,g5⟩,_,_⟩:=(show aX P w H3 s3.heap e (xn e (.ref C) od) from I3.hok e _ he3);have ne:∀b o,s2.heap.get? b=some o->b≠e:=fun b o z y=>by rw[y,new]at z;cases z
 have h2e:H2 e=none:=by
  cases z:H2 e with
  |none=>rfl
  |some o=>
   obtain⟨ob,hob⟩:=(I2.hok e o z).there;rw[new]at hob;cases hob
 have hin:∀env∈(dL (bZ P w) P w K mg base N qual scope f cd A outer s H E).stack,∀b,env.frame=some b->b∈e::iJ (dL (bZ P w) P w K mg base N qual scope f cd A outer s H E).stack:=fun env he b hb=>.tail _ (List.mem_filterMap.mpr ⟨env,he,hb⟩);have hff:=PySem.W.funFrames_hide I3.stack hin;have u0:∀b,b≠e->H2 b=none->ar H2 e (xn e (.ref C) none) b=none:=fun b hb n=>by rw[ah hb];exact n
 have fly0:Fly0 P w (dL (bZ P w) P w K mg base N qual scope f cd A outer s H E).stack H2 s2 (PySem.W.hideAll s3.heap (e::iJ (dL (bZ P w) P w K mg base N qual scope f cd A outer s H E).stack)) (o6 H3 e) s3:=by
  refine⟨fun b o z=>PySem.W.of_hideAll _ z,hff,⟨fun b o z n hb _=>un.keep b o (keep b o z) (u0 b (ne b o z) n) hb (by simp),fun b o z n hb _=>un.slot b o (keep b o z) (u0 b (ne b o z) n) hb (by simp),fun b o z n _=>?_,fun b o z _=>un.there b o (keep b o z) (by simp),fun b xs z=>?_,fun b o y z=>?_,fun b ps z=>?_⟩,fun b o z=>?_,fun b o z=>?_,fun b o z hb=>?_,os3,I3.bare⟩
  ·rw[dw (ne b o z)]
   exact un.free b o (keep b o z) (u0 b (ne b o z) n) (by simp)
  ·have hb:b≠e:=au z h2e
   rw[dw hb];exact un.tups b xs (by rw[ah hb];exact z)
  ·have hb:b≠e:=au z h2e
   rw[dw hb];exact un.frzs b o y (by rw[ah hb];exact z)
  ·have hb:b≠e:=au z h2e
   rw[dw hb];exact un.tbls b ps (by rw[ah hb];exact z)
  ·have hb:b≠e:=fun y=>by rw[y,gX]at z;cases z
   rw[dw hb]at z;exact(I3.hok b o z).stay (fun _ _ _ y=>y) (fun c y=>by rw[dw (fun x=>by rw[x,he3]at y;cases y)];exact y) fun c xs y=>by rw[dw (fun x=>by rw[x,he3]at y;cases y)];exact y
  ·have hb:b≠e:=fun y=>by rw[y,gX]at z;cases z
   rw[dw hb]at z;obtain⟨ob,hob⟩:=(I3.hok b o z).there;refine⟨ob,PySem.W.hideAll_get _ hob fun hm=>?_⟩;rcases C9.mp hm with y | y
   ·exact hb y
   ·rw[I3.stkFree b y]at z;cases z
  ·obtain⟨o',z'⟩:=un.there b o (keep b o z) (by simp)
   refine⟨o',PySem.W.hideAll_get _ z' fun hm=>?_⟩;rcases C9.mp hm with y | y
   ·exact ne b o z y
   ·exact hb y
 have newB:(PySem.W.hideAll s3.heap (e::iJ (dL (bZ P w) P w K mg base N qual scope f cd A outer s H E).stack)).get? e=none:=PySem.W.hideAll_none _ (List.mem_cons_self ..);refine sC (cp:=fun v=>v=.none) (s:=s3) I3.ok.frames fly0.ff rfl g1 fly0.st newB g4 g5.1 ⟨_,g5.2.1,rfl⟩ fun h' fl2 up=>?_;rw[g2,g3]at fl2;exact⟨e,.ref C,od,_,o6 H3 e,rfl,Fly0.up I2 rfl rfl rfl rfl rfl fly0 fl2 up,gX,hE _ _ _ q⟩
end
structure XI(P:Program)(w:World)(K:PySem.W.Frag)(mg:Str->Option Value)(base:Heap)(k:Nat)(C:Addr)(fn:Str):Prop where
 ex:∃(bm bmN:List Value) (newId Bn inN B nid initId:String) (fI:Addr) (fd:FuncData) (ps:List Str),kc K C bm newId/\ExcBaseFacts Bn newId inN bmN/\bm.contains (.type Bn)=true/\ExcBaseFacts B nid initId bm /\
  PySem.W.findIn K (.ref C) "__init__"=some (some (.ref fI))/\PySem.W.typeIn K (.ref fI)=some (.type "function")/\aO P w K mg base bY k fI fd ps (kj C fn)/\cL K fd ps []
section
variable {X:Cx}{x:Str}{np cpos pos:Pos}{e₀:Expr}{t:TA}{C:Addr}{fn:Str}{k:Nat}{E:XK}
noncomputable def nC(C:Addr)(fn:Str)(E:XK)(t:TA):TS:=fun _ σ H=>t σ H fun vs H1=>vs.length<=sizeLine/\∃v,vs=[v]/\∀d,H1 d=none->E (.ref C) (some d) (ar H1 d (.xd [(fn,v)]))
theorem eZ(c:XI X.prog X.w X.K X.mg X.base k C fn)(hr:cq (k+1) X.A)(hc:X.calm=true)(hg:Gl X x)(hm:X.mg x=some (.ref C))(hx:u7 X E)(ha:PA X [e₀] t)
  (hd:(x==("__debug__":Str))=false:=by decide +kernel) (he:starEach [e₀] X.env=(false,eval e₀ X.env)::starEach [] X.env:=by rfl) (hpl:(backTo cpos (starEach [] X.env)).any (·.1)=false:=by rfl) :
  PS X (.Raise (some (.Call (.Name x np) [e₀] [] cpos)) none pos) (nC C fn E t):=by
 obtain⟨bmB,bmN,newId,Bn,inN,B,nid,initId,fI,fd,ps,c1,c2,c3,c4,hi,hf,F,hb⟩:=c.ex;intro pins s σ H D I h;obtain⟨tl,N,nm,q,bs,hdct,sn,sub,ab,col,dd,k0,k1,k2,k3,k5,hC,T,_⟩:=c1.obj I.mod.kin;refine jX (K:=X.K) (fI:=fI) (C:=C) (nm:=nm) (q:=q) (N:=N) (bs:=bs) (bm:=tl) (hdct:=hdct) (sn:=sn) (sub:=sub) (ab:=ab) (col:=col) (dd:=dd) (k0:=k0) (k1:=k1) (k2:=k2) (k3:=k3) (k5:=k5)
  c2 c3 c4 (T.hasType c4.hasBase) (I.ok.hd hc) (by rw[he];show(false||(backTo cpos (starEach [] X.env)).any (·.1))=false;rw[hpl];rfl) hi hf (dX I hg hm ⟨rfl,?_⟩ hd)
 rw[he];have ha':=ha cpos pins s σ H _ I h;rw[he]at ha';refine Calls.evalArgs_plain (wpAny_mono ha' (fun us s₂ ⟨vs,H1,I1,r1,z,v,ev,q1⟩=>⟨rfl,by rw[<- r1.length];exact z,I1.bk _ _ hC,I1.kIn,T.keeps I1.bk,fun h' e hx'=>?_⟩) fun _ _ y=>y);subst ev;obtain⟨u,rfl,ru⟩:=r1.one;obtain⟨t0,he0,ht0,htt⟩:=hx'.there;have ne:∀b o,s₂.heap.get? b=some o->b≠e:=fun b o z y=>by rw[y,hx'.new]at z;cases z
 have h1e:H1 e=none:=by
  cases z:H1 e with
  |none=>rfl
  |some o=>
   obtain⟨ob,hob⟩:=(I1.hok e o z).there;rw[hx'.new]at hob;cases hob
 have Im:Inv X pins σ (ar H1 e (xn e (.ref C) none)) {s₂ with heap:=h' }:=by
  refine I1.call' (s':={s₂ with heap:=h' }) (ch:=[]) rfl ⟨fun b o z _ _ _=>hx'.keeps b o z,fun b o z _ _ _=>⟨o.slots,hx'.keeps b o z⟩,fun b o z n _=>by rw[ah (ne b o z)];exact n,fun b o z _=>⟨o,hx'.keeps b o z⟩,fun b xs z=>by rw[ah (au z h1e)];exact z,fun b o y z=>by rw[ah (au z h1e)];exact z,fun b ps z=>⟨#[],by rw[ah (au z h1e),z];simp⟩⟩ (fun b o z=>?_) I1.bare (fun b z=>absurd z (by simp))
  by_cases hb:b=e
  ·subst hb
   rw[ac]at z;cases z;exact⟨⟨_,_,he0,rfl,rfl,rfl,rfl,rfl,rfl⟩,⟨_,he0⟩,m3⟩
  ·rw[ah hb]at z
   exact(I1.hok b o z).stay (fun c u _ y=>hx'.keeps c u y) (fun c y=>by rw[ah (au y h1e)];exact y) fun c xs y=>by rw[ah (au y h1e)];exact y
 have hsp:kj C fn [.ref e,v] (ar H1 e (xn e (.ref C) none)) (fun r H3=>r=.non/\∃d,H3 e=some (xn e (.ref C) (some d))/\E (.ref C) (some d) (o6 H3 e)) (fun _ _ _=>False):=by
  refine⟨e,v,rfl,ac,fun d hd'=>⟨rfl,d,ac,?_⟩⟩;have hde:d≠e:=fun y=>by rw[y,ac]at hd';cases hd'
  rw[ah hde]at hd';have ee:o6 (ar (ar (ar H1 e (xn e (.ref C) none)) d (.xd [(fn,v)])) e (xn e (.ref C) (some d))) e=ar H1 d (.xd [(fn,v)]):=by
   funext b
   by_cases hb:b=e
   ·rw[hb,gX,ah (Ne.symm hde)];exact h1e.symm
   ·rw[dw hb,ah hb]
    by_cases hbd:b=d
    ·rw[hbd,ac,ac]
    ·rw[ah hbd,ah hb,ah hbd]
  rw[ee];exact q1 d hd'
 have hl:([Value.ref e,u]++[]).length=ps.length:=(F.len _ _ _ _ hsp:[V.ref e,v].length=ps.length);have r2:aH [V.ref e,v] [Value.ref e,u]:=.cons rfl (.cons ru .nil);refine wpAny_call (codeAny_mono (F.run _ X.stack _ _ ⟨[.ref e,u],[]⟩ [.ref e,u] _ _ _ (hr.make C [u] []) (Im.env0.make C [u] []) (hb _ [Value.ref e,u] Im.kIn hl) r2 hsp) fun r s' hq'=>?_);cases r with
 |error ev=>exact False.elim hq'
 |ok fl=>
  cases fl with
  |ret u'=>
   obtain⟨v',H3,os3,bare3,un3,hok3,rv,ev,d,he3,qE⟩:=hq';subst ev;have I3:=Im.call' (ch:=[]) os3 un3 hok3 bare3 (fun b z=>absurd z (by simp));obtain⟨⟨oe,ws,g1,g2,g3,g4,g5⟩,_,_⟩:=(show aX X.prog X.w H3 s'.heap e (xn e (.ref C) (some d)) from I3.hok e _ he3);exact⟨rv,oe,ws,I3.bk _ _ hC,g1,g2,g4,g5.1,hx pins σ H1 s₂ h' H3 s' e C (some d) I1 I3 hx'.new hx'.keeps un3 os3 he3 qE⟩
  |next=>exact False.elim hq'
  |brk=>exact False.elim hq'
  |cont=>exact False.elim hq'
end
section
variable {X:Cx}{P:Program}{w:World}{e tg:Expr}{tx:TX}{g:TG}{i:Nat}{n x:Str}{D:Addr}{bmD:List Value}{nD:String}{b₀:Stmt}{suite:List Stmt}{apos pos hpos np:Pos}{ts:Addr->TS}
end
noncomputable def zo(H:Hp)(a C:Addr):Prop:=H a=some (xo a (.ref C) none)\/∃d fs,H a=some (xo a (.ref C) (some d))/\H d=some (.xd fs)
section
variable {X:Cx}{pins:List (Addr×Obj)}{σ:St}{H:Hp}{s:Shared}
theorem zo.inst{a C:Addr}(I:Inv X pins σ H s)(r:zo H a C):∃odo ox,PySem.W.InstAt s.heap a ox C odo:=by
 rcases r with r | ⟨d,fs,r,rd⟩
 ·obtain⟨hx,_⟩:=(show aX X.prog X.w H s.heap a (xo a (.ref C) none) from I.hok a _ r)
  obtain⟨ox,z⟩:=v6 hx;exact⟨none,ox,z⟩
 ·obtain⟨⟨o,vs,e1,e2,e3,e4⟩,_⟩:=(show aX X.prog X.w H s.heap a (xo a (.ref C) (some d)) from I.hok a _ r)
  obtain⟨mA,n,_⟩:=(show aX X.prog X.w H s.heap d (.xd fs) from I.hok d _ rd);obtain⟨od,ho,_⟩:=mz n;exact⟨some od,o,e1,e2,by unfold PySem.W.notCls;rw[e4],by rw[e3];exact ho⟩
noncomputable def zy(K:PySem.W.Frag):List V->Hp->VK->Prop:=fun xs H Q=>xI K xs H Q \/
 (∃a C c b,xs=[.ref a,c]/\i_ c=true/\zo H a C/\PySem.W.XTy K C/\PySem.W.kitOne K (.ref C) (rl c)=some b/\Q (.bl b) H) \/
 (∃a C tp cs b,xs=[.ref a,.ref tp]/\H tp=some (.tup cs)/\(∀c∈cs,i_ c=true)/\zo H a C/\PySem.W.XTy K C/\PySem.W.kitAny K (.ref C) (cs.map rl)=some b/\Q (.bl b) H)
theorem cW:eY X (.builtin "isinstance") (zy X.K):=by
 intro pins s σ H xs us Q I r h;rcases h with h | ⟨a,C,c,b,rfl,hc,ha,ty,e,q⟩ | ⟨a,C,tp,cs,b,rfl,ht,hc,ha,ty,e,q⟩
 ·exact cA pins s σ H xs us Q I r h
 ·obtain⟨u,v,rfl,ru,rv⟩:=r.two
  cases ru;rw[nY rv hc];obtain⟨odo,hx⟩:=ha.inst I;exact PySem.W.kia_one (PySem.W.kitx_exc (odo:=odo) ty) I.kIn hx e (fun z=>nomatch z) fun tk=>⟨.bl b,H,I.tok tk,rfl,q⟩
 ·obtain⟨u,v,rfl,ru,rv⟩:=r.two
  cases ru;cases rv;obtain⟨odo,hx⟩:=ha.inst I;obtain⟨_,its,rvs,o,h1,h2,n,h3⟩:=(show aX X.prog X.w H s.heap tp (.tup cs) from I.hok tp _ ht);obtain⟨oc,odd,odt,osl⟩:=o;dsimp only at h2 h3;subst h2 h3;have ei:=pX rvs hc;subst ei;exact PySem.W.kia_tup (PySem.W.kitx_exc (odo:=odo) ty) I.kIn hx h1 e (fun z=>nomatch z) fun tk=>⟨.bl b,H,I.tok tk,rfl,q⟩
end
end L2
namespace PySem.W
open PySem PySem.Spec PySem.Calls PyProof.Rows
section
variable {prog:Program}{w:World}{A:Around}{E:Value->Shared->Prop}{s:Shared}{K:Frag}{x D:Addr}{ox:Obj}{odo:Option Obj}{name:Str}
end
end PySem.W
namespace L2
open PySem PySem.Spec PyProof.Rows
section
variable {X:Cx}{e:Expr}{ta:TE}{f:Str}{pos:Pos}
end
end L2
namespace SpM
open PySem
noncomputable def step(c:Nat)(rows:List (List Nat))(d:Nat):List (List Nat):=if d=c then rows++[[]] else rows.dropLast++[rows.getLastD []++[d]]
noncomputable def AK(c:Nat)(x:List Nat):List (List Nat):=x.foldl (step c) [[]]
end SpM
namespace PyProof.Rows
open PySem PySem.Spec PySem.Builtin PySem.Builtin.Str
section
variable {prog:Program}{w:World}{A:Around}{E:Value->Shared->Prop}{s:Shared}{x y:Str}{t u:Tok}{Q:Value->Shared->Prop}
end
end PyProof.Rows
namespace L2
open PySem PySem.Spec PyProof.Rows QL
section
variable {X:Cx}
end
structure u6(K:PySem.W.Frag)(C:Addr)(m:Str)(f:Addr):Prop where
 sp:PySem.W.specialIn K (.ref C) "__getattribute__"=some (some (.builtin "type.__getattribute__"))
 rd:PySem.W.readsIn K C (.type "type")=true
 fi:PySem.W.findCls K (.ref C) (.type "type") m=some (.val (.ref f))
 kp:PySem.W.keepIn K (.ref f)=true
section
variable {X:Cx}{CX:iz}{k:Nat}{f C:Addr}{fd:FuncData}{ps:List Str}{sp:Sp}{E:XK}{x m:Str}{p pos apos:Pos}{e:Expr}{es:List Expr}{t:TA}
theorem v4{pl:Sem Bool}(c:u6 X.K C m f)(F:aO X.prog X.w X.K X.mg X.base CX k f fd ps sp)(hr:cq k X.A)(hg:Gl X x)(hm:X.mg x=some (.ref C))(hb:cL X.K fd ps [])(hx:cF CX X E)(ha:PA X (e::es) t)
  (hdb:(x==("__debug__":Str))=false:=by decide +kernel) (hst:starEach (e::es) X.env=(false,eval e X.env)::starEach es X.env:=by rfl) (hpl:(backTo pos (starEach es X.env)).any (·.1)=false:=by rfl)
  (ht:eval (.Call (.Attribute (.Name x p) m apos) (e::es) [] pos) X.env=(do
   let ov <- eval (.Name x p) X.env
   standAt apos.atName
   let (f,first) <- holding [ov] (getMethod ov m pl)
   callWith pos f first (backTo pos (starEach (e::es) X.env)) (backToKw pos (keywordEach [] X.env))):=by rfl) :
  PE X (.Call (.Attribute (.Name x p) m apos) (e::es) [] pos) (li sp [] E t):=by
 intro pins s σ H Q I h;refine PySem.W.methodCall_KW (pl:=pl) (dX I hg hm ?_ hdb) ht;refine PySem.W.method_cls I.kIn c.sp (PySem.W.cls_value I.kIn c.rd c.fi rfl ?_);have I1:=I.tok (s.toks+1);refine PySem.W.callWith_K (first:=[]) (h₀:=X.base) I.ok.mod.kin c.kp (bq (ha pos pins _ σ H _ I1 h) fun us s2 ⟨vs,H2,I2,r,q2⟩=>⟨I2.kIn,?_⟩) hst hpl;exact kN F hr hb .nil hx I2 r q2
end
section
variable (P:Program)(w:World)(K:PySem.W.Frag)(mg:Str->Option Value)(base:Heap)(CX:iz)
structure tR(k:Nat)(x m:Str)(ps:List Str)(sp:Sp):Prop where
 ex:∃(C f:Addr) (fd:FuncData),aO P w K mg base CX k f fd ps sp/\mg x=some (.ref C)/\u6 K C m f/\cL K fd ps []
structure jO(k:Nat)(x:Str)(C:Addr)(ps:List Str)(sp:Sp):Prop where
 ex:∃(f:Addr) (fd:FuncData),aO P w K mg base CX k f fd ps sp/\mg x=some (.ref C)/\Mk K C f/\cL K fd ps []
structure d_(k:Nat)(C:Addr)(m:Str)(ps:List Str)(sp:Sp):Prop where
 ex:∃(f:Addr) (fd:FuncData),aO P w K mg base CX k f fd ps sp/\j' K C/\dW K C m f/\cL K fd ps []
end
section
variable {X:Cx}{CX:iz}{k:Nat}{C:Addr}{ps:List Str}{sp:Sp}{E:XK}{x m:Str}{p pos apos:Pos}{e o:Expr}{es:List Expr}{t:TA}{ta:TE}
theorem kz{pl:Sem Bool}(c:tR X.prog X.w X.K X.mg X.base CX k x m ps sp)(hr:cq k X.A)(hg:Gl X x)(hx:cF CX X E)(ha:PA X (e::es) t)
  (hdb:(x==("__debug__":Str))=false:=by decide +kernel) (hst:starEach (e::es) X.env=(false,eval e X.env)::starEach es X.env:=by rfl) (hpl:(backTo pos (starEach es X.env)).any (·.1)=false:=by rfl)
  (ht:eval (.Call (.Attribute (.Name x p) m apos) (e::es) [] pos) X.env=(do
   let ov <- eval (.Name x p) X.env
   standAt apos.atName
   let (f,first) <- holding [ov] (getMethod ov m pl)
   callWith pos f first (backTo pos (starEach (e::es) X.env)) (backToKw pos (keywordEach [] X.env))):=by rfl) :
  PE X (.Call (.Attribute (.Name x p) m apos) (e::es) [] pos) (li sp [] E t):=by
 obtain⟨C,f,fd,F,hm,cf,hb⟩:=c.ex;exact v4 cf F hr hg hm hb hx ha hdb hst hpl ht
theorem gZ(c:jO X.prog X.w X.K X.mg X.base CX k x C ps sp)(hr:cq (k+1) X.A)(hg:Gl X x)(hx:cF CX X E)(ha:PA X (e::es) t)
  (hdb:(x==("__debug__":Str))=false:=by decide +kernel) (hst:starEach (e::es) X.env=(false,eval e X.env)::starEach es X.env:=by rfl) (hpl:(backTo pos (starEach es X.env)).any (·.1)=false:=by rfl) :
  PE X (.Call (.Name x p) (e::es) [] pos) (sS C sp [] E t):=by
 obtain⟨f,fd,F,hm,M,hb⟩:=c.ex;exact xB M F hr hg hm hb .nil hx ha hdb hst hpl
theorem fB{pl:Sem Bool}(c:d_ X.prog X.w X.K X.mg X.base CX k C m ps sp)(hr:cq k X.A)(hx:cF CX X E)(he:PE X o ta)(ha:PA X (e::es) t)
  (hst:starEach (e::es) X.env=(false,eval e X.env)::starEach es X.env:=by rfl) (hpl:(backTo pos (starEach es X.env)).any (·.1)=false:=by rfl)
  (ht:eval (.Call (.Attribute o m apos) (e::es) [] pos) X.env=(do
   let ov <- eval o X.env
   standAt apos.atName
   let (f,first) <- holding [ov] (getMethod ov m pl)
   callWith pos f first (backTo pos (starEach (e::es) X.env)) (backToKw pos (keywordEach [] X.env))):=by rfl) :
  PE X (.Call (.Attribute o m apos) (e::es) [] pos) (sT C m sp [] E ta t):=by
 obtain⟨f,fd,F,cl,hm,hb⟩:=c.ex;exact xk he cl hm F hr hb .nil hx ha hst hpl ht
end
section
variable {g:TG}{ti:TT}{te:TE}{σ:St}{H:Hp}{Q:List V->Hp->Prop}
theorem vI{x:Str}(Pv:Nat->List V->St->Hp->Prop)(h0:Pv 0 [] σ H)(hz:∀i acc σ H,Pv i acc σ H->acc.length<sizeLine)(hi:∀i acc σ H,Pv i acc σ H->i<=x.cps.size)
  (hs:∀i c acc σ H,x.cps[i]?=some c->Pv i acc σ H->g (.str ⟨#[c]⟩) σ H fun σ2 H3=>ti σ2 H3 fun b H4=>if b=true then te σ2 H4 fun v H5=>Pv (i+1) (acc++[v]) σ2 H5 else Pv (i+1) acc σ2 H4)
  (he:∀acc σ H,Pv x.cps.size acc σ H->Q acc H):jk (zD x) g ti te σ H Q:=by
 exact oZ (J:=zD x) (g:=g) (ti:=ti) (te:=te) (Q:=Q) (n:=x.cps.size) Pv h0 hz hi (fun acc σ H w=>Dg _) (fun i acc σ H hlt w=>hlt)
  (fun i v acc σ H H2 hlt w y=>by obtain⟨rfl,c,hc,rfl⟩:=y;exact hs i c acc σ H2 hc w) he
end
section
variable {X:Cx}{e:Expr}{tx:TX}{i:Nat}{n x:Str}{D:Addr}{bmD:List Value}{nD:String}{b₀:Stmt}{suite:List Stmt}{epos pos hpos np:Pos}{ts:Addr->TS}
end
section
variable (P:Program)(w:World)(K:PySem.W.Frag)(mg:Str->Option Value)(base:Heap)(CX:iz)
structure qi(k:Nat)(m:Str)(os:List (Addr×Sp)):Prop where
 ex:∀o∈os,∃ps,d_ P w K mg base CX k o.1 m ps o.2
end
noncomputable def oU(m:Str)(os:List (Addr×Sp))(E:XK)(ta:TE)(t:TA):TE:=fun σ H Q=>ta σ H fun x H1=>∃o∈os,∃a dx fs,x=.ref a/\H1 a=some (.ins o.1 dx fs)/\fs.lookup m=none /\
 t σ H1 fun vs H2=>o.2 (x::(vs++[])) H2 Q E
section
variable {X:Cx}{CX:iz}{k:Nat}{os:List (Addr×Sp)}{E:XK}{m:Str}{pos apos:Pos}{e o:Expr}{es:List Expr}{t:TA}{ta:TE}
theorem xh{pl:Sem Bool}(c:qi X.prog X.w X.K X.mg X.base CX k m os)(hr:cq k X.A)(hx:cF CX X E)(he:PE X o ta)(ha:PA X (e::es) t)
  (hst:starEach (e::es) X.env=(false,eval e X.env)::starEach es X.env:=by rfl) (hpl:(backTo pos (starEach es X.env)).any (·.1)=false:=by rfl)
  (ht:eval (.Call (.Attribute o m apos) (e::es) [] pos) X.env=(do
   let ov <- eval o X.env
   standAt apos.atName
   let (f,first) <- holding [ov] (getMethod ov m pl)
   callWith pos f first (backTo pos (starEach (e::es) X.env)) (backToKw pos (keywordEach [] X.env))):=by rfl) :
  PE X (.Call (.Attribute o m apos) (e::es) [] pos) (oU m os E ta t):=by
 intro pins s σ H Q I h;refine PySem.W.methodCall_KW (pl:=pl) (bq (he pins s σ H _ I h) fun u s1 ⟨x,H1,I1,rx,oc,ho,a,dx,fs,ex,ea,l,q⟩=>?_) ht;subst ex;obtain rfl:u=Value.ref a:=rx;obtain⟨ps,cm⟩:=c.ex oc ho;obtain⟨f,fd,F,cl,hm,hb⟩:=cm.ex;refine fh I1 ea cl hm l ?_;refine PySem.W.callWith_K (first:=[.ref a]) (h₀:=X.base) I.ok.mod.kin hm.kp (bq (ha pos pins s1 σ H1 _ I1 q) fun us s2 ⟨vs,H2,I2,r,q2⟩=>⟨I2.kIn,?_⟩) hst hpl;exact kN (us:=.ref a::us) (vs:=.ref a::vs) F hr hb .nil hx I2 (.cons rfl r) q2
theorem wM{pl:Sem Bool}(c:qi X.prog X.w X.K X.mg X.base CX k m os)(hr:cq k X.A)(hx:cF CX X E)(he:PE X o ta)
  (ht:eval (.Call (.Attribute o m apos) [] [] pos) X.env=(do
   let ov <- eval o X.env
   standAt apos.atName
   let (f,first) <- holding [ov] (getMethod ov m pl)
   callWith pos f first (backTo pos (starEach [] X.env)) (backToKw pos (keywordEach [] X.env))):=by rfl) :
  PE X (.Call (.Attribute o m apos) [] [] pos) (oU m os E ta uH):=by
 intro pins s σ H Q I h;refine PySem.W.methodCall_KW (pl:=pl) (bq (he pins s σ H _ I h) fun u s1 ⟨x,H1,I1,rx,oc,ho,a,dx,fs,ex,ea,l,q⟩=>?_) ht;subst ex;obtain rfl:u=Value.ref a:=rx;obtain⟨ps,cm⟩:=c.ex oc ho;obtain⟨f,fd,F,cl,hm,hb⟩:=cm.ex;refine fh I1 ea cl hm l ?_;exact PySem.W.callWith_K0 (first:=[.ref a]) I1.kIn hm.kp (kN (us:=[.ref a]) (vs:=[.ref a]) F hr hb .nil hx I1 (.cons rfl .nil) q)
end
structure fK(K:PySem.W.Frag)(C:Addr):Prop where
 cl:j' K C
 ha:PySem.W.findIn K (.ref C) "__class__"=some (some (.builtin "object.__class__"))
 hn:PySem.W.specialIn K (.builtin "object.__class__") "__get__"=some (some (.builtin "getset_descriptor.__get__"))
 htk:PySem.W.takesIn K (.builtin "object.__class__")=some true
 hm:PySem.W.mroIn K C (.type "object")=some true
theorem fK.ty{K:PySem.W.Frag}{C a dx:Addr}{H:Hp}{fs:List (Str×V)}(i:fK K C)(e:H a=some (.ins C dx fs)):hV K H (.ref a) (.ref C):=.ins e i.cl i.ha i.hn i.htk i.hm
section
variable {X:Cx}{CX:iz}{k:Nat}{os:List (Addr×Sp)}{m:Str}{pos apos:Pos}{e o:Expr}{es:List Expr}{t:TA}{ta:TE}
end
section
variable {X:Cx}{es:List Expr}{t:TA}
theorem bc{x j p}(hr:PA X es t):PA X (.Constant (.str x) j p::es) (mw (tC (.str x)) t):=aa lD hr rfl
theorem aw{x j p}(hr:PA X es t):PA X (.Constant (.int x) j p::es) (mw (tC (.int x)) t):=aa ae hr rfl
end
end L2
namespace PyProof.Rows
open PySem PySem.Spec PySem.Builtin PySem.Builtin.Str
section
variable {prog:Program}{w:World}{A:Around}{E:Value->Shared->Prop}{s:Shared}{x y:Str}{t u:Tok}{Q:Value->Shared->Prop}
end
end PyProof.Rows
namespace L2
open PySem PySem.Spec PyProof.Rows QL
section
variable {X:Cx}
end
section
variable {X:Cx}
end
section
variable {X:Cx}{pins:List (Addr×Obj)}{σ:St}{H:Hp}{s:Shared}{a:Addr}{kvs:List (bS×V)}{k:bS}{u r:Value}{d:V}{A:Around}{E:Value->Shared->Prop}
theorem vM{Q:Value->Shared->Prop}(I:Inv X pins σ H s)(e:H a=some (.dK kvs))(ry:aG (kV k) u)(rd:aG d r)(hl:kvs.length<sizeLine)
  (h1:∀v w' s',bf kvs k=some v->Inv X pins σ H s'->aG v w'->Q w' s') (h2:bf kvs k=none->∀s',Inv X pins σ (ar H a (.dK (bL kvs k d))) s'->Q r s') :
  wpAny (model X.prog X.w) A (call (.builtin "dict.setdefault") [.ref a,u,r]) Q E s:=by
 obtain⟨z,hd,vs,rel,dd⟩:=vJ I.hok e;have hz:vs.length<=sizeLine:=by rw[<- rel.length];exact z
 have hl':(bL kvs k d).length<=sizeLine:=by have:=df kvs k d;omega
 refine call_meetsIn PySem.F.slot_dict_setdefault dd.typeIs PySem.F.entry_dict_setdefault (PySem.F.args_dict_setdefault_3 _ _ _) (kt_meets_setdefault (bi X.prog X.w) a (lj ry) hd r) ⟨vs,dd,hz,fun v hv=>?_,fun hn h' dd' hs=>?_⟩
 ·have q:=rel.val k
  rw[hv]at q;cases hvv:bf kvs k with
  |none=>rw[hvv]at q;exact False.elim q
  |some v0=>rw[hvv]at q;exact h1 v0 v _ hvv (I.tok _) q
 ·have q:=rel.val k
  rw[hn]at q;have hvv:bf kvs k=none:=by
   cases hvv:bf kvs k with
   |none=>rfl
   |some v0=>rw[hvv]at q;exact False.elim q
  have he:∃q,h'.get? a=some q:=let ⟨q,_,_,hq,_⟩:=dd';⟨q,hq⟩
  exact h2 hvv _ (kr I (by rw[e];exact True.intro) hs he (qP hl' hd (rel.put k rd) dd'))
end
noncomputable def qf(td ty tx:TE):TE:=fun σ H Q=>td σ H fun x H1=>∃a,x=.ref a/\zd H1 a/\ty σ H1 fun y H2=>tx σ H2 fun z H3=>∃kvs k,H3 a=some (.dK kvs)/\y=kV k/\kvs.length<sizeLine /\
 (∀v,bf kvs k=some v->Q v H3)/\(bf kvs k=none->Q z (ar H3 a (.dK (bL kvs k z))))
section
variable {X:Cx}{o e f:Expr}{apos cpos:Pos}{td ty tx:TE}
theorem kQ(ho:PE X o td)(he:PE X e ty)(hf:PE X f tx)(m:M2 X o "setdefault" apos e f cpos):PE X (.Call (.Attribute o "setdefault" apos) [e,f] [] cpos) (qf td ty tx):=by
 intro pins s σ H Q I h;refine wpAny_Call_method m.base m.few m.line PySem.F.plainAttrs_dict PySem.F.slot_dict_setdefault PySem.F.type_dict_setdefault (bq (ho pins s σ H _ I h) fun u s1 ⟨x,H1,I1,rx,a,ex,d,q1⟩=>?_);subst ex;obtain rfl:u=Value.ref a:=rx;obtain⟨t1,t2,_⟩:=vx I1 d;refine⟨t1,t2,?_⟩;rw[m.trees];refine Calls.callWith_builtin rfl (Calls.evalArgs_plain (Calls.spliced_cons (bq (he pins s1 σ H1 _ I1 q1) fun iv s2 ⟨y,H2,I2,ry,q2⟩=>
  Calls.spliced_cons (bq (hf pins s2 σ H2 _ I2 q2) fun fv s3 ⟨z,H3,I3,rz,kvs,k,hH,ey,hlen,g1,g2⟩=>Calls.spliced_nil ?_))))
 subst ey;exact vM I3 hH ry rz hlen (fun v w' s4 hv I4 rv=>⟨v,H3,I4,rv,g1 v hv⟩) fun hn s4 I4=>⟨z,_,I4,rz,g2 hn⟩
end
section
variable {X:Cx}
end
section
variable {K:Type}[DecidableEq K]
noncomputable def d0(σ:List K)(v:K):List K:=if v∈σ then σ else σ++[v]
noncomputable def met(l:List K):List K:=l.foldl d0 []
theorem qz(σ:List K)(v k:K):decide (k∈d0 σ v)=(decide (k∈σ)||decide (k=v)):=by
 unfold d0
 by_cases h:v∈σ
 ·rw[if_pos h]
  by_cases e:k=v
  ·subst e;simp[h]
  ·simp[e]
 ·rw[if_neg h]
  simp[C7]
theorem j8(σ:List K)(v:K):(d0 σ v).length=if decide (v∈σ) then σ.length else σ.length+1:=by
 unfold d0
 by_cases h:v∈σ<;>simp[h]
theorem pU(l:List K)(v:K):met (l++[v])=d0 (met l) v:=by unfold met;rw[List.foldl_append];rfl
theorem sQ:∀(l σ:List K),(l.foldl d0 σ).length<=σ.length+l.length
 | [],σ=>Dg _
 |v::l,σ=>by
  have h:=sQ l (d0 σ v);have e:=j8 σ v;rw[List.foldl_cons,C5]
  split at e<;>omega
theorem wE(n:Nat)(l:List K)(h:l.length=n):(met l).length<=n:=by
 have:=sQ l [];rw[<- h];unfold met;simpa using this
end
section
variable {prog:Program}{w:World}{K:Type}[DecidableEq K]{knd:KeyKind prog w K}{A:Around}{R:Result->Shared->Prop}{I:Addr}{fp wr:List Addr}{G:Array GenState->Array GenState->Prop}{n:Nat}{P:Nat->Value->Prop}{St:Nat->Shared->Prop}
theorem xa(W:WalksS prog w A.in1 I fp wr G n P St)(S:Addr)(hSf:S∉fp)(l:List K)(hl:l.length=n)
  (hval:∀i v,P i v->∃k,l[i]?=some k/\knd.is k v=true/\v.scannable=true) (hb:n+1<scanBound) :
  ∀(k i:Nat) (s:Shared),n-i=k->i<=n->St i s ->
   s.heap.SetOf knd S (fun k'=>decide (k'∈met (l.take i))) (met (l.take i)).length ->
   (∀s',Moved (S::wr) G s s'->s'.heap.SetOf knd S (fun k'=>decide (k'∈met l)) (met l).length->R (.ok (.ret .none)) s') ->
   codeAny (model prog w) A (.builtin "set.update.loop" ⟨[.ref S,.ref I],[]⟩) R s:=by
 have hSw:S∉wr:=fun h=>hSf (W.sub _ h);have hsub:∀b∈wr,b∈S::wr:=fun b hb=>C_ _ hb;intro k
 induction k with
 |zero=>
  intro i s hk hi hst hS hR;have hin:i=n:=by omega
  subst hin;rw[<- hl,Ds]at hS;refine codeAny_builtin F.entry_set_update_loop ?_;rw[Around.under_plainId F.plain_set_update_loop _];show wpAny _ A.in1 (pyNext (.ref I) >>= _) _ _ s;refine wpAny_bind (W.done s _ _ hst fun s' hm=>?_);show wpAny _ A.in1 (ret Value.none) _ _ s';refine wpAny_pure (hR s' (hm.mono hsub) ?_);obtain⟨o,es,ep,t,ho,bD⟩:=hS;exact⟨o,es,ep,t,hm.heap S _ hSw ho,bD⟩
 |succ k ih=>
  intro i s hk hi hst hS hR;have hlt:i<n:=by omega
  refine codeAny_builtin F.entry_set_update_loop ?_;rw[Around.under_plainId F.plain_set_update_loop _];show wpAny _ A.in1 (pyNext (.ref I) >>= _) _ _ s;refine wpAny_bind (W.item i s _ _ hlt hst fun v s' hP hst' hm=>?_);obtain⟨key,hkey,his,hsc⟩:=hval i v hP;have hS':s'.heap.SetOf knd S (fun k'=>decide (k'∈met (l.take i))) (met (l.take i)).length:=by
   obtain⟨o,es,ep,tb,ho,bD⟩:=hS;exact⟨o,es,ep,tb,hm.heap S _ hSw ho,bD⟩
  show wpAny _ A.in1 (holding [v] (setAdd S v) >>= _) _ _ s';refine wpAny_bind (wpAny_holding ?_);unfold setAdd;refine wpAny_holding ?_;refine wpAny_bind (knd.pyHash (k:=key) his ?_);have hroom:(met (l.take i)).length+1<scanBound:=by have:=wE i (l.take i) (by rw[Du];omega);omega
  refine wpAny_setAddHashed_of (knd:=knd) (s:={s' with toks:=s'.toks+1}) his hsc hS' hroom fun h' hsb hS2=>?_;have ht:l.take (i+1)=l.take i++[key]:=by rw[List.take_add_one,hkey];rfl
  have hSi:h'.SetOf knd S (fun k'=>decide (k'∈met (l.take (i+1)))) (met (l.take (i+1))).length:=
   SetOf_congr hS2 (fun k'=>by rw[ht,pU,qz]) (by rw[ht,pU,j8])
  refine wpAny_pure ⟨plainId_quiet F.plain_set_update_loop _,ih (i+1) _ (by omega) hlt (W.frame _ s' _ _ hst' (Nat.le_succ _) fun b hb o e=>?_) hSi fun s'' hm'' hS''=>?_⟩
  ·rw[hsb.2 b (fun h:b=S=>hSf (by rw[<- h];exact hb))];exact e
  ·refine hR s'' (Moved.trans W.gtrans ((hm.mono hsub).then_heap (Nat.le_succ _) fun b o hb e=>?_) hm'') hS''
   rw[hsb.2 b (fun h:b=S=>hb (by rw[h];exact List.mem_cons_self))];exact e
end
noncomputable def b8(z:Str):List Str:=z.cps.toList.map fun c=>(⟨#[c]⟩:Str)
section
variable {prog:Program}{w:World}{A:Around}{E:Value->Shared->Prop}{s:Shared}
set_option maxHeartbeats 3200000 in
theorem lY{x:Str}{t:Tok}{Q:Value->Shared->Prop}(hh:A.handled=none)(hb:x.cps.size+1<scanBound)
  (h:∀(h':Heap) (tk:Nat),h'.SetOf (strKind prog w) s.heap.objs.size (fun k'=>decide (k'∈met (b8 x))) (met (b8 x)).length ->
   (∀b o,s.heap.get? b=some o->h'.get? b=some o)->Q (.ref s.heap.objs.size) {s with heap:=h',toks:=tk}) :
  wpAny (model prog w) A (call (.type "set") [.str x t]) Q E s:=by
 obtain⟨c,tl,hmro⟩:=PySem.F.called_set.mro;have hmade:=PySem.F.called_set.made;have hsub:=PySem.F.called_set.sub;refine wpAny_call (codeAny_of_tree ?_);show wpAny _ _ (callAny (.type "set") _) _ _ _;refine wpAny_pure ⟨Code.quiet_builtin _ (by decide +kernel),codeAny_builtin PySem.F.entry_type_call ?_⟩;rw[Around.under_plain (weight_type_call_type "set" [.str x t] []) rfl];have h1:=PySem.F.called_set.notType;have h2:=PySem.F.called_set.canCreate;have hct:=PySem.F.typeCall_set_1 (.str x t)
 repeat (any_goals (first | assumption | wp_step))
 refine codeAny_mono (code_set_new_1 (.str x t) (E:=E) (Q₁:=fun obj s₁=>∃led:Bool,obj=.ref s.heap.objs.size/\s₁={s with heap:=s.heap.push {cls:=.type "set",dict:=none,data:=.set #[] 0 (.fresh 0 0 led)} }) fun led=>⟨led,rfl,rfl⟩) fun r s₁ hr=>?_;cases r with
 |error e=>exact hr
 |ok fl=>
  cases fl with
  |ret obj=>
   obtain⟨led,rfl,rfl⟩:=hr;have hS:(s.heap.push {cls:=.type "set",dict:=none,data:=.set #[] 0 (.fresh 0 0 led)}).get? s.heap.objs.size=some {cls:=.type "set",dict:=none,data:=.set #[] 0 (.fresh 0 0 led)}:=CW _ rfl;have hT:Shared.TypeIs {s with heap:=s.heap.push {cls:=.type "set",dict:=none,data:=.set #[] 0 (.fresh 0 0 led)} } (.ref s.heap.objs.size) "set":=⟨_,hS,rfl⟩;have hli:=PySem.F.called_set.init.lookup;have hbi:=PySem.F.called_set.init.bind (.ref s.heap.objs.size)
   repeat (any_goals (first | assumption | wp_step))
   refine codeAny_mono (codeAny_call_builtin (R:=wants (fun r s₂=>r=.none/\∃h' tk,s₂={s with heap:=h',toks:=tk} /\
     h'.SetOf (strKind prog w) s.heap.objs.size (fun k'=>decide (k'∈met (b8 x))) (met (b8 x)).length /\
     (∀b o,s.heap.get? b=some o->h'.get? b=some o)) E) PySem.F.called_set.init.plain PySem.F.entry_set_init (check_set_init_1 hT ?_)) fun r₂ s₂ hr₂=>?_
   ·have hsls:=PySem.F.sub_str_set
    have hslf:=PySem.F.sub_str_frozenset;have hne:(Value.type "str" == Value.type "dict")=false:=by decide
    unfold Builtin.«set.__init__» noKeywords Builtin.Frozenset.updateFrom;generalize hPI:pyIter=PI
    wp_walk
    subst hPI;refine wpAny_pyIter_str fun o St W hst=>?_;refine wpAny_bind (wpAny_runValue ?_);have hSf:s.heap.objs.size∉[(s.heap.push {cls:=.type "set",dict:=none,data:=.set #[] 0 (.fresh 0 0 led)}).objs.size]:=by
     rw[Heap.size_push];simp only[CQ]
     exact Db (Dp _)
    refine xa (knd:=strKind prog w) ((W _ (by simp[hh])).toS) s.heap.objs.size hSf (b8 x) (by simp[b8])
     (fun i v ⟨c,u,hc,hv⟩=>⟨⟨#[c]⟩,by unfold b8;rw[CS,Array.getElem?_toList,hc];rfl,by rw[hv];exact strKind_is _ _ _ _,by rw[hv];rfl⟩) hb (x.cps.size-0) 0 _ (by omega) (Dh _) hst ?hS0 ?hR
    case hS0=>
     exact SetOf_congr ((setObjOf_fresh (knd:=strKind prog w) led).setOf (CO _ hS) (by unfold scanBound;omega)) (fun _=>rfl) rfl
    case hR=>
     intro s' hm hS';obtain⟨h',g',d',tk',os'⟩:=s';have eg:g'=s.gens:=hm.gens;have ed:d'=s.drawn:=hm.drawn;have eo:os'=s.os:=hm.os;subst eg;subst ed;subst eo
     show wpAny _ _ _ _ _ _;refine wpAny_pure ?_;show wpAny _ _ (ret Value.none) _ _ _;refine wpAny_pure ⟨rfl,h',tk',rfl,hS',fun b o' e=>?_⟩;have hb:=Dj e;refine hm.heap b o' ?_ (CO _ (CO _ e));simp only[C9,List.not_mem_nil,or_false,not_or,Heap.size_push];exact⟨Db hb,Db (Nat.lt_succ_of_lt hb)⟩
   ·cases r₂ with
    |error e=>exact hr₂
    |ok fl₂=>
     cases fl₂ with
     |ret r=>
      obtain⟨rfl,h',tk,rfl,hS',hk'⟩:=hr₂
      repeat (any_goals (first | assumption | wp_step))
      exact h _ _ hS' hk'
     |_=>exact hr₂.elim
  |_=>exact hr.elim
end
noncomputable def nS(t:TE):TE:=fun σ H Q=>t σ H fun x H1=>∃z,x=.str z/\z.cps.size+1<scanBound/\Q (.int (met (b8 z)).length) H1
section
variable {X:Cx}{e:Expr}{t:TE}{p p2 pos pos2:Pos}
theorem tX(hc:X.calm=true)(ha:PE X e t)(g1:Gl X "len")(m1:X.mg "len"=none)(g2:Gl X "set")(m2:X.mg "set"=none)
  (he1:starEach [.Call (.Name "set" p2) [e] [] pos2] X.env=[(false,eval (.Call (.Name "set" p2) [e] [] pos2) X.env)]:=by rfl)
  (he2:starEach [e] X.env=[(false,eval e X.env)]:=by rfl) :
  PE X (.Call (.Name "len" p) [.Call (.Name "set" p2) [e] [] pos2] [] pos) (nS t):=by
 intro pins s σ H Q I h;have hl:bootBuiltins "len"=some (.builtin "len"):=by decide +kernel
 have hs:bootBuiltins "set"=some (.type "set"):=by decide +kernel
 refine wpAny_Call_Name_kw (fC I g1 m1 hl ?_);refine PyProof.Rows.callWith_builtin1 ?_ he1 rfl;rw[he1];show wpAny _ _ (spliced [(false,eval (.Call (.Name "set" p2) [e] [] pos2) X.env)]) _ _ _;refine Calls.spliced_cons ?_;refine wpAny_Call_Name_kw (fC (I.tok _) g2 m2 hs ?_);refine PyProof.Rows.callWith_type1 ?_ he2 rfl;rw[he2];show wpAny _ _ (spliced [(false,eval e X.env)]) _ _ _;refine Calls.spliced_cons (bq (ha pins _ σ H _ (I.tok _) h) fun u s1 ⟨x,H1,I1,rx,z,ex,hz,q⟩=>Calls.spliced_nil ?_);subst ex;obtain⟨tk,rfl⟩:=rx;refine lY (I.ok.hd hc) hz fun h' tk' hS hk=>Calls.spliced_nil ?_;obtain⟨o,ho,hex,es,ep,tb,hd,_,_,hn,hf⟩:=hS.objOf;have hle:=wE z.cps.size (b8 z) (by simp[b8]);have hb:z.cps.size<4096:=by unfold scanBound at hz;omega
 refine call_len_set ho hex hd hf (by rw[hn];have:((4096:Nat):Int)<2^63:=(by decide);omega) ?_;rw[hn];exact⟨.int _,H1,(I1.kept (t':=_) hk),⟨_,rfl⟩,q⟩
end
noncomputable abbrev NT:=List (Str×Addr×List Nat)
noncomputable def qD(t:NT):List (bS×V):=t.map fun x=>(Sum.inr x.1,V.ref x.2.1)
noncomputable def qF(ns:List Nat):List V:=ns.map fun(n:Nat)=>V.int (n:Int)
structure b7(H:Hp)(p:Addr)(t:NT):Prop where
 dict:H p=some (.dK (qD t))
 list:∀x∈t,H x.2.1=some (.lst (qF x.2.2))
 apart:(t.map (·.2.1)).Nodup
theorem b7.grow{H H':Hp}{p:Addr}{t:NT}(N:b7 H p t)(k:∀a o,H a=some o->H' a=some o):b7 H' p t:=⟨k _ _ N.dict,fun x hx=>k _ _ (N.list x hx),N.apart⟩
theorem rP(z:Str):∀t:NT,bf (qD t) (.inr z)=(t.find? fun x=>decide (x.1=z)).map fun x=>V.ref x.2.1
 | []=>rfl
 |x::t=>by
  have ih:=rP z t;unfold qD at ih ⊢;rw[Dl,List.find?_cons]
  by_cases e:x.1=z
  ·rw[bU (by rw[e])];simp[e]
  ·rw[bT (fun h=>e (Sum.inr.inj h)),ih];simp[e]
theorem b7.new{H:Hp}{p l:Addr}{t:NT}{z:Str}(N:b7 H p t)(hl:H l=none)(hz:bf (qD t) (.inr z)=none) :
  b7 (ar (ar H l (.lst [])) p (.dK (bL (qD t) (.inr z) (.ref l)))) p (t++[(z,l,[])]):=by
 have hpl:p≠l:=fun e=>by have:=N.dict;rw[e,hl]at this;exact nomatch this
 have hx:∀x∈t,x.2.1≠l/\x.2.1≠p:=fun x hx=>by
  have q:=N.list x hx
  constructor
  ·intro e;rw[e,hl]at q;exact nomatch q
  ·intro e;rw[e,N.dict]at q;exact nomatch q
 refine⟨?_,fun x h=>?_,?_⟩
 ·rw[ac,kA _ hz];unfold qD;rw[C6];rfl
 ·rcases C7.mp h with h | h
  ·rw[ah (hx x h).2,ah (hx x h).1];exact N.list x h
  ·rw[CQ.mp h,ah (Ne.symm hpl),ac];rfl
 ·rw[C6]
  refine List.nodup_append.mpr ⟨N.apart,by simp,fun a ha b hb=>?_⟩;obtain⟨x,h1,rfl⟩:=Dy.mp ha;rw[List.map_singleton]at hb;rw[CQ.mp hb];exact(hx x h1).1
theorem b7.put{H:Hp}{p:Addr}{t:NT}{i k:Nat}{x:Str×Addr×List Nat}(N:b7 H p t)(hi:t[i]?=some x) :
  b7 (ar H x.2.1 (.lst (qF (x.2.2++[k])))) p (t.set i (x.1,x.2.1,x.2.2++[k])):=by
 have hm:x∈t:=CU hi;have hp:p≠x.2.1:=fun e=>by have:=N.list x hm;rw[<- e,N.dict]at this;exact nomatch this
 have hlt:i<t.length:=(CM.mp hi).1;have hk:qD (t.set i (x.1,x.2.1,x.2.2++[k]))=qD t:=by
  unfold qD;apply List.ext_getElem?;intro j;rw[CS,CS,List.getElem?_set]
  by_cases e:i=j
  ·subst e;rw[if_pos rfl,if_pos hlt,hi];rfl
  ·rw[if_neg e]
 have ha:(t.set i (x.1,x.2.1,x.2.2++[k])).map (·.2.1)=t.map (·.2.1):=by
  apply List.ext_getElem?;intro j;rw[CS,CS,List.getElem?_set]
  by_cases e:i=j
  ·subst e;rw[if_pos rfl,if_pos hlt,hi];rfl
  ·rw[if_neg e]
 refine⟨by rw[ah hp,hk];exact N.dict,fun y hy=>?_,by rw[ha];exact N.apart⟩;obtain⟨j,hj⟩:=List.mem_iff_getElem?.mp hy;rw[List.getElem?_set]at hj
 by_cases e:i=j
 ·rw[if_pos e,if_pos hlt]at hj
  cases hj;exact ac
 ·rw[if_neg e]at hj
  have hne:y.2.1≠x.2.1:=by
   intro q;have h1:(t.map (·.2.1))[i]?=some x.2.1:=by rw[CS,hi];rfl
   have h2:(t.map (·.2.1))[j]?=some x.2.1:=by rw[CS,hj];simp[q]
   exact e ((List.getElem?_inj (CM.mp h1).1 N.apart).mp (h1.trans h2.symm))
  rw[ah hne];exact N.list y (CU hj)
noncomputable def f'(t:NT):List (Str×List Nat):=t.map fun x=>(x.1,x.2.2)
noncomputable def bb(m:List (Str×List Nat))(z:Str):List (Str×List Nat):=if z∈m.map (·.1) then m else m++[(z,[])]
theorem wI{t:NT}{z:Str}{v:V}(h:bf (qD t) (.inr z)=some v):∃(i:Nat) (x:Str×Addr×List Nat),t[i]?=some x/\x.1=z/\v=.ref x.2.1:=by
 rw[rP]at h;cases hf:t.find? (fun x=>decide (x.1=z)) with
 |none=>rw[hf]at h;exact nomatch h
 |some x=>
  rw[hf]at h;have hv:V.ref x.2.1=v:=Option.some.inj h;obtain⟨i,hi⟩:=List.mem_iff_getElem?.mp (List.mem_of_find?_eq_some hf);have hz:=List.find?_some hf;exact⟨i,x,hi,of_decide_eq_true hz,hv.symm⟩
theorem sU(t:NT):(f' t).map (·.1)=t.map (·.1):=by unfold f';rw[C8];rfl
theorem yy{t:NT}{z:Str}(h:bf (qD t) (.inr z)=none):¬ z∈(f' t).map (·.1):=by
 intro m;rw[sU]at m;obtain⟨x,hx,e⟩:=Dy.mp m;refine pR h (Dy.mpr ⟨(.inr x.1,.ref x.2.1),Dy.mpr ⟨x,hx,rfl⟩,?_⟩);show(Sum.inr x.1:bS)=Sum.inr z;rw[e]
theorem b7.setdef{H:Hp}{p l:Addr}{t:NT}{z:Str}{Q:VK}(N:b7 H p t)(hl:H l=none)(hn:t.length<sizeLine)
  (h:∀(H':Hp) (t':NT) (i:Nat) (x:Str×Addr×List Nat),b7 H' p t'->t'[i]?=some x->x.1=z->f' t'=bb (f' t) z->(∀y∈t',y∈t\/y.2.1=l)->(∀a o,a≠p->H a=some o->H' a=some o)->Q (.ref x.2.1) H') :
  ∃kvs k,ar H l (.lst []) p=some (.dK kvs)/\V.str z=kV k/\kvs.length<sizeLine/\(∀v,bf kvs k=some v->Q v (ar H l (.lst []))) /\
   (bf kvs k=none->Q (.ref l) (ar (ar H l (.lst [])) p (.dK (bL kvs k (.ref l))))):=by
 have hpl:p≠l:=fun e=>by have:=N.dict;rw[e,hl]at this;exact nomatch this
 have gr:∀a o,H a=some o->ar H l (.lst []) a=some o:=fun a o e=>by
  rw[ah (fun q=>by rw[q,hl]at e;exact nomatch e)];exact e
 refine⟨qD t,.inr z,gr _ _ N.dict,rfl,by unfold qD;rw[CP];exact hn,fun v hv=>?_,fun hz=>?_⟩
 ·obtain⟨i,x,hi,hx,rfl⟩:=wI hv
  refine h _ t i x (N.grow gr) hi hx ?_ (fun y hy=>.inl hy) fun a o _ e=>gr a o e;have hm:z∈(f' t).map (·.1):=by rw[sU];exact Dy.mpr ⟨x,CU hi,hx⟩
  unfold bb;rw[if_pos hm]
 ·refine h _ (t++[(z,l,[])]) t.length (z,l,[]) (N.new hl hz) (by simp) rfl ?_ (fun y hy=>(C7.mp hy).imp id fun q=>by rw[CQ.mp q]) fun a o ha e=>by rw[ah ha];exact gr a o e
  unfold bb;rw[if_neg (yy hz)];unfold f';rw[C6];rfl
theorem xP{t:NT}{i:Nat}{x:Str×Addr×List Nat}(k:Nat):f' (t.set i (x.1,x.2.1,x.2.2++[k]))=(f' t).set i (x.1,x.2.2++[k]):=by
 unfold f';rw[List.map_set]
theorem jm{m:List (Str×List Nat)}{z:Str}(h:(m.map (·.1)).Nodup):((bb m z).map (·.1)).Nodup:=by
 unfold bb
 by_cases e:z∈m.map (·.1)
 ·rw[if_pos e];exact h
 ·rw[if_neg e,C6]
  refine List.nodup_append.mpr ⟨h,by simp,fun a ha b hb=>?_⟩;rw[List.map_singleton]at hb;rw[CQ.mp hb];exact fun q=>e ((show a=z from q)▸ha)
section
variable {X:Cx}{K:PySem.W.Frag}{tg:Expr}
end
end L2
namespace QL
open PySem PySem.Spec PyProof.Rows
theorem yt:bootBuiltins "max"=some (.builtin "max"):=by decide +kernel
end QL
namespace L2
open PySem PySem.Spec PyProof.Rows
section
variable {X:Cx}{CX:iz}{k:Nat}{C:Addr}{ps:List Str}{sp:Sp}{x:Str}{p pos:Pos}{e:Expr}{es:List Expr}{t:TA}
end
theorem n6.out{K:PySem.W.Frag}{C:Addr}{bm:List Value}{nid:String}(c:n6 K C bm nid):kc K C bm nid:=by
 refine⟨?_⟩;have q:=c.exc;unfold PySem.W.excIn at q;unfold PySem.W.excOut
 revert q
 cases K.lookup C with
 |none=>exact fun q=>q
 |some ob=>
  obtain⟨ty,dd,data,sl⟩:=ob;intro q
  split at q
  ·rename_i e
   cases e
   split at q
   ·rename_i hm hs
    simp only[hm,hs];simp only[Bool.and_eq_true]at q ⊢;obtain⟨⟨⟨⟨⟨a1,a2⟩,a3⟩,a4⟩,a5⟩,_⟩:=q;exact⟨⟨⟨⟨a1,a2⟩,a3⟩,a4⟩,a5⟩
   ·cases q
  ·cases q
section
variable {X:Cx}{e:Expr}{tx:TX}{i:Nat}{n x:Str}{D:Addr}{bmD:List Value}{nD:String}{b₀:Stmt}{suite:List Stmt}{epos pos hpos np:Pos}{ts:Addr->TS}
noncomputable def pd(K:PySem.W.Frag)(D:Addr)(tx:TX)(i:Nat)(ts:Addr->TS):TS:=fun De σ H=>
 tx σ H (fun _ H1=>De.nx σ H1) (fun cls od H'=>∃C bm nid,cls=.ref C/\kc K C bm nid/\sA K C D/\∀ea,H' ea=none ->
  ts ea {nx:=fun σ2 H2=>De.nx (σ2.set i none) H2,rt:=De.rt,bk:=fun σ2 H2=>De.bk (σ2.set i none) H2,ct:=fun σ2 H2=>De.ct (σ2.set i none) H2} (σ.set i (some (.ref ea))) (ar H' ea (xo ea (.ref C) od)))
theorem rf{cp:Value->Prop}(hN:X.N.Nodup)(hst:X.stack=X.env::X.outer)(hfr:X.env.frame=some X.env.locals)(he:PX (zB cp X.prog X.w) X e tx)(hi:X.N[i]?=some n)(hk:X.env.kindOf n=some .local)(hgl:Gl X x)(hm:X.mg x=some (.ref D))(cD:kc X.K D bmD nD)
  (hbase:bmD.contains (.type "BaseException")=true) (hs:∀ea,qB (X.held ea) (b₀::suite) (ts ea))
  (hd:(x==("__debug__":Str))=false:=by decide +kernel) (hsw:swapsWith e none epos.line X.env=pure false:=by rfl) :
  PS X (.Try [.Expr e epos] [.ExceptHandler (some (.Name x np)) (some n) (b₀::suite) hpos] [] [] pos) (pd X.K D tx i ts):=by
 intro pins s σ H De I h;refine wpAny_Try_except ?_;refine wpAny_execs_cons (wpAny_Expr_any ?_ I.quiet hsw);refine bq (he pins s σ H _ _ _ I h ?_) fun v s1 ⟨y,H1,I1,r1,q1⟩=>?_
 ·rintro H1 s1 ev s' I1 ⟨ea,cls,od,B,H',rfl,fly,hn,C,bm,nid,rfl,cC,un,hsu⟩
  have hfl:fW cp B (X.env::X.outer) ea (.ref C) od .none s'.heap:=by rw[<- hst];exact fly.fl
  refine x8 (by rw[I.ok.frames,hst]) hfr hfl fun h4 held4 up4=>?_;refine kt held4 fun h5 fl5 up5=>?_;have J5:=I1.caught fly.toFly0 (by rw[hst];exact fl5) (up4.trans up5) hn;refine wpAny_handleBy_cons (codeAny_handlers_test ?_) (by intro q;cases q);refine dX (J5.held ea) hgl hm ?_ hd;obtain⟨tl,N,nm,q,bs,hdct,sn,sub,ab,col,dd,k0,k1,k2,k3,k5,hC,T,dd1,cd1,sl1,hlk,hmro⟩:=cC.obj J5.kIn;obtain⟨tl',N',nm',q',bs',hdct',sn',sub',ab',col',dd',k0',k1',k2',k3',k5',hD,TD,_⟩:=cD.obj J5.kIn;obtain⟨dd2,cd2,sl2,hlk2,hsub⟩:=un;rw[hlk]at hlk2;cases hlk2;rw[hmro]at hsub;obtain⟨ob,_,hob,hobc,_⟩:=fl5.there;refine jV hC hD hob hobc (TD.hasType hbase) hsub (codeAny_handlers_suite_as ?_);refine kt fl5 fun h6 fl6 up6=>?_;have J6:=I1.caught fly.toFly0 (by rw[hst];exact fl6) ((up4.trans up5).trans up6) hn;refine je (v:=.ref ea) J6 hN hi (.inl hk) rfl (fun s7 J7=>?_) (.inr hk);refine wpAny_mono (hs ea pins s7 _ _ _ (J7.held ea) (hsu ea hn)) (fun fl s8 q8=>?_) fun _ _ f=>f.elim;cases fl with
  |next=>obtain⟨σ',H2,I8,q⟩:=q8;exact gO (v:=.non) (I8.unheld I.ok.hd) hN hi hk fun s9 I9=>⟨_,_,I9,q⟩
  |brk=>obtain⟨σ',H2,I8,q⟩:=q8;exact gO (v:=.non) (I8.unheld I.ok.hd) hN hi hk fun s9 I9=>⟨_,_,I9,q⟩
  |cont=>obtain⟨σ',H2,I8,q⟩:=q8;exact gO (v:=.non) (I8.unheld I.ok.hd) hN hi hk fun s9 I9=>⟨_,_,I9,q⟩
  |ret u=>obtain⟨v,σ',H2,I8,rv,q⟩:=q8;exact gO (v:=.non) (I8.unheld I.ok.hd) hN hi hk fun s9 I9=>⟨v,_,_,I9,rv,q⟩
 ·exact wpAny_execs_nil (wpAny_execs_nil ⟨σ,H1,I1,q1⟩)
end
section
variable {X:Cx}{CX:iz}{k:Nat}{C:Addr}{ps:List Str}{sp:Sp}{m:Str}{pos apos:Pos}{e o:Expr}{es:List Expr}{t:TA}{ta:TE}
theorem l_{K:PySem.W.Frag}(hK:X.K=K):aN X (compareOp .NotIn) (AJ K true):=hK▸oJ
end
section
variable {X:Cx}
end
end L2
namespace CtM
open PySem PySem.Builtin PySem.Builtin.Str QL SpM
end CtM
namespace L2
open PySem PySem.Spec PyProof.Rows QL
section
variable {K:PySem.W.Frag}{g:TG}{ti:TT}{te:TE}{σ:St}{H:Hp}{Q:List V->Hp->Prop}{α:Type}
theorem sX{as:List α}{f:α->Option V}{i:Nat}{x:α}(hx:as[i]?=some x):(as.take (i+1)).filterMap f=(as.take i).filterMap f++(f x).toList:=by
 rw[List.take_add_one,hx,List.filterMap_append];show _++List.filterMap f [x]=_;cases h:f x<;>simp[h]
theorem y0{as:List α}{f:α->Option V}(i:Nat):((as.take i).filterMap f).length<=as.length:=Dm (List.length_filterMap_le _ _) (by rw[Du];omega)
theorem ot{as:List α}(f:α->V):as.filterMap (fun x=>some (f x))=as.map f:=by induction as with | nil=>rfl | cons x xs ih=>simp
theorem kU{a:Addr}{as:List α}{emb:α->V}{f:α->Option V}(S:St->Prop)(h0:S σ)(hl:∀H',ax H H'->bp K H' a (as.map emb))(hn:as.length<=1000000)
  (hs:∀(i:Nat) x,as[i]?=some x->∀σ H' (N1:V->St->Hp->Prop) (N0:St->Hp->Prop),S σ->ax H H'->(∀v σ2 H2,f x=some v->ax H H2->S σ2->N1 v σ2 H2)->(∀σ2 H2,f x=none->ax H H2->S σ2->N0 σ2 H2) ->
   g (emb x) σ H' fun σ2 H3=>ti σ2 H3 fun b H4=>if b=true then te σ2 H4 fun v H5=>N1 v σ2 H5 else N0 σ2 H4)
  (he:∀H',ax H H'->Q (as.filterMap f) H'):jk (wT K a) g ti te σ H Q:=by
 refine jM (xs:=as.map emb) (fun i acc σ H'=>ax H H'/\acc=(as.take i).filterMap f/\i<=as.length/\S σ) ⟨fun _ _ e=>e,rfl,Dh _,h0⟩ ?_ ?_ ?_ ?_ ?_
 ·rintro i acc σ H' ⟨_,rfl,_⟩
  have:=y0 (as:=as) (f:=f) i;exact bh (by omega)
 ·rintro i acc σ H' ⟨_,_,h,_⟩
  rw[CP];exact h
 ·rintro i acc σ H' ⟨sm,_⟩
  exact hl _ sm
 ·rintro i x acc σ H' hx ⟨sm,rfl,hi,hS⟩
  have hlt:i<as.length:=by have:=(CM.mp hx).1;rwa [CP]at this
  rw[CS,mk hlt]at hx;cases hx;have hg:as[i]?=some as[i]:=mk hlt;refine hs i as[i] hg σ H' (fun v σ2 H5=>_) (fun σ2 H4=>_) hS sm (fun v σ2 H2 hf s2 hS2=>⟨s2,?_,hlt,hS2⟩) (fun σ2 H2 hf s2 hS2=>⟨s2,?_,hlt,hS2⟩)
  ·rw[sX hg,hf];rfl
  ·rw[sX hg,hf];simp
 ·rintro acc σ H' ⟨sm,rfl,_⟩
  have e:(as.take (as.map emb).length).filterMap f=as.filterMap f:=by rw[CP,Ds]
  rw[e];exact he _ sm
theorem j9{n:Nat}{f:Nat->Option V}(S:St->Prop)(h0:S σ)(hn:n<=1000000)
  (hs:∀i,i<n->∀σ H' (N1:V->St->Hp->Prop) (N0:St->Hp->Prop),S σ->ax H H'->(∀v σ2 H2,f i=some v->ax H H2->S σ2->N1 v σ2 H2)->(∀σ2 H2,f i=none->ax H H2->S σ2->N0 σ2 H2) ->
   g (.int (0+(i:Int))) σ H' fun σ2 H3=>ti σ2 H3 fun b H4=>if b=true then te σ2 H4 fun v H5=>N1 v σ2 H5 else N0 σ2 H4)
  (he:∀H',ax H H'->Q ((List.range n).filterMap f) H'):jk (vf 0 n) g ti te σ H Q:=by
 refine fu (lo:=0) (n:=n) (fun i acc σ H'=>ax H H'/\acc=(List.range i).filterMap f/\i<=n/\S σ) ⟨fun _ _ e=>e,rfl,Dh _,h0⟩ ?_ ?_ ?_ ?_
 ·rintro i acc σ H' ⟨_,rfl,hi,_⟩
  have:=List.length_filterMap_le f (List.range i);rw[List.length_range]at this;exact bh (by omega)
 ·rintro i acc σ H' ⟨_,_,h,_⟩
  exact h
 ·rintro i acc σ H' hi ⟨sm,rfl,_,hS⟩
  refine hs i hi σ H' (fun v σ2 H5=>_) (fun σ2 H4=>_) hS sm (fun v σ2 H2 hf s2 hS2=>⟨s2,?_,hi,hS2⟩) (fun σ2 H2 hf s2 hS2=>⟨s2,?_,hi,hS2⟩)
  ·rw[List.range_succ,List.filterMap_append];simp[hf]
  ·rw[List.range_succ,List.filterMap_append];simp[hf]
 ·rintro acc σ H' ⟨sm,rfl,_⟩
  exact he _ sm
end
section
variable {X:Cx}
end
end L2
namespace ThM
open PySem L2
noncomputable def cZ(ks:List Str)(z:Str):List Str:=if z∈ks then ks else ks++[z]
theorem mem_addNew{ks:List Str}{z y:Str}:y∈cZ ks z↔y∈ks\/y=z:=by
 unfold cZ
 split
 ·rename_i h
  exact⟨.inl,fun q=>q.elim id fun e=>e▸h⟩
 ·rw[C7,CQ]
section
variable {α:Type}(f:List α->List α)
noncomputable def zT:Nat->List α->List α
 |0,s=>s
 |n+1,s=>f (zT n s)
variable {f}
end
noncomputable abbrev NR:=Str×List Str
noncomputable def xv(ks:List Str)(r:NR):List Str:=if(∀z∈r.2,z∈ks) then cZ ks r.1 else ks
noncomputable def vg(rs:List NR)(ks:List Str):List Str:=rs.foldl xv ks
theorem nd_len{ks ms:List Str}(hn:ks.Nodup)(h:∀z∈ks,z∈ms):ks.length<=ms.length:=by
 induction ks generalizing ms with
 |nil=>exact Dh _
 |cons k ks ih=>
  rw[List.nodup_cons]at hn;have hk:=h k List.mem_cons_self;have h1:=ih (ms:=ms.erase k) hn.2 fun z hz=>by
   have hne:z≠k:=fun e=>hn.1 (e▸hz);exact(List.mem_erase_of_ne hne).mpr (h z (C_ _ hz))
  have h2:=List.length_erase_of_mem hk;have h3:=List.length_pos_of_mem hk;rw[C5];omega
noncomputable def yW(rs:List NR):List Str:=zT (vg rs) rs.length []
end ThM
namespace L2
open PySem PySem.Spec PyProof.Rows QL
section
variable {X:Cx}
end
end L2
namespace ThM
open PySem L2
section
variable {α:Type}{f:List α->List α}(μ:List α->Nat)
end
theorem jx{y:Str}:∀(zs ks:List Str),y∈zs.foldl cZ ks↔y∈ks\/y∈zs
 | [],ks=>by simp
 |z::zs,ks=>by
  rw[List.foldl_cons,jx zs,mem_addNew,C9];exact⟨fun h=>h.elim (fun h=>h.elim .inl fun e=>.inr (.inl e)) fun h=>.inr (.inr h),fun h=>h.elim (fun h=>.inl (.inl h)) fun h=>h.elim (fun e=>.inl (.inr e)) .inr⟩
noncomputable def wK(ks:List Str)(r:NR):List Str:=if r.1∈ks then r.2.foldl cZ ks else ks
noncomputable def uR(rs:List NR)(ks:List Str):List Str:=rs.foldl wK ks
noncomputable def zA(ks:List Str)(r:NR):Prop:=r.1∈ks/\∀z∈r.2,z∈ks
instance (ks:List Str)(r:NR):Decidable (zA ks r):=by unfold zA;infer_instance
noncomputable def yU(st:Str)(rs:List NR):List Str:=zT (uR rs) rs.length [st]
noncomputable def x6(rs:List NR)(r:NR):Bool:=decide (∀z∈r.2,z∈yW rs)
noncomputable def Ad(rs:List NR):List NR:=rs.filter (x6 rs)
noncomputable def Ar(st:Str)(rs:List NR):List Str:=yU st (Ad rs)
noncomputable def keep(st:Str)(rs:List NR)(r:NR):Bool:=decide (r.1∈Ar st rs)&&x6 rs r
end ThM
namespace L2
open PySem PySem.Spec PyProof.Rows
section
variable {X:Cx}{body:List Stmt}{h₀:ExceptHandler}{hs:List ExceptHandler}{tb:TS}{pos:Pos}
noncomputable def vE(xs ys:List V):Bool:=(List.range (min xs.length ys.length)).all (fun j=>match xs[j]?,ys[j]? with | some x,some y=>vL x y | _,_=>true)&&xs.length==ys.length
noncomputable def yh(K:PySem.W.Frag):R2:=fun x y H Q=>∃a b xs ys,x=.ref a/\y=.ref b/\bv K H a xs/\bv K H b ys/\xs.all fO=true/\ys.all fO=true/\Q (.bl (vE xs ys)) H
theorem vQ(hu:X.A.units+64<cLine):aN X (compareOp .Eq) (yh X.K):=by
 intro pins s σ H x y v u Q I rx ry h;obtain⟨a,b,xs,ys,rfl,rfl,ha,hb,fx,fy,q⟩:=h;cases rx;cases ry
 obtain⟨its,ra,pa,_⟩:=I.tuple ha;obtain⟨its2,rb,pb,_⟩:=I.tuple hb;have l1:=ra.length;have l2:=rb.length
 have q':=SeqAt.RcAt.tuples (A:=X.A) (s:=s) (e:=fun j=>match xs[j]?,ys[j]? with | some x,some y=>vL x y | _,_=>true) (show s.heap.IsTuple a its.toArray from pa) (show s.heap.IsTuple b its2.toArray from pb) (by omega) (fun j g1 g2=>by
  have g1':j<its.length:=by simpa using g1
  have g2':j<its2.length:=by simpa using g2
  have x1:xs[j]?=some xs[j]:=mk (by omega);have y1:ys[j]?=some ys[j]:=mk (by omega);obtain⟨w1,f1,rr1⟩:=ra.get x1;obtain⟨w2,f2,rr2⟩:=rb.get y1;rw[mk g1']at f1;rw[mk g2']at f2;cases f1;cases f2
  simp only[List.getElem_toArray,x1,y1];exact vk rr1 rr2 (Dz.mp fx _ (CU x1)) (Dz.mp fy _ (CU y1)))
 refine q' _ _ _ _ ⟨.bl _,H,I,rfl,?_⟩;rw[CY,CY,<- l1,<- l2];exact q
end
section
variable {X:Cx}{es:List Expr}{t:TA}{te:TE}
structure WA(X:Cx)(es:List Expr)(t:TA):Prop where
 out:PA X es t
structure WE(X:Cx)(e:Expr)(t:TE):Prop where
 out:PE X e t
structure WB(X:Cx)(b:List Stmt)(t:TS):Prop where
 out:qB X b t
structure WS(X:Cx)(s:Stmt)(t:TS):Prop where
 out:PS X s t
end
end L2
namespace L2
open PySem PySem.Spec PyProof.Rows QL
section
variable {X:Cx}
end
end L2
namespace PySem
open PySem.Calls PyProof.Rows
section
variable {prog:Program}{w:World}{A:Around}{E:Value->Shared->Prop}{env:Env}
variable {nm q:Str}{C N:Addr}{bs bm:List Value}{hdct:Bool}{sn:List Str}{sub:List Value}{ab:Bool}{col:Option Bool}{dd:Option Addr}{k0 k1 k2 k3 k5:Option Value}{newId:String}
variable {bmB bmN:List Value}{B Bn nid initId inN:String}{K:PySem.W.Frag}
end
section
variable {cp:Value->Prop}{M:Model}{A:Around}{E:Value->Shared->Prop}{s:Shared}{base:Heap}{env:Env}{outer:List Env}{L e:Addr}{Q:Unit->Shared->Prop}
end
end PySem
namespace L2
open PySem PySem.Spec PyProof.Rows
section
variable {P:Program}{w:World}{K:PySem.W.Frag}{mg:Str->Option Value}{base:Heap}{N:List Str}{qual:Str}{scope:Scope}{f:Addr}{cd:Value}{A:Around}{outer:List Env}{s:Shared}{H:Hp}{E E1:XK}{CX:iz}
end
section
variable {X:Cx}{e e₀:Expr}{bD:List Expr}{tx:TX}{t:TA}{x y:Str}{C D:Addr}{bmD:List Value}{nD:String}{rpos pos pos2 hpos np np2 cpos npos:Pos}{kd:Nat}{E:XK}
end
end L2
namespace PySem
open PySem.Calls PyProof.Rows
section
variable {prog:Program}{w:World}{A:Around}{E:Value->Shared->Prop}{env:Env}
variable {nm q:Str}{C N:Addr}{bs bm bmB bmN:List Value}{hdct:Bool}{sn:List Str}{sub:List Value}{ab:Bool}{col:Option Bool}{dd:Option Addr}{k0 k1 k2 k3 k5:Option Value}{newId B Bn nid initId inN:String}{K:PySem.W.Frag}
end
end PySem
namespace L2
open PySem PySem.Spec PyProof.Rows
section
variable {P:Program}{w:World}{K:PySem.W.Frag}{mg:Str->Option Value}{base:Heap}{N:List Str}{qual:Str}{scope:Scope}{f:Addr}{cd:Value}{A:Around}{outer:List Env}{s:Shared}{H:Hp}{E E1:XK}
end
structure zj(k:Nat)(A:Around):Prop where
 dp:A.depth+3*k+5<recursionLimit
 un:A.units+16*k+200<cLine
structure zu(P:Program)(w:World)(K:PySem.W.Frag)(mg:Str->Option Value)(base:Heap)(CX:iz)(k:Nat)(f:Addr)(fd:FuncData)(ps:List Str)(sp:Sp):Prop where
 len:∀vs H Q E,sp vs H Q E->vs.length=ps.length
 run:∀(A:Around) (outer:List Env) (s:Shared) (H:Hp) (args:Args) (us:List Value) (vs:List V) (Q:VK) (E:XK),zj k A->ql P w K mg base A outer s H->BindsTo s fd args (ps.zip us)->aH vs us->sp vs H Q E ->
  codeAny (model P w) A (.call (.ref f) args) (CR CX outer P w H s Q E) s
structure CK(P:Program)(w:World)(K:PySem.W.Frag)(mg:Str->Option Value)(base:Heap)(k:Nat)(C:Addr)(fn:Str):Prop where
 ex:∃(bm bmN:List Value) (newId Bn inN B nid initId:String) (fI:Addr) (fd:FuncData) (ps:List Str),kc K C bm newId/\ExcBaseFacts Bn newId inN bmN/\bm.contains (.type Bn)=true/\ExcBaseFacts B nid initId bm /\
  PySem.W.findIn K (.ref C) "__init__"=some (some (.ref fI))/\PySem.W.typeIn K (.ref fI)=some (.type "function")/\zu P w K mg base bY k fI fd ps (kj C fn)/\cL K fd ps []
section
variable {X:Cx}{e e₀:Expr}{tx:TX}{t:TA}{x y:Str}{C D:Addr}{fn:Str}{k:Nat}{bmD:List Value}{nD:String}{rpos pos pos2 hpos np np2 cpos npos:Pos}{kd:Nat}{E:XK}
end
end L2
namespace PySem
section
variable {cp:Value->Prop}{M:Model}{A:Around}{E:Value->Shared->Prop}{s:Shared}{base:Heap}{env:Env}{outer:List Env}{L e:Addr}{Q:Unit->Shared->Prop}
end
end PySem
namespace L2
open PySem PySem.Spec PyProof.Rows
section
variable {P:Program}{w:World}{K:PySem.W.Frag}{mg:Str->Option Value}{base:Heap}{N:List Str}{qual:Str}{scope:Scope}{f:Addr}{cd:Value}{A:Around}{outer:List Env}{s:Shared}{H:Hp}{E E1:XK}
end
section
variable {X:Cx}
end
section
variable {P:Program}{w:World}{K:PySem.W.Frag}{mg:Str->Option Value}{base:Heap}{N:List Str}{qual:Str}{scope:Scope}{f:Addr}{cd:Value}{A:Around}{outer:List Env}{s:Shared}{H:Hp}{E E1:XK}
end
open QL
section
variable {X:Cx}
end
section
variable {prog:Program}{w:World}{A:Around}{E:Value->Shared->Prop}{s:Shared}
end
section
variable {X:Cx}{e:Expr}{t:TE}{p p2 pos pos2:Pos}
end
end L2
namespace L2
open PySem PySem.Spec PyProof.Rows QL
section
variable {X:Cx}
end
section
variable {K:PySem.W.Frag}{g:TG}{tb:TS}{D:iN}{σ:St}{H:Hp}
end
section
variable {np:Nat->Nat}{num:Str->Option Nat}
end
theorem pZ:∀{ns:List Int} {us:List Value},aH (ns.map V.int) us->∃ps:List (Int×Tok),us.toArray=intItems ps.toArray/\ps.map (·.1)=ns
 | [],us,r=>⟨[],by have:=r.zero;subst this;simp[intItems],rfl⟩
 |n::ns,us,r=>by
  cases r with
  |cons h t=>
   obtain⟨tk,rfl⟩:=h;obtain⟨ps,e1,e2⟩:=pZ t;refine⟨(n,tk)::ps,?_,by rw[Dl,e2]⟩;have:=congrArg Array.toList e1;unfold intItems at this ⊢;simp at this ⊢;exact this
section
variable {X:Cx}
theorem ud(hc:X.calm=true):eY X (.builtin "sum") (fun xs H Q=>∃(p:Addr) (ns:List Int),xs=[.ref p]/\bp X.K H p (ns.map V.int)/\Q (.int ns.sum) H):=by
 intro pins s σ H xs us Q I r h;obtain⟨p,ns,rfl,hs,q⟩:=h;obtain⟨u,rfl,ru⟩:=r.one;cases ru;obtain⟨its,rv,pl,_⟩:=I.list hs;obtain⟨ps,e1,e2⟩:=pZ rv;refine sum_intListG (xs:=ps.toArray) (I.ok.hd hc) (by rw[<- e1];exact pl.isList) fun h' tk t' hk=>?_;have e3:preSum (numAt ps.toArray) ps.toArray.size=ns.sum:=by
  rw[preSum_eq,List.take_of_length_le (by simp),<- e2]
 rw[e3];exact⟨.int _,H,I.kept (t':=tk) hk,⟨_,rfl⟩,q⟩
theorem yF:bootBuiltins "sum"=some (.builtin "sum"):=by decide +kernel
end
section
variable {prog:Program}{w:World}{A:Around}{R:Result->Shared->Prop}{I:Addr}{fp wr:List Addr}{n:Nat}{P:Nat->Value->Prop}{St:Nat->Heap->Prop}
end
section
variable {prog:Program}{w:World}{A:Around}{E:Value->Shared->Prop}{s:Shared}
end
section
variable {X:Cx}{e:Expr}{t tk:TA}{p pos kpos:Pos}{de:Expr}
end
end L2
namespace L2
open PySem PySem.Spec PyProof.Rows QL fY
section
variable {X:Cx}
variable {e st:Expr}{te ts:TE}{p2 pos:Pos}
end
section
variable {prog:Program}{w:World}{A:Around}{E:Value->Shared->Prop}{s:Shared}
end
section
variable {X:Cx}{elts:List Expr}{x1:Nat}{tp:Pos}
end
section
variable {K:PySem.W.Frag}{g:TG}{tb:TS}{D:iN}{σ:St}{H:Hp}
end
section
variable {prog:Program}{w:World}{A:Around}{E:Value->Shared->Prop}{s:Shared}
end
section
variable {prog:Program}{w:World}{A:Around}{E:Value->Shared->Prop}{s:Shared}
end
section
variable {X:Cx}{e:Expr}{t:TE}{p p2 pos pos2:Pos}
end
section
variable {prog:Program}{w:World}{A:Around}{E:Value->Shared->Prop}
end
section
variable {prog:Program}{w:World}{A:Around}{E:Value->Shared->Prop}{s:Shared}
end
section
variable {X:Cx}{tg:Expr}
end
section
variable {prog:Program}{w:World}{A:Around}{E:Value->Shared->Prop}{s:Shared}
open HT in
theorem hZ{t sl:Addr}{items:Array Value}{vl vu:Value}{lo hi:Option Int}{Q:Value->Shared->Prop}(ht:IsTup s.heap t items)(hs:s.heap.IsSliceOf sl vl vu .none)(pl:IsPart vl lo)(pu:IsPart vu hi)
  (hw:sIx items.size 0 lo=0/\sIx items.size items.size hi=items.size) (h:Q (.ref t) s):wpAny (model prog w) A (getItem (.ref t) (.ref sl)) Q E s:=by
 obtain⟨os,hos,hcs,hds⟩:=id hs;have hTs:s.TypeIs (.ref sl) "slice":=⟨os,hos,hcs⟩;unfold getItem
 try with_reducible refine wpAny_holding ?_
 first | refine wpAny_bind (wpAny_pure ?_) | skip
 refine wpAny_bind (wpAny_sequenceKey ht.typeIs (by decide) ?_);refine wpAny_bind (wpAny_callSpecial?_slot (name:=Str.ofString "__getitem__") ht.typeIs PyProof.Rows.slot_tuple_getitem
  (wpAny_call_entry PyProof.Rows.slot_tuple_getitem ht.typeIs entry_tuple_getitem ?_ (args_tuple_getitem _ _)))
 show wpAny _ _ (Builtin.Tuple.tupleItemsOf (.ref t) >>= _) _ _ s;refine wpAny_bind (tupleItemsOf_ ht ?_);refine wpAny_bind (wpAny_typeOf hTs ?_);rw[if_pos (by decide)];refine wpAny_bind (eU hs pl pu ?_);have hyes:(((sIx items.size 0 lo:Nat):Int)==0&&(1:Int)==1&&(sIx items.size items.size hi-sIx items.size 0 lo)==items.size)=true:=by
  rw[hw.1,hw.2];simp
 show wpAny _ _ (if(((sIx items.size 0 lo:Nat):Int)==0&&(1:Int)==1&&(sIx items.size items.size hi-sIx items.size 0 lo)==items.size)=true then _ else _) _ _ s;rw[if_pos hyes];refine wpAny_bind ?_;unfold Builtin.Tuple.tupleIsExact;refine wpAny_bind (wpAny_typeOf ht.typeIs ?_);refine wpAny_pure ?_;rw[if_pos (by decide)];refine wpAny_bind (wpAny_rule ?_);exact wpAny_pure ⟨_,rfl,wpAny_pure h⟩
end
noncomputable def yj(K:PySem.W.Frag):V->Option Int->Option Int->Hp->VK->Prop:=fun x lo hi H Q=>∃a xs,x=.ref a/\bv K H a xs/\∀p H',bv K H' p (qt xs lo hi)->ax H H'->Q (.ref p) H'
section
variable {X:Cx}
theorem xp:zQ X (yj X.K):=by
 intro pins s σ H x v vl vu lo hi sl Q I rx hs pl pu h;obtain⟨a,xs,rfl,ha,q⟩:=h;cases rx;obtain⟨its,r,ht,hz⟩:=I.tuple ha;have hlen:its.toArray.size=xs.length:=by rw[CY];exact r.length.symm
 refine⟨"tuple",_,PyProof.Rows.slot_tuple_getitem.lookup,ht.typeIs,?_⟩
 by_cases hw:HT.sIx xs.length 0 lo=0/\HT.sIx xs.length xs.length hi=xs.length
 ·refine hZ ht hs pl pu (by rw[hlen];exact hw) ?_
  refine⟨.ref a,H,I,rfl,q a H ?_ (ax.refl _)⟩;have e:qt xs lo hi=xs:=by unfold qt;rw[hw.1,hw.2,DG,Nat.sub_zero,Ds]
  rw[e];exact ha
 ·refine HT.getItem_tuple_cut ht hs pl pu (by rw[hlen];exact hw) ?_ (by rw[hlen];exact hz)
  rw[hlen];refine⟨.ref s.heap.objs.size,_,I.laid (t':=s.toks) (o:=.tup (qt xs lo hi)) (fun b ob q=>CO _ q) (Dg _) ?_,rfl,q _ _ (bv.of ac) (af (I.hok.fresh (Dg _)))⟩;exact⟨Dm (j2 xs lo hi) hz,_,(r.drop (HT.sIx xs.length 0 lo)).take (HT.sIx xs.length xs.length hi-HT.sIx xs.length 0 lo),IsTup.new _ _⟩
end
section
variable {X:Cx}
end
section
variable {X:Cx}
end
theorem Ac{a:Addr}{P:Addr->Prop}:(∃p,V.ref a=V.ref p/\P p)=P a:=by simp
theorem Al{a:Int}{P:Int->Prop}:(∃p,V.int a=V.int p/\P p)=P a:=by simp
theorem Ap{a:Bool}{P:Bool->Prop}:(∃p,V.bl a=V.bl p/\P p)=P a:=by simp
theorem zW{a:Str}{P:Str->Prop}:(∃p,V.str a=V.str p/\P p)=P a:=by simp
theorem Ag{α:Type}{a:Addr}{P:Addr->α->Prop}:(∃p,∃x,V.ref a=V.ref p/\P p x) = ∃x,P a x:=by simp
theorem An{α:Type}{a:Addr}{P:Addr->α->Prop}:(∃p,∃x,[V.ref a]=[V.ref p]/\P p x) = ∃x,P a x:=by simp
theorem Aq{α:Type}{a:Addr}{v:V}{P:Addr->α->V->Prop}:(∃p,∃x,∃y,V.ref a=V.ref p/\[v]=[y]/\P p x y) = ∃x,P a x v:=by simp
theorem zV{α β:Type}{a b:Addr}{P:Addr->Addr->α->β->Prop}:(∃p,∃q,∃x,∃y,V.ref a=V.ref p/\V.ref b=V.ref q/\P p q x y) = ∃x,∃y,P a b x y:=by simp
noncomputable def zN(i:Nat):TE:=fun σ H Q=>match σ[i]? with
 |some (some v)=>Q v H
 |_=>False
noncomputable def xm(g:Int->Int->V):R2
 | .int i,.int j,H,Q=>Q (g i j) H
 |x,y,H,Q=>u3 g x y H Q
noncomputable def zS(C:Int->Int->Prop)(g:Int->Int->V):R2
 | .int i,.int j,H,Q=>C i j/\Q (g i j) H
 |x,y,H,Q=>rI C g x y H Q
noncomputable def sH(K:PySem.W.Frag):R2
 | .ref p,.int i,H,Q=>∃xs,bp K H p xs/\∃v,ki xs i=some v/\Q v H
 |x,y,H,Q=>wn K x y H Q
noncomputable def tf(K:PySem.W.Frag):R2
 | .ref p,.int i,H,Q=>∃xs,bv K H p xs/\∃v,ki xs i=some v/\Q v H
 |x,y,H,Q=>vN K x y H Q
theorem vH{g:Int->Int->V}{x y:V}{H:Hp}{Q:VK}:xm g x y H Q=u3 g x y H Q:=by
 unfold xm;split
 ·simp[u3]
 ·rfl
theorem xV{C:Int->Int->Prop}{g:Int->Int->V}{x y:V}{H:Hp}{Q:VK}:zS C g x y H Q=rI C g x y H Q:=by
 unfold zS;split
 ·simp[rI]
 ·rfl
theorem tj{K:PySem.W.Frag}{x y:V}{H:Hp}{Q:VK}:sH K x y H Q=wn K x y H Q:=by
 unfold sH;split
 ·simp[wn]
 ·rfl
theorem sW{K:PySem.W.Frag}{x y:V}{H:Hp}{Q:VK}:tf K x y H Q=vN K x y H Q:=by
 unfold tf;split
 ·simp[vN]
 ·rfl
theorem xO{g:Int->Int->V}{i j:Int}{H:Hp}{Q:VK}:xm g (.int i) (.int j) H Q=Q (g i j) H:=rfl
theorem yX{C:Int->Int->Prop}{g:Int->Int->V}{i j:Int}{H:Hp}{Q:VK}:zS C g (.int i) (.int j) H Q=(C i j/\Q (g i j) H):=rfl
theorem wH{K:PySem.W.Frag}{p:Addr}{i:Int}{H:Hp}{Q:VK}:sH K (.ref p) (.int i) H Q = ∃xs,bp K H p xs/\∃v,ki xs i=some v/\Q v H:=rfl
theorem wQ{K:PySem.W.Frag}{p:Addr}{i:Int}{H:Hp}{Q:VK}:tf K (.ref p) (.int i) H Q = ∃xs,bv K H p xs/\∃v,ki xs i=some v/\Q v H:=rfl
theorem Ct{α β:Type}{f:α->β}{a:α}{l:List α}:List.map f (a::l)=f a::List.map f l:=rfl
theorem Bh{α β:Type}{f:α->β}:List.map f []=[]:=rfl
theorem Bb{α:Type}{a:α}{l m:List α}:(a::l)++m=a::(l++m):=rfl
theorem Ca{α:Type}{m:List α}:[]++m=m:=rfl
theorem BG{α:Type}{a:α}{l:List α}:(a::l)[0]?=some a:=rfl
theorem BR{α:Type}{a:α}{l:List α}{n:Nat}:(a::l)[n+1]?=l[n]?:=rfl
theorem Cg{α:Type}{a b:α}{l:List α}:(a::l).set 0 b=b::l:=rfl
theorem Cv{α:Type}{a b:α}{l:List α}{n:Nat}:(a::l).set (n+1) b=a::l.set n b:=rfl
section
variable {X:Cx}
theorem ak(i:Nat){x:Str}{pos:Pos}(hN:X.N[i]?=some x:=by rfl)(hv:zR X.env.scope x:=by first | exact Or.inl rfl | exact Or.inr (Or.inl rfl) | exact Or.inr (Or.inr rfl))(hd:(x==("__debug__":Str))=false:=by decide)
  (hc:(x==("__classdict__":Str))=false:=by decide):PE X (.Name x pos) (zN i):=fun pins s σ H Q I h=>pv i hN hv hd hc pins s σ H Q I (by
 unfold zN at h
 split at h
 ·exact⟨_,‹_›,h⟩
 ·exact h.elim)
theorem aN.m0{f:Value->Value->Sem Value}{g:Int->Int->V}(h:aN X f (u3 g)):aN X f (xm g):=fun pins s σ H x y v u Q I a b c=>h pins s σ H x y v u Q I a b (vH▸c)
theorem aN.m1{f:Value->Value->Sem Value}{C:Int->Int->Prop}{g:Int->Int->V}(h:aN X f (rI C g)):aN X f (zS C g):=fun pins s σ H x y v u Q I a b c=>h pins s σ H x y v u Q I a b (xV▸c)
theorem cP:y_ X (sH X.K):=fun e sl pins s σ H x y v u Q I a b c d=>sF e sl pins s σ H x y v u Q I a b (tj▸c) d
theorem aq:y_ X (tf X.K):=fun e sl pins s σ H x y v u Q I a b c d=>yN e sl pins s σ H x y v u Q I a b (sW▸c) d
end
section
variable {prog:Program}{w:World}{A:Around}{E:Value->Shared->Prop}{s:Shared}
theorem l9{l:Addr}{a b:Int}{t u:Tok}{Q:Value->Shared->Prop}(hh:A.handled=none)(hl:s.heap.IsTuple l (intItems #[(a,t),(b,u)]))
  (h:∀h' tk,(∀c o,s.heap.get? c=some o->h'.get? c=some o)->Q (if b>a then .int b u else .int a t) {s with heap:=h',toks:=tk}) :
  wpAny (model prog w) A (call (.builtin "max") [.ref l]) Q E s:=by
 have hlt:l<s.heap.objs.size:=by obtain⟨_,e,_⟩:=hl;exact Dj e
 refine call_max_walk (wpAny_pyIter_tuple hl ?_);refine⟨_,[_,l],[_],_,_,_,_,rfl,Walks.tuple (A:=A.in1) hh _ l (Db hlt) (intItems #[(a,t),(b,u)]),
  ⟨⟨_,CW _ rfl,rfl,rfl⟩,hl.push _⟩,fun c hc=>?_,by simp[intItems],CmpOf.ints_gt (numAt #[(a,t),(b,u)]) (fun _ _=>intItems_at),fun v h' tk hP hk=>?_⟩
 ·show c<(s.heap.push _).objs.size
  rw[Heap.size_push];rcases C9.mp hc with rfl | hc
  ·exact Dp _
  ·rcases C9.mp hc with rfl | hc
   ·exact Nat.lt_succ_of_lt hlt
   ·cases hc
 ·have hold:∀c o,s.heap.get? c=some o->h'.get? c=some o:=fun c o e=>by
   refine hk c o (fun hm=>?_) (CO _ e);rcases C9.mp hm with e1 | hm
   ·have:=Dj e;rw[e1]at this;exact Do _ this
   ·cases hm
  have:=h h' tk hold;have hv:v=if b>a then Value.int b u else Value.int a t:=by
   have hP':(intItems #[(a,t),(b,u)])[argBest (fun i j=>decide (numAt #[(a,t),(b,u)] i>numAt #[(a,t),(b,u)] j)) 1]?=some v:=by
    have hsz2:(intItems #[(a,t),(b,u)]).size-1=1:=by simp[intItems]
    rw[<- hsz2];exact hP
   by_cases hba:b>a
   ·have e:argBest (fun i j=>decide (numAt #[(a,t),(b,u)] i>numAt #[(a,t),(b,u)] j)) 1=1:=by simp[argBest,numAt,hba]
    rw[e]at hP'
    simpa[intItems,hba]using hP'.symm
   ·have e:argBest (fun i j=>decide (numAt #[(a,t),(b,u)] i>numAt #[(a,t),(b,u)] j)) 1=0:=by simp[argBest,numAt,hba]
    rw[e]at hP'
    simpa[intItems,hba]using hP'.symm
  rw[hv];exact this
end
noncomputable def wg(K:PySem.W.Frag):List V->Hp->VK->Prop:=fun xs H Q=>∃p i j,xs=[.ref p]/\bv K H p [.int i,.int j]/\Q (.int (if j>i then j else i)) H
section
variable {X:Cx}
theorem uT(hc:X.calm=true):eY X (.builtin "max") (wg X.K):=by
 intro pins s σ H xs us Q I r h;obtain⟨p,i,j,rfl,hs,q⟩:=h;obtain⟨u,rfl,ru⟩:=r.one;cases ru;obtain⟨its,rv,⟨o,e,hcl,n,hd⟩,_⟩:=I.tuple hs;obtain⟨v,v',rfl,⟨t,rfl⟩,⟨t',rfl⟩⟩:=zz rv;refine l9 (l:=p) (a:=i) (b:=j) (t:=t) (u:=t') (I.ok.hd hc) ⟨o,e,hcl,n,by rw[hd];simp[intItems]⟩ fun h' tk k=>⟨_,H,I.kept k,?_,q⟩
 by_cases hj:j>i
 ·rw[if_pos hj,if_pos hj];exact⟨_,rfl⟩
 ·rw[if_neg hj,if_neg hj];exact⟨_,rfl⟩
end
section
variable {g:TG}{ti:TT}{te:TE}{σ:St}{H:Hp}{Q:List V->Hp->Prop}
end
noncomputable def zJ(lo:Int)(n:Nat):It:=⟨fun i _=>i<n,fun i H x H'=>H'=H/\x=.int (lo+i*2),fun i _=>n<=i⟩
theorem pE{P:Program}{w:World}{K:PySem.W.Frag}{tg:Expr}(it:Addr)(lo:Int)(n:Nat):r8 P w K tg (zJ lo n) [it] it (fun i h=>IsRangeIter h it (lo+(i:Nat)*2) ((n:Int)-(i:Nat)) 2) where
 mem:=by simp
 obj:=fun i h st b hb=>by
  have e:b=it:=by simpa using hb
  subst e;exact⟨_,st,fun v z=>by
   have z':Data.fields _=Data.cell v:=z;cases z'⟩
 keep:=fun i h h' st k=>k it (by simp) _ st
 item:=by
  intro X hP hw hK hc i pins s σ H E I hf st hg;subst hP hw hK;obtain⟨f0,f1,f2,f3,f4,f5⟩:=hf it (by simp);have W:=Walks.range (prog:=X.prog) (w:=X.w) (I.ok.hd hc) it lo 2 n;refine W.item i s _ _ hg st fun v h' tk hv st' kk=>?_;obtain⟨t,rfl⟩:=hv;have I1:Inv X pins σ H {s with heap:=h',toks:=tk}:=I.turned (fun b o hb e=>kk b o (by simpa using hb) e) f0 f1 f3 f4 f5;exact⟨_,rfl,sV (s:={s with heap:=h',toks:=tk}) (n:="range_iterator") st' rfl rfl (by decide) ⟨.int (lo+i*2),H,I1,⟨t,rfl⟩,⟨rfl,rfl⟩,st',fun b hb=>(hf b hb).1⟩⟩
 done:=by
  intro X hP hw hK hc i pins s σ H E I hf st hg;subst hP hw hK;obtain⟨f0,f1,f2,f3,f4,f5⟩:=hf it (by simp);exact wpAny_pyNext_range_end (I.ok.hd hc) st (by have:n<=i:=hg;omega) fun h' eb=>⟨rfl,I.turned (t':=s.toks) (fun b o hb e=>eb b o hb e) f0 f1 f3 f4 f5⟩
 self:=fun _ _ _ _ _ st h=>wpAny_pyIter_rangeiter st h
theorem iH{lo hi:Int}:Builtin.Range.rangeSize lo hi 2=(((hi-lo+1).toNat/2:Nat):Int):=by
 unfold Builtin.Range.rangeSize;simp only[show(2:Int)>0 by decide,if_true]
 split<;>omega
theorem tY{lo hi:Int}(h1:-1000000<=lo)(h2:lo<=1000000)(h3:-1000000<=hi)(h4:hi<=1000000):Builtin.Range.small lo hi 2=true:=by
 unfold Builtin.Range.small;rw[iH];simp only[Builtin.Range.rangeFitsLong,Bool.and_eq_true,Bool.or_eq_true,decide_eq_true_eq,beq_iff_eq,show(2:Int)>0 by decide,if_true];omega
section
variable {X:Cx}{tg:Expr}
theorem uS{pins:List (Addr×Obj)}{σ:St}{H:Hp}{s:Shared}{R:It->Hp->Prop}{E:Value->Shared->Prop}{lo hi:Int}{t u v:Tok}{tk:Nat}(I:Inv X pins σ H s)(h1:-1000000<=lo)(h2:lo<=1000000)(h3:-1000000<=hi)(h4:hi<=1000000)
  (q:R (zJ lo ((hi-lo+1).toNat/2)) H):wpAny (model X.prog X.w) X.A (pyIter (.ref s.heap.objs.size)) (zY X pins σ tg R) E {s with heap:=s.heap.push {cls:=.type "range",data:=.fields #[.int lo t,.int hi u,.int 2 v]},toks:=tk}:=by
 refine wpAny_pyIter_range (IsRange.new ..) (tY h1 h2 h3 h4) ?_;have I1:Inv X pins σ H {s with heap:=s.heap.push {cls:=.type "range",data:=.fields #[.int lo t,.int hi u,.int 2 v]},toks:=tk}:=I.kept fun b o e=>CO _ e;refine⟨(s.heap.push {cls:=.type "range",data:=.fields #[.int lo t,.int hi u,.int 2 v]}).objs.size,[(s.heap.push {cls:=.type "range",data:=.fields #[.int lo t,.int hi u,.int 2 v]}).objs.size],_,_,H,rfl,
  I1.kept (t':=tk) fun b o e=>CO _ e,pE _ lo ((hi-lo+1).toNat/2),?_,fun b hb=>?_,q⟩
 ·show IsRangeIter _ _ (lo+((0:Nat):Int)*2) ((((hi-lo+1).toNat/2:Nat):Int)-((0:Nat):Int)) 2
  rw[show lo+((0:Nat):Int)*2=lo by omega,show(((hi-lo+1).toNat/2:Nat):Int)-((0:Nat):Int)=Builtin.Range.rangeSize lo hi 2 by rw[iH];omega];exact CW _ rfl
 ·have e:b=(s.heap.push {cls:=.type "range",data:=.fields #[.int lo t,.int hi u,.int 2 v]}).objs.size:=by simpa using hb
  subst e;exact I1.fpOk (Dg _) (I1.hok.fresh (Dg _))
noncomputable def x9(ta:TA):TI:=fun σ H R=>ta σ H fun vs H1=>∃i j:Int,vs=[.int i,.int j,.int 2]/\(-1000000<=i/\i<=1000000/\-1000000<=j/\j<=1000000)/\R (zJ i ((j-i+1).toNat/2)) H1
theorem uJ{a b c:Expr}{ta:TA}{p pos:Pos}(hg:Gl X "range")(hm:X.mg "range"=none)(ha:PA X [a,b,c] ta)(hs:starEach [a,b,c] X.env=[(false,eval a X.env),(false,eval b X.env),(false,eval c X.env)]:=by rfl)(hs2:starEach [b,c] X.env=[(false,eval b X.env),(false,eval c X.env)]:=by rfl) :
  PI X tg (.Call (.Name "range" p) [a,b,c] [] pos) (x9 ta):=by
 intro pins s σ H R I h;refine Call_ (fC I hg hm boot_range (PyProof.Rows.callWith_type1 (bq (ha pos pins s σ H _ I h) fun us s1 ⟨vs,H1,I1,r1,q1⟩=>?_) (by rw[hs,hs2]) (by rw[hs2];rfl)));obtain⟨i,j,e,⟨q1,q2,q3,q4⟩,q⟩:=q1;subst e;cases r1 with
 |cons r rr=>
  cases rr with
  |cons r' rr=>
   cases rr with
   |cons r2 rr=>
    cases rr;obtain⟨t,rfl⟩:=r;obtain⟨t',rfl⟩:=r';obtain⟨t2,rfl⟩:=r2;exact call_range_3 (by decide) (uS I1 q1 q2 q3 q4 q)
end
section
variable {g:TG}{tb:TS}{D:iN}{σ:St}{H:Hp}
theorem pA{lo:Int}{n:Nat}(Pv:Nat->St->Hp->Prop)(h0:Pv 0 σ H)
  (hs:∀i σ H,i<n->Pv i σ H->g (.int (lo+i*2)) σ H fun σ2 H2=>tb {D with nx:=Pv (i+1),ct:=Pv (i+1),bk:=D.nx} σ2 H2) (hd:∀σ H,Pv n σ H->D.nx σ H):vi (zJ lo n) g tb D σ H:=by
 refine⟨fun i m σ H=>m=n-i/\i<=n/\Pv i σ H,⟨n,by simp,Dh _,h0⟩,?_⟩;rintro i m σ H ⟨rfl,hi,p⟩
 by_cases hlt:i<n
 ·refine .inr ⟨hlt,Pv (i+1),fun σ' H' p'=>⟨n-(i+1),by omega,rfl,hlt,p'⟩,fun x H' y=>?_⟩
  obtain⟨e,y⟩:=y;subst e y;exact hs i σ _ hlt p
 ·have:i=n:=by omega
  subst this;exact .inl ⟨Dg _,hd σ H p⟩
end
end L2
set_option maxHeartbeats 4000000
namespace Q32
open PySem L2 fY QL
local macro_rules | `(tactic| walk_at "wp")=>`(tactic| ((try dsimp only[Ct,Bh,Bb,Ca,BG,BR,Cg,Cv,tF,tB,wA,wt,y4,wu,xx,vK,tm,xg,tC,y9,sE,yE,yR,At,vG,vX,rC,nK,nC,pd,yj,yh,vz,qJ,wg,x9,r9,yO,yr,sS,sT,oU,vd,v5,ss,nS,vP,kT,wF,oj,yQ,y3,zM,mw,uH,li,Ao,xQ,yC,Av,zX,yA,Au,ou,vW,yz,zZ,u_,ng,xI,vY,u9,vb,yq,sP,vS,m9,s_,L2.start,Dl,List.map_nil,C5,List.length_nil,List.replicate,List.cons_append,DB,Nat.reduceAdd,Nat.reduceSub,List.getElem?_cons_zero,Dk,List.set_cons_zero,List.set_cons_succ,dL,Cx.blk,i_,rl,vq,v7,Cx.wish,Cx.nox,zN,xO,yX,wH,wQ,j1]);(try simp only[tF,tB,wA,wt,y4,wu,xx,vK,tm,xg,tC,y9,sE,yE,yR,At,vG,vX,rC,nK,nC,pd,yj,yh,vz,qJ,wg,r9,yO,yr,sS,sT,oU,vd,v5,ss,nS,vP,kT,wF,oj,yQ,y3,zM,mw,uH,li,Ao,xQ,yC,Av,zX,yA,Au,ou,vW,yz,zZ,u_,ng,xI,vY,u9,vb,yq,sP,vS,m9,s_,L2.start,Dl,List.map_nil,C5,List.length_nil,List.replicate,List.cons_append,DB,Dq,Nat.reduceAdd,Nat.reduceSub,List.getElem?_cons_zero,Dk,List.set_cons_zero,List.set_cons_succ,Option.some.injEq,V.int.injEq,V.str.injEq,V.ref.injEq,V.bl.injEq,List.cons.injEq,and_true,true_and,exists_and_left,exists_eq_left',exists_eq_left,decide_eq_true_eq,Bool.not_eq_true',decide_eq_false_iff_not,dL,Cx.blk,xf,i_,rl,Option.join_some,Nat.succ_eq_add_one,Nat.zero_add,exists_const,and_assoc,exists_eq,exists_eq',vq,v7,Int.reducePow,Int.reduceNeg,Int.reduceLT,or_true,true_or,reduceCtorEq,Int.zero_add,↓reduceIte,Bool.false_eq_true,Bool.not_true,Bool.not_false,Cx.wish,Cx.nox,↓Ac,↓Al,↓Ap,↓zW,↓Ag,↓An,↓Aq,↓zV,vH,xV,tj,sW,wa,j1,wn,vN,u3,rI,zN])))
set_option hygiene false in
local macro_rules|`(tactic|walk_at "nc")=>`(tactic|(clear h1;refine ao fun N1 h1=>?_;walk_at "wp"))
set_option hygiene false in
local macro_rules|`(tactic|walk_at "n")=>`(tactic|(refine ao fun N1 h1=>?_;walk_at "wp"))
set_option hygiene false in
local macro_rules|`(tactic|walk_at "o")=>`(tactic|(refine ao fun N2 h2=>?_;walk_at "wp"))
set_option hygiene false in
local macro_rules|`(tactic|walk_at "f")=>`(tactic|refine F.ok sc (fun vs H Q E h=>?_) (fun cdv A outer s H vs Q E hr h=>?_))
set_option hygiene false in
local macro_rules|`(tactic|walk_at "x")=>`(tactic|refine F.okX sc (fun vs H Q E h=>?_) (fun cdv A outer s H vs Q E hr h=>?_))
set_option hygiene false in
local macro_rules|`(tactic|walk_at "c")=>`(tactic|exact⟨rfl,rfl,rfl,by decide +kernel,rfl,by decide +kernel,by decide +kernel⟩)
noncomputable def lW(i:Nat):Stmt:=PySem.Challenge.pw_quiltlaw_k32_trees_counted.main.body.getD i (.Pass ⟨0,0,0,0⟩)
noncomputable def xK:Stmt->List Stmt
 | .ClassDef (body:=b) ..=>b
 |_=>[]
noncomputable def fG(i j:Nat):Stmt:=(xK (lW i)).getD j (.Pass ⟨0,0,0,0⟩)
section
variable {P:Program}{w:World}{K:W.Frag}{mg:Str->Option Value}{base:Heap}
noncomputable abbrev zC(z:Str)(c:Nat):Bool:=!(Builtin.Str.occurrences z ⟨#[c]⟩ 0 z.length 1).isEmpty
noncomputable abbrev jy:Stmt:=lW 22
noncomputable def eV(r:List Nat)(z:Str):Bool:=r.all (zC z)
noncomputable def ft:Sp:=fun vs H Q _=>∃(r:List Nat) (z:Str),vs=[.str (tx r),.str z]/\r.length<=100000/\∀H',ax H H'->Q (.bl (eV r z)) H'
theorem rW:av ["text","letters"] ["text","letters"] (ai jy):=by walk_at "c"
theorem Cj{r:List Nat}{i c:Nat}(h:(tx r).cps[i]?=some c):r[i]?=some c:=by
 rw[<- h];show r[i]?=r.toArray[i]?;simp
theorem Ah(r:List Nat):(tx r).cps.size=r.length:=by show r.toArray.size=_;simp
theorem qV{f:Addr}{fd:FuncData}(F:di K "only_of" "only_of" jy f fd)(nb:NB mg):aO P w K mg base bY 1 f fd ["text","letters"] ft:=by
 have sc:=rW;walk_at "f"
 ·obtain⟨r,z,rfl,_⟩:=h;rfl
 ·obtain⟨r,z,rfl,hr',q⟩:=h
  refine⟨_,(aj (aA (aQ (u5 rfl) rfl nb.all yp (aa (fF ["sign"] [1] rfl (bG.of (by kernel_rfl)) (by kernel_rfl) (yV (ak 0))
    (fun _ _ _ _=>(aC (i:=0) (by show(["sign","letters"]:List Str).Nodup;decide +kernel) rfl (Or.inl rfl))) (fun _ _ _ _=>dA) (fun _ _ _ _=>(ku tw (ak 0) (ak 1) (by with_unfolding_all rfl)))) ad)))),?_⟩
  walk_at "wp";refine vI (x:=tx r) (fun i acc σ H'=>H'=H/\acc=((r.take i).map (zC z)).map V.bl/\i<=r.length/\∃x,σ=[x,some (.str z)]) ⟨rfl,rfl,Dh _,_,rfl⟩ ?_ ?_ ?_ ?_
  ·rintro i acc σ H' ⟨_,rfl,hi,_⟩
   rw[CP,CP,Du];exact bh (by omega)
  ·rintro i acc σ H' ⟨_,_,h,_⟩
   rw[Ah];exact h
  ·rintro i c acc σ H' hc ⟨rfl,rfl,hi,y,rfl⟩
   have hc':=Cj hc;have hi':=(CM.mp hc').1;walk_at "wp";refine⟨?_,hi'⟩;rw[List.take_add_one,hc'];simp
  ·rintro acc σ H' ⟨rfl,rfl,_⟩ l hl
   refine⟨_,bp.of ac,?_⟩;rw[Ah,Ds];have e:(r.map (zC z)).all id=eV r z:=by unfold eV;rw[List.all_map];rfl
   rw[e];exact q _ (af hl)
noncomputable abbrev jL:Stmt:=lW 23
noncomputable abbrev yw:Str:="ABCDEFGHIJKLMNOPQRSTUVWXYZ"
noncomputable def cw(r:List Nat):Bool:=decide (1<=r.length)&&decide (r.length<=4)&&eV r yw
noncomputable def i5:Sp:=fun vs H Q _=>∃(r:List Nat),vs=[.str (tx r)]/\r.length<=100000/\∀H',ax H H'->Q (.bl (cw r)) H'
theorem rU:av ["text"] ["text"] (ai jL):=by walk_at "c"
theorem rL{f:Addr}{fd:FuncData}{t1 t2:Tok}(F:di K "is_name" "is_name" jL f fd)(nb:NB mg)(m_LONGEST_NAME:mg "LONGEST_NAME"=some (.int 4 t1))(m_CAPITALS:mg "CAPITALS"=some (.str "ABCDEFGHIJKLMNOPQRSTUVWXYZ" t2))(c_only_of:gW P w K mg base bY 1 "only_of" ["text","letters"] ft):aO P w K mg base bY 2 f fd ["text"] i5:=by
 have sc:=rU;walk_at "f"
 ·obtain⟨r,rfl,_⟩:=h;rfl
 ·obtain⟨r,rfl,hr',q⟩:=h
  refine⟨_,(aj (aA (iO (pB (aN.m0 sD) (aN.m0 sD) ae (aQ cR rfl nb.len dn (aa (ak 0) ad)) (cV (v:=.int 4) rfl m_LONGEST_NAME ⟨_,rfl⟩)) (k8 (aI c_only_of (hr.mono (by decide)) rfl bo (aa (ak 0) (aa (cV (v:=.str "ABCDEFGHIJKLMNOPQRSTUVWXYZ") rfl m_CAPITALS ⟨_,rfl⟩) ad))))))),?_⟩;walk_at "wp";refine⟨by rw[aY];exact am (by omega),?_⟩;rw[aY];unfold cw at q
  by_cases h1:1<=r.length
  ·rw[if_pos (by omega)]
   by_cases h2:r.length<=4
   ·rw[if_pos (by omega)]
    refine⟨r,_,rfl,hr',fun H' sm=>?_⟩;have z:=q H' sm;rw[decide_eq_true h1,decide_eq_true h2]at z;exact z
   ·rw[if_neg (by omega)]
    have z:=q H (fun _ _ e=>e);rw[decide_eq_true h1,decide_eq_false h2]at z;exact z
  ·rw[if_neg (by omega)]
   have z:=q H (fun _ _ e=>e);rw[decide_eq_false h1]at z;exact z
noncomputable abbrev cN:Stmt:=fG 24 0
noncomputable def b_(K:W.Frag)(CF:Addr):Sp:=fun vs H Q E=>∃(a C dx l:Addr) (n:List Nat) (c:Int) (ps:fY),vs=[.ref a,.str (tx n),.int c,.ref l]/\H a=some (.ins C dx [])/\j' K C/\al K C "name"/\al K C "cost"/\al K C "part_names"/\H l=some (.lst (aW ps)) /\
 ps.length<=1000/\(∀r∈n::ps,r.length<=100000) /\
 ((∀r∈n::ps,cw r=true)/\1<=c/\c<=9->∀H',ax H H'->Q .non (ar H' a (.ins C dx [("name",.str (tx n)),("cost",.int c),("part_names",.ref l)]))) /\
 (¬ ((∀r∈n::ps,cw r=true)/\1<=c/\c<=9)->∀H',ax H H'->E (.ref CF) none H')
theorem nU:av ["self","name","cost","part_names","text"] ["self","name","cost","part_names"] (ai cN):=by walk_at "c"
theorem nB{f zfa:Addr}{fd:FuncData}(F:di K "__init__" "Rule.__init__" cN f fd)(nb:NB mg)(zza:mg "NoRule"=some (.ref zfa))(zwa:XR K zfa)(c_is_name:gW P w K mg base bY 2 "is_name" ["text"] i5):aO P w K mg base (bZ P w) 3 f fd ["self","name","cost","part_names"] (b_ K zfa):=by
 have sc:=nU;walk_at "x"
 ·obtain⟨a,C,dx,l,n,c,ps,rfl,_⟩:=h;rfl
 ·obtain⟨a,C,dx,l,n,c,ps,rfl,ha,cl,n1,n2,n3,hl,hpl,hrl,good,bad⟩:=h
  refine⟨_,(ag (bj PassesOwn.leaving rfl (cB (ap yK (bJ (aa (ak 1) ad)) (ak 3))) (aC (i:=4) sc.nd rfl (Or.inl rfl))
   (aj (bK (kE (m_ (aI (CX:=bZ P w) c_is_name.lift (hr.mono (by decide)) rfl bd (aa (ak 4) ad)) fun _=>rfl))
   (aj (eS zwa rfl rfl zza (gb fun _ _ _ h=>h) (bc ad)))
   aM)))
   (ag (bK (PW.pt (pJ (aD (aN.m0 sR) (ak 2) ae (aS _)) (lA (aD (aN.m0 jt) (ak 2) ae (aS _)))))
   (aj (eS zwa rfl rfl zza (gb fun _ _ _ h=>h) (bc ad)))
   aM)
   (ag (b5 (ak 0) (ak 1) rfl)
   (ag (b5 (ak 0) (ak 2) rfl)
   (aj (b5 (ak 0) (ak 3) rfl)))))),?_⟩
  walk_at "wp";refine⟨am (by omega),fun p hp=>?_⟩;have m1:ax H (ar H p (.lst [V.str (tx n)])):=af hp;have e1:ar H p (.lst [V.str (tx n)]) p=some (.lst [V.str (tx n)]):=ac;generalize ar H p (.lst [V.str (tx n)])=H1 at m1 e1 ⊢;refine⟨_,e1,_,m1 _ _ hl,by rw[bP];exact am (by simp;omega),fun p2 hp2=>?_⟩;have e12:[V.str (tx n)]++aW ps=aW (n::ps):=rfl;rw[e12];have m2:ax H1 (ar H1 p2 (.lst (aW (n::ps)))):=af hp2;have e2:ar H1 p2 (.lst (aW (n::ps))) p2=some (.lst (aW (n::ps))):=ac;generalize ar H1 p2 (.lst (aW (n::ps)))=H2 at m2 e2 ⊢;generalize hqs:n::ps=qs at hrl good bad e2 ⊢;have m02:=m1.trans m2;refine⟨⟨_,bp.of e2⟩,cH (xs:=aW qs) (fun i σ H'=>ax H2 H'/\(∀r∈qs.take i,cw r=true)/\∃x,σ=[some (.ref a),some (.str (tx n)),some (.int c),some (.ref l),x]) ⟨fun _ _ e=>e,by simp,_,rfl⟩ (fun i σ H' _ h=>bp.of (h.1 _ _ e2)) ?_ ?_⟩
  ·rintro i v σ H' hv ⟨sm,hok,x,rfl⟩
   have hi:i<qs.length:=by have:=(CM.mp hv).1;rwa [bP]at this
   rw[jI hi]at hv;cases hv;walk_at "wp";refine⟨_,rfl,hrl _ (CZ hi),fun H3 sm3=>⟨_,rfl,?_⟩⟩
   by_cases hb:cw qs[i]=true
   ·rw[if_neg (by rw[hb];decide)]
    refine⟨sm.trans sm3,fun r hr=>?_⟩;rw[List.take_add_one,mk hi]at hr;rcases C7.mp hr with h | h
    ·exact hok r h
    ·rw[show r=qs[i] by simpa using h];exact hb
   ·rw[if_pos (by simpa using hb)]
    exact⟨am (by omega),bad (fun h=>hb (h.1 _ (CZ hi))) _ ((m02.trans sm).trans sm3)⟩
  ·rintro σ H' ⟨sm,hok,x,rfl⟩
   rw[bP,Ds]at hok;have smH:=m02.trans sm;walk_at "wp"
   by_cases c1:c<1
   ·rw[if_pos c1]
    exact⟨am (by omega),bad (fun h=>by omega) _ smH⟩
   ·rw[if_neg c1]
    by_cases c9:9<c
    ·rw[if_pos c9]
     exact⟨am (by omega),bad (fun h=>by omega) _ smH⟩
    ·rw[if_neg c9]
     have g:=good ⟨hok,by omega,by omega⟩ H' smH;have l1:(bH "name" (V.str (tx n)) []).length<=1:=b6 _ _ _;have l2:(bH "cost" (V.int c) (bH "name" (V.str (tx n)) [])).length<=2:=Dm (b6 _ _ _) (by omega);have d1:¬ (("name":Str)="cost"):=by decide +kernel
     have d2:¬ (("name":Str)="part_names"):=by decide +kernel
     have d3:¬ (("cost":Str)="part_names"):=by decide +kernel
     have e:bH "part_names" (V.ref l) (bH "cost" (V.int c) (bH "name" (V.str (tx n)) []))=[(("name":Str),V.str (tx n)),(("cost":Str),V.int c),(("part_names":Str),V.ref l)]:=by
      simp only[bH,if_neg d1,if_neg d2,if_neg d3]
     refine⟨C,dx,[],smH _ _ ha,cl,n1,by simp,C,dx,_,ac,cl,n2,by omega,C,dx,_,ac,cl,n3,by omega,?_⟩;rw[jd,jd,e];exact g
noncomputable def aZ(a:Addr)(H H':Hp):Prop:=∀b o,b≠a->H b=some o->H' b=some o
theorem aZ.of{a:Addr}{H H':Hp}(s:ax H H'):aZ a H H':=fun b o _ e=>s b o e
theorem aZ.put{a:Addr}{H H':Hp}{o:HO}(s:aZ a H H'):aZ a H (ar H' a o):=fun b u hb e=>by rw[ah hb];exact s b u hb e
theorem aZ.then{a:Addr}{H H' H2:Hp}(s:aZ a H H')(t:ax H' H2):aZ a H H2:=fun b u hb e=>t b u (s b u hb e)
noncomputable abbrev yu:Str:="abcdefghijklmnopqrstuvwxyz"
noncomputable def gp(r:List Nat):Bool:=decide (r.length=1)&&eV r yu
noncomputable def eF(n:List Nat)(ps:fY)(c:Int):Prop:=(∀r∈n::ps,cw r=true)/\1<=c/\c<=9
noncomputable abbrev cI:Stmt:=fG 25 0
noncomputable def fA(K:W.Frag)(CF:Addr):Sp:=fun vs H Q E=>∃(a C dx:Addr) (n sg:List Nat) (c:Int),vs=[.ref a,.str (tx n),.int c,.str (tx sg)]/\H a=some (.ins C dx [])/\j' K C/\(al K C "name"/\al K C "cost"/\al K C "part_names"/\al K C "sign")/\n.length<=100000/\sg.length<=100000 /\
 (eF n [] c/\gp sg=true->∀(l:Addr) (H':Hp),aZ a H H'->H l=none->H' l=some (.lst [])->H' a=some (.ins C dx [("name",.str (tx n)),("cost",.int c),("part_names",.ref l),("sign",.str (tx sg))])->Q .non H') /\
 (¬ (eF n [] c/\gp sg=true)->∀H',aZ a H H'->E (.ref CF) none H')
theorem nV:av ["self","name","cost","sign"] ["self","name","cost","sign"] (ai cI):=by walk_at "c"
theorem oM{f zfa:Addr}{fd:FuncData}{t3:Tok}(F:di K "__init__" "CellRule.__init__" cI f fd)(nb:NB mg)(m_SMALLS:mg "SMALLS"=some (.str "abcdefghijklmnopqrstuvwxyz" t3))(zza:mg "NoRule"=some (.ref zfa))(zwa:XR K zfa)
  (c_only_of:gW P w K mg base bY 1 "only_of" ["text","letters"] ft) (zha:tR P w K mg base (bZ P w) 3 "Rule" "__init__" ["self","name","cost","part_names"] (b_ K zfa)):aO P w K mg base (bZ P w) 4 f fd ["self","name","cost","sign"] (fA K zfa):=by
 have sc:=nV;walk_at "x"
 ·obtain⟨a,C,dx,n,sg,c,rfl,_⟩:=h;rfl
 ·obtain⟨a,C,dx,n,sg,c,rfl,ha,cl,⟨n1,n2,n3,n4⟩,hn,hsg,good,bad⟩:=h
  refine⟨_,(ag (cQ (kz (E:=E) zha (hr.mono (by decide)) rfl (bF fun _ _ _ h=>h) (aa (ak 0) (aa (ak 1) (aa (ak 2) (aa (bJ ad) ad))))))
   (ag (bK (PW.pt (pJ (aD vC (aQ cR rfl nb.len dn (aa (ak 3) ad)) ae (aS _)) (lA (kE (m_ (aI (CX:=bZ P w) c_only_of.lift (hr.mono (by decide)) rfl bd (aa (ak 3) (aa (cV (v:=.str "abcdefghijklmnopqrstuvwxyz") rfl m_SMALLS ⟨_,rfl⟩) ad))) fun _=>rfl)))))
   (aj (eS zwa rfl rfl zza (gb fun _ _ _ h=>h) (bc ad)))
   aM)
   (aj (b5 (ak 0) (ak 3) rfl)))),?_⟩
  walk_at "wp";refine⟨Dh _,fun l hl=>?_⟩;have m1:ax H (ar H l (.lst [])):=af hl;have e1:ar H l (.lst []) l=some (.lst []):=ac;generalize ar H l (.lst [])=H1 at m1 e1 ⊢;have hla:l≠a:=fun e=>by rw[e,ha]at hl;cases hl
  refine⟨a,C,dx,l,n,c,[],rfl,m1 _ _ ha,cl,n1,n2,n3,e1,by simp,fun r hr=>by rw[show r=n by simpa using hr];exact hn,fun ok H2 sm2=>?_,fun nok H2 sm2=>bad (fun h=>nok h.1) _ (.of (m1.trans sm2))⟩;have sx:aZ a H (ar H2 a (.ins C dx [("name",.str (tx n)),("cost",.int c),("part_names",.ref l)])):=(aZ.of (m1.trans sm2)).put;have ea:ar H2 a (.ins C dx [("name",.str (tx n)),("cost",.int c),("part_names",.ref l)]) a=some (.ins C dx [("name",.str (tx n)),("cost",.int c),("part_names",.ref l)]):=ac;have el:ar H2 a (.ins C dx [("name",.str (tx n)),("cost",.int c),("part_names",.ref l)]) l=some (.lst []):=by rw[ah hla];exact sm2 _ _ e1
  generalize ar H2 a (.ins C dx [("name",.str (tx n)),("cost",.int c),("part_names",.ref l)])=H3 at sx ea el ⊢;dsimp only;have sgl:gp sg=true->sg.length=1/\eV sg yu=true:=fun h=>by
   unfold gp at h;rw[Bool.and_eq_true,decide_eq_true_eq]at h;exact h
  refine⟨by rw[aY];exact am (by omega),?_⟩;rw[aY]
  by_cases h1:(sg.length:Int)=1
  ·rw[if_neg (fun h=>h h1)]
   refine⟨sg,_,rfl,hsg,fun H4 sm4=>⟨_,rfl,?_⟩⟩
   by_cases hb:eV sg yu=true
   ·rw[if_neg (by rw[hb];decide)]
    have d1:¬ (("name":Str)="sign"):=by decide +kernel
    have d2:¬ (("cost":Str)="sign"):=by decide +kernel
    have d3:¬ (("part_names":Str)="sign"):=by decide +kernel
    have e:bH "sign" (V.str (tx sg)) [(("name":Str),V.str (tx n)),(("cost":Str),V.int c),(("part_names":Str),V.ref l)]=[(("name":Str),V.str (tx n)),(("cost":Str),V.int c),(("part_names":Str),V.ref l),(("sign":Str),V.str (tx sg))]:=by
     simp only[bH,if_neg d1,if_neg d2,if_neg d3]
    refine⟨C,dx,_,sm4 _ _ ea,cl,n4,by simp,?_⟩;rw[e];exact good ⟨ok,by unfold gp;rw[decide_eq_true (by omega),hb];rfl⟩ l _ (sx.then sm4).put hl (by rw[ah hla];exact sm4 _ _ el) ac
   ·rw[if_pos (by simpa using hb)]
    exact⟨am (by omega),bad (fun h=>hb (sgl h.2).2) _ (sx.then sm4)⟩
  ·rw[if_pos h1]
   exact⟨am (by omega),bad (fun h=>h1 (by have:=(sgl h.2).1;omega)) _ sx⟩
noncomputable def ck(K:W.Frag)(CF:Addr):Sp:=fun vs H Q E=>∃(a C dx:Addr) (n o1 o2:List Nat) (c:Int),vs=[.ref a,.str (tx n),.int c,.str (tx o1),.str (tx o2)]/\H a=some (.ins C dx [])/\j' K C/\(al K C "name"/\al K C "cost"/\al K C "part_names"/\al K C "one"/\al K C "other")/\n.length<=100000/\o1.length<=100000/\o2.length<=100000 /\
 (eF n [o1,o2] c->∀(l:Addr) (H':Hp),aZ a H H'->H l=none->H' l=some (.lst (aW [o1,o2]))->H' a=some (.ins C dx [("name",.str (tx n)),("cost",.int c),("part_names",.ref l),("one",.str (tx o1)),("other",.str (tx o2))])->Q .non H') /\
 (¬ eF n [o1,o2] c->∀H',aZ a H H'->E (.ref CF) none H')
theorem qv{n o1 o2:List Nat}{c:Int}{l:Addr}:bH "other" (V.str (tx o2)) (bH "one" (V.str (tx o1)) [(("name":Str),V.str (tx n)),(("cost":Str),V.int c),(("part_names":Str),V.ref l)])=[(("name":Str),V.str (tx n)),(("cost":Str),V.int c),(("part_names":Str),V.ref l),(("one":Str),V.str (tx o1)),(("other":Str),V.str (tx o2))]:=by
 have d1:¬ (("name":Str)="one"):=by decide +kernel
 have d2:¬ (("cost":Str)="one"):=by decide +kernel
 have d3:¬ (("part_names":Str)="one"):=by decide +kernel
 have d4:¬ (("name":Str)="other"):=by decide +kernel
 have d5:¬ (("cost":Str)="other"):=by decide +kernel
 have d6:¬ (("part_names":Str)="other"):=by decide +kernel
 have d7:¬ (("one":Str)="other"):=by decide +kernel
 simp only[bH,if_neg d1,if_neg d2,if_neg d3,if_neg d4,if_neg d5,if_neg d6,if_neg d7]
noncomputable abbrev bW:Stmt:=fG 26 0
theorem kH:av ["self","name","cost","one","other"] ["self","name","cost","one","other"] (ai bW):=by walk_at "c"
theorem ld{f zfa:Addr}{fd:FuncData}(F:di K "__init__" "BesideRule.__init__" bW f fd)(nb:NB mg)
  (zha:tR P w K mg base (bZ P w) 3 "Rule" "__init__" ["self","name","cost","part_names"] (b_ K zfa)):aO P w K mg base (bZ P w) 4 f fd ["self","name","cost","one","other"] (ck K zfa):=by
 have sc:=kH;walk_at "x"
 ·obtain⟨a,C,dx,n,o1,o2,c,rfl,_⟩:=h;rfl
 ·obtain⟨a,C,dx,n,o1,o2,c,rfl,ha,cl,⟨n1,n2,n3,n4,n5⟩,hn,ho1,ho2,good,bad⟩:=h
  refine⟨_,(ag (cQ (kz (E:=E) zha (hr.mono (by decide)) rfl (bF fun _ _ _ h=>h) (aa (ak 0) (aa (ak 1) (aa (ak 2) (aa (bJ (aa (ak 3) (aa (ak 4) ad))) ad))))))
   (ag (b5 (ak 0) (ak 3) rfl)
   (aj (b5 (ak 0) (ak 4) rfl)))),?_⟩
  walk_at "wp";refine⟨am (by omega),fun l hl=>?_⟩;have m1:ax H (ar H l (.lst [V.str (tx o1),V.str (tx o2)])):=af hl;have e1:ar H l (.lst [V.str (tx o1),V.str (tx o2)]) l=some (.lst (aW [o1,o2])):=ac;generalize ar H l (.lst [V.str (tx o1),V.str (tx o2)])=H1 at m1 e1 ⊢;have hla:l≠a:=fun e=>by rw[e,ha]at hl;cases hl
  refine⟨a,C,dx,l,n,c,[o1,o2],rfl,m1 _ _ ha,cl,n1,n2,n3,e1,by simp,fun r hr=>?_,fun ok H2 sm2=>?_,fun nok H2 sm2=>bad (fun h=>nok h) _ (.of (m1.trans sm2))⟩
  ·have h3:r=n\/r=o1\/r=o2:=by simpa using hr
   rcases h3 with rfl | rfl | rfl
   ·exact hn
   ·exact ho1
   ·exact ho2
  ·have sx:aZ a H (ar H2 a (.ins C dx [("name",.str (tx n)),("cost",.int c),("part_names",.ref l)])):=(aZ.of (m1.trans sm2)).put
   have ea:ar H2 a (.ins C dx [("name",.str (tx n)),("cost",.int c),("part_names",.ref l)]) a=some (.ins C dx [("name",.str (tx n)),("cost",.int c),("part_names",.ref l)]):=ac;have el:ar H2 a (.ins C dx [("name",.str (tx n)),("cost",.int c),("part_names",.ref l)]) l=some (.lst (aW [o1,o2])):=by rw[ah hla];exact sm2 _ _ e1
   generalize ar H2 a (.ins C dx [("name",.str (tx n)),("cost",.int c),("part_names",.ref l)])=H3 at sx ea el ⊢;dsimp only;refine⟨C,dx,_,ea,cl,n4,by simp,C,dx,_,ac,cl,n5,?_,?_⟩
   ·exact Dw (b6 _ _ _) (by simp)
   ·rw[jd,qv]
    exact good ok l _ sx.put hl (by rw[ah hla];exact el) ac
noncomputable abbrev cj:Stmt:=fG 27 0
theorem l4:av ["self","name","cost","one","other"] ["self","name","cost","one","other"] (ai cj):=by walk_at "c"
theorem mv{f zfa:Addr}{fd:FuncData}(F:di K "__init__" "AboveRule.__init__" cj f fd)(nb:NB mg)
  (zha:tR P w K mg base (bZ P w) 3 "Rule" "__init__" ["self","name","cost","part_names"] (b_ K zfa)):aO P w K mg base (bZ P w) 4 f fd ["self","name","cost","one","other"] (ck K zfa):=by
 have sc:=l4;walk_at "x"
 ·obtain⟨a,C,dx,n,o1,o2,c,rfl,_⟩:=h;rfl
 ·obtain⟨a,C,dx,n,o1,o2,c,rfl,ha,cl,⟨n1,n2,n3,n4,n5⟩,hn,ho1,ho2,good,bad⟩:=h
  refine⟨_,(ag (cQ (kz (E:=E) zha (hr.mono (by decide)) rfl (bF fun _ _ _ h=>h) (aa (ak 0) (aa (ak 1) (aa (ak 2) (aa (bJ (aa (ak 3) (aa (ak 4) ad))) ad))))))
   (ag (b5 (ak 0) (ak 3) rfl)
   (aj (b5 (ak 0) (ak 4) rfl)))),?_⟩
  walk_at "wp";refine⟨am (by omega),fun l hl=>?_⟩;have m1:ax H (ar H l (.lst [V.str (tx o1),V.str (tx o2)])):=af hl;have e1:ar H l (.lst [V.str (tx o1),V.str (tx o2)]) l=some (.lst (aW [o1,o2])):=ac;generalize ar H l (.lst [V.str (tx o1),V.str (tx o2)])=H1 at m1 e1 ⊢;have hla:l≠a:=fun e=>by rw[e,ha]at hl;cases hl
  refine⟨a,C,dx,l,n,c,[o1,o2],rfl,m1 _ _ ha,cl,n1,n2,n3,e1,by simp,fun r hr=>?_,fun ok H2 sm2=>?_,fun nok H2 sm2=>bad (fun h=>nok h) _ (.of (m1.trans sm2))⟩
  ·have h3:r=n\/r=o1\/r=o2:=by simpa using hr
   rcases h3 with rfl | rfl | rfl
   ·exact hn
   ·exact ho1
   ·exact ho2
  ·have sx:aZ a H (ar H2 a (.ins C dx [("name",.str (tx n)),("cost",.int c),("part_names",.ref l)])):=(aZ.of (m1.trans sm2)).put
   have ea:ar H2 a (.ins C dx [("name",.str (tx n)),("cost",.int c),("part_names",.ref l)]) a=some (.ins C dx [("name",.str (tx n)),("cost",.int c),("part_names",.ref l)]):=ac;have el:ar H2 a (.ins C dx [("name",.str (tx n)),("cost",.int c),("part_names",.ref l)]) l=some (.lst (aW [o1,o2])):=by rw[ah hla];exact sm2 _ _ e1
   generalize ar H2 a (.ins C dx [("name",.str (tx n)),("cost",.int c),("part_names",.ref l)])=H3 at sx ea el ⊢;dsimp only;refine⟨C,dx,_,ea,cl,n4,by simp,C,dx,_,ac,cl,n5,?_,?_⟩
   ·exact Dw (b6 _ _ _) (by simp)
   ·rw[jd,qv]
    exact good ok l _ sx.put hl (by rw[ah hla];exact el) ac
noncomputable def fE(K:W.Frag)(CF:Addr):Sp:=fun vs H Q E=>∃(a C dx:Addr) (n o1:List Nat) (c t:Int),vs=[.ref a,.str (tx n),.int c,.str (tx o1),.int t]/\H a=some (.ins C dx [])/\j' K C/\(al K C "name"/\al K C "cost"/\al K C "part_names"/\al K C "part"/\al K C "turning")/\n.length<=100000/\o1.length<=100000 /\
 (eF n [o1] c/\0<=t/\t<=7->∀(l:Addr) (H':Hp),aZ a H H'->H l=none->H' l=some (.lst (aW [o1]))->H' a=some (.ins C dx [("name",.str (tx n)),("cost",.int c),("part_names",.ref l),("part",.str (tx o1)),("turning",.int t)])->Q .non H') /\
 (¬ (eF n [o1] c/\0<=t/\t<=7)->∀H',aZ a H H'->E (.ref CF) none H')
theorem vn{n o1:List Nat}{c t:Int}{l:Addr}:bH "turning" (V.int t) (bH "part" (V.str (tx o1)) [(("name":Str),V.str (tx n)),(("cost":Str),V.int c),(("part_names":Str),V.ref l)])=[(("name":Str),V.str (tx n)),(("cost":Str),V.int c),(("part_names":Str),V.ref l),(("part":Str),V.str (tx o1)),(("turning":Str),V.int t)]:=by
 have d1:¬ (("name":Str)="part"):=by decide +kernel
 have d2:¬ (("cost":Str)="part"):=by decide +kernel
 have d3:¬ (("part_names":Str)="part"):=by decide +kernel
 have d4:¬ (("name":Str)="turning"):=by decide +kernel
 have d5:¬ (("cost":Str)="turning"):=by decide +kernel
 have d6:¬ (("part_names":Str)="turning"):=by decide +kernel
 have d7:¬ (("part":Str)="turning"):=by decide +kernel
 simp only[bH,if_neg d1,if_neg d2,if_neg d3,if_neg d4,if_neg d5,if_neg d6,if_neg d7]
noncomputable abbrev cG:Stmt:=fG 28 0
theorem oq:av ["self","name","cost","part","turning"] ["self","name","cost","part","turning"] (ai cG):=by walk_at "c"
theorem ny{f zfa:Addr}{fd:FuncData}(F:di K "__init__" "TurnRule.__init__" cG f fd)(nb:NB mg)(zza:mg "NoRule"=some (.ref zfa))(zwa:XR K zfa)
  (zha:tR P w K mg base (bZ P w) 3 "Rule" "__init__" ["self","name","cost","part_names"] (b_ K zfa)):aO P w K mg base (bZ P w) 4 f fd ["self","name","cost","part","turning"] (fE K zfa):=by
 have sc:=oq;walk_at "x"
 ·obtain⟨a,C,dx,n,o1,c,t,rfl,_⟩:=h;rfl
 ·obtain⟨a,C,dx,n,o1,c,t,rfl,ha,cl,⟨n1,n2,n3,n4,n5⟩,hn,ho1,good,bad⟩:=h
  refine⟨_,(ag (cQ (kz (E:=E) zha (hr.mono (by decide)) rfl (bF fun _ _ _ h=>h) (aa (ak 0) (aa (ak 1) (aa (ak 2) (aa (bJ (aa (ak 3) ad)) ad))))))
   (ag (bK (PW.pt (pJ (aD (aN.m0 sR) (ak 4) ae (aS _)) (lA (aD (aN.m0 jt) (ak 4) ae (aS _)))))
   (aj (eS zwa rfl rfl zza (gb fun _ _ _ h=>h) (bc ad)))
   aM)
   (ag (b5 (ak 0) (ak 3) rfl)
   (aj (b5 (ak 0) (ak 4) rfl))))),?_⟩
  walk_at "wp";refine⟨am (by omega),fun l hl=>?_⟩;have m1:ax H (ar H l (.lst [V.str (tx o1)])):=af hl;have e1:ar H l (.lst [V.str (tx o1)]) l=some (.lst (aW [o1])):=ac;generalize ar H l (.lst [V.str (tx o1)])=H1 at m1 e1 ⊢;have hla:l≠a:=fun e=>by rw[e,ha]at hl;cases hl
  refine⟨a,C,dx,l,n,c,[o1],rfl,m1 _ _ ha,cl,n1,n2,n3,e1,by simp,fun r hr=>?_,fun ok H2 sm2=>?_,fun nok H2 sm2=>bad (fun h=>nok h.1) _ (.of (m1.trans sm2))⟩
  ·have h3:r=n\/r=o1:=by simpa using hr
   rcases h3 with rfl | rfl
   ·exact hn
   ·exact ho1
  ·have sx:aZ a H (ar H2 a (.ins C dx [("name",.str (tx n)),("cost",.int c),("part_names",.ref l)])):=(aZ.of (m1.trans sm2)).put
   have ea:ar H2 a (.ins C dx [("name",.str (tx n)),("cost",.int c),("part_names",.ref l)]) a=some (.ins C dx [("name",.str (tx n)),("cost",.int c),("part_names",.ref l)]):=ac;have el:ar H2 a (.ins C dx [("name",.str (tx n)),("cost",.int c),("part_names",.ref l)]) l=some (.lst (aW [o1])):=by rw[ah hla];exact sm2 _ _ e1
   generalize ar H2 a (.ins C dx [("name",.str (tx n)),("cost",.int c),("part_names",.ref l)])=H3 at sx ea el ⊢;dsimp only
   by_cases t0:t<0
   ·rw[if_pos t0]
    exact⟨am (by omega),bad (fun h=>by omega) _ sx⟩
   ·rw[if_neg t0]
    by_cases t7:7<t
    ·rw[if_pos t7]
     exact⟨am (by omega),bad (fun h=>by omega) _ sx⟩
    ·rw[if_neg t7]
     refine⟨C,dx,_,ea,cl,n4,by simp,C,dx,_,ac,cl,n5,?_,?_⟩
     ·exact Dw (b6 _ _ _) (by simp)
     ·rw[jd,vn]
      exact good ⟨ok,by omega,by omega⟩ l _ sx.put hl (by rw[ah hla];exact el) ac
noncomputable abbrev ci:Stmt:=fG 24 1
noncomputable def bA(K:W.Frag):Sp:=fun vs H Q _=>∃(a C dx l:Addr) (fs:List (Str×V)) (ps:fY),vs=[.ref a]/\H a=some (.ins C dx fs)/\j' K C/\al K C "part_names"/\fs.lookup ("part_names":Str)=some (V.ref l)/\H l=some (.lst (aW ps))/\qh H ps Q
theorem l6:av ["self"] ["self"] (ai ci):=by walk_at "c"
theorem da{f:Addr}{fd:FuncData}(F:di K "parts" "Rule.parts" ci f fd)(nb:NB mg):aO P w K mg base bY 1 f fd ["self"] (bA K):=by
 have sc:=l6;walk_at "f"
 ·obtain⟨a,C,dx,l,fs,ps,rfl,_⟩:=h;rfl
 ·obtain⟨a,C,dx,l,fs,ps,rfl,ha,cl,n1,lk,hl,q⟩:=h
  refine⟨_,(aj (aA (gR fm rfl nb.list o_ (aa (bg (ak 0) rfl) ad)))),?_⟩;walk_at "wp";refine⟨C,dx,fs,ha,cl,n1,V.ref l,lk,l,rfl,_,.inl (bp.of hl),fun l' hl'=>q l' _ hl' ac (af hl')⟩
noncomputable abbrev zv(n:List Nat)(c:Int)(l:Addr)(sg:List Nat):List (Str×V):=[("name",.str (tx n)),("cost",.int c),("part_names",.ref l),("sign",.str (tx sg))]
noncomputable abbrev wc(n:List Nat)(c:Int)(l:Addr)(o1 o2:List Nat):List (Str×V):=[("name",.str (tx n)),("cost",.int c),("part_names",.ref l),("one",.str (tx o1)),("other",.str (tx o2))]
noncomputable abbrev zp(n:List Nat)(c:Int)(l:Addr)(o1:List Nat)(t:Int):List (Str×V):=[("name",.str (tx n)),("cost",.int c),("part_names",.ref l),("part",.str (tx o1)),("turning",.int t)]
theorem gM{r:List Nat}(h:cw r=true):1<=r.length/\r.length<=4:=by
 unfold cw at h;rw[Bool.and_eq_true,Bool.and_eq_true,decide_eq_true_eq,decide_eq_true_eq]at h;exact h.1
theorem uM{r:List Nat}(h:gp r=true):r.length=1:=by
 unfold gp at h;rw[Bool.and_eq_true,decide_eq_true_eq]at h;exact h.1
theorem ao{a b:TS}{D:iN}{σ:St}{H:Hp}(h:∀N:St->Hp->Prop,(∀σ2 H2,b D σ2 H2->N σ2 H2)->a {D with nx:=N} σ H):tF a b D σ H:=h (b D) fun _ _ z=>z
noncomputable abbrev jz:Stmt:=lW 45
noncomputable def lH:Sp:=fun vs H Q _=>∃(i:Int),vs=[.int i]/\Q (.bl true) H
theorem rA:av ["_law_x"] ["_law_x"] (ai jz):=by walk_at "c"
theorem qM{f:Addr}{fd:FuncData}(F:di K "_law_whole" "_law_whole" jz f fd)(nb:NB mg):aO P w K mg base bY 1 f fd ["_law_x"] lH:=by
 have sc:=rA;walk_at "f"
 ·obtain⟨i,rfl,_⟩:=h;rfl
 ·obtain⟨i,rfl,q⟩:=h
  refine⟨_,(aj (aA (iO (aQ cA rfl nb.isinstance bX (aa (ak 0) (aa (o8 (v:=.ty "int") rfl nb.int wP rfl) ad))) (k8 (wB (aQ cA rfl nb.isinstance bX (aa (ak 0) (aa (o8 (v:=.ty "bool") rfl nb.bool xR rfl) ad)))))))),?_⟩;walk_at "wp";refine⟨_,hV.int i,_,wD K _,?_⟩;walk_at "wp";refine⟨_,hV.int i,_,oH K,?_⟩;exact q
structure RV where
 n:List Nat
 c:Int
 o1:List Nat
 o2:List Nat
 sg:List Nat
 t:Int
structure RC where
 rr:Addr
 cc:Addr
 cb:Addr
 ca:Addr
 ct:Addr
noncomputable def RC.at(R:RC)(k:Nat):Addr:=match k with | 0=>R.cc | 1=>R.cb | 2=>R.ca | _=>R.ct
noncomputable def pM(k:Nat)(l:Addr)(v:RV):List (Str×V):=match k with | 0=>zv v.n v.c l v.sg | 1=>wc v.n v.c l v.o1 v.o2 | 2=>wc v.n v.c l v.o1 v.o2 | _=>zp v.n v.c l v.o1 v.t
noncomputable def aJ(k:Nat)(v:RV):fY:=match k with | 0=>[] | 1=>[v.o1,v.o2] | 2=>[v.o1,v.o2] | _=>[v.o1]
noncomputable def Cr(k:Nat)(v:RV):Prop:=match k with | 0=>eF v.n [] v.c/\gp v.sg=true | 1=>eF v.n [v.o1,v.o2] v.c | 2=>eF v.n [v.o1,v.o2] v.c | _=>eF v.n [v.o1] v.c/\0<=v.t/\v.t<=7
structure RV.small(v:RV):Prop where
 n:v.n.length<=1000
 o1:v.o1.length<=1000
 o2:v.o2.length<=1000
 sg:v.sg.length<=1000
structure RV.good(v:RV):Prop where
 n:cw v.n=true
 c1:1<=v.c
 c9:v.c<=9
 o1:cw v.o1=true
 o2:cw v.o2=true
 sg:gp v.sg=true
 t0:0<=v.t
 t7:v.t<=7
theorem RV.good.small{v:RV}(g:v.good):v.small:=⟨by have:=gM g.n;omega,by have:=gM g.o1;omega,by have:=gM g.o2;omega,by have:=uM g.sg;omega⟩
theorem RV.good.ok{v:RV}(g:v.good):∀k,Cr k v
 |0=>⟨⟨fun r hr=>by rw[show r=v.n by simpa using hr];exact g.n,g.c1,g.c9⟩,g.sg⟩
 |1=>⟨fun r hr=>by rcases(show r=v.n\/r=v.o1\/r=v.o2 by simpa using hr) with rfl | rfl | rfl<;>first | exact g.n | exact g.o1 | exact g.o2,g.c1,g.c9⟩
 |2=>⟨fun r hr=>by rcases(show r=v.n\/r=v.o1\/r=v.o2 by simpa using hr) with rfl | rfl | rfl<;>first | exact g.n | exact g.o1 | exact g.o2,g.c1,g.c9⟩
 |_+3=>⟨⟨fun r hr=>by rcases(show r=v.n\/r=v.o1 by simpa using hr) with rfl | rfl<;>first | exact g.n | exact g.o1,g.c1,g.c9⟩,g.t0,g.t7⟩
noncomputable def gj(R:RC)(H:Hp)(k:Nat)(a:Addr)(v:RV):Prop:=∃dx l,H a=some (.ins (R.at k) dx (pM k l v))/\H l=some (.lst (aW (aJ k v)))
theorem gj.up{R:RC}{H H':Hp}{k:Nat}{a:Addr}{v:RV}(r:gj R H k a v)(s:ax H H'):gj R H' k a v:=by
 obtain⟨dx,l,h1,h2⟩:=r;exact⟨dx,l,s _ _ h1,s _ _ h2⟩
structure oO(K:W.Frag)(R:RC):Prop where
 i0:fK K R.cc
 i1:fK K R.cb
 i2:fK K R.ca
 i3:fK K R.ct
 a0:al K R.cc "name"/\al K R.cc "cost"/\al K R.cc "part_names"/\al K R.cc "sign"
 a1:al K R.cb "name"/\al K R.cb "cost"/\al K R.cb "part_names"/\al K R.cb "one"/\al K R.cb "other"
 a2:al K R.ca "name"/\al K R.ca "cost"/\al K R.ca "part_names"/\al K R.ca "one"/\al K R.ca "other"
 a3:al K R.ct "name"/\al K R.ct "cost"/\al K R.ct "part_names"/\al K R.ct "part"/\al K R.ct "turning"
 r0:W.kitOne K (.ref R.cc) (.ref R.rr)=some true
 r1:W.kitOne K (.ref R.cb) (.ref R.rr)=some true
 r2:W.kitOne K (.ref R.ca) (.ref R.rr)=some true
 r3:W.kitOne K (.ref R.ct) (.ref R.rr)=some true
 s0:W.kitOne K (.ref R.cc) (.ref R.cc)=some true
 s1:W.kitOne K (.ref R.cb) (.ref R.cb)=some true
 s2:W.kitOne K (.ref R.ca) (.ref R.ca)=some true
 s3:W.kitOne K (.ref R.ct) (.ref R.ct)=some true
theorem oO.icls{R:RC}(rk:oO K R):∀k,fK K (R.at k)
 |0=>rk.i0
 |1=>rk.i1
 |2=>rk.i2
 |_+3=>rk.i3
theorem oO.name{R:RC}(rk:oO K R):∀k,al K (R.at k) "name"/\al K (R.at k) "cost"/\al K (R.at k) "part_names"
 |0=>⟨rk.a0.1,rk.a0.2.1,rk.a0.2.2.1⟩
 |1=>⟨rk.a1.1,rk.a1.2.1,rk.a1.2.2.1⟩
 |2=>⟨rk.a2.1,rk.a2.2.1,rk.a2.2.2.1⟩
 |_+3=>⟨rk.a3.1,rk.a3.2.1,rk.a3.2.2.1⟩
theorem kx(l:Addr)(v:RV):∀k,(pM k l v).lookup ("name":Str)=some (V.str (tx v.n))/\(pM k l v).lookup ("cost":Str)=some (V.int v.c)/\(pM k l v).lookup ("part_names":Str)=some (V.ref l)/\(pM k l v).lookup ("parts":Str)=none/\(pM k l v).lookup ("told":Str)=none
 |0=>⟨rfl,rfl,rfl,rfl,rfl⟩
 |1=>⟨rfl,rfl,rfl,rfl,rfl⟩
 |2=>⟨rfl,rfl,rfl,rfl,rfl⟩
 |_+3=>⟨rfl,rfl,rfl,rfl,rfl⟩
theorem hJ{H1 H2:Hp}{x dx:Addr}{o o':HO}(hx:H1 x=none)(hd:H1 dx=none)(s:aZ x (ar (ar H1 dx o) x o') H2):ax H1 H2:=
 fun b u e=>s b u (au e hx) (by rw[ah (au e hx),ah (au e hd)];exact e)
theorem yd{CX:iz}{k:Nat}{m:Str}{C0 C1 C2 C3:Addr}{s0 s1 s2 s3:Sp}(h0:∃ps,d_ P w K mg base CX k C0 m ps s0)(h1:∃ps,d_ P w K mg base CX k C1 m ps s1)(h2:∃ps,d_ P w K mg base CX k C2 m ps s2)(h3:∃ps,d_ P w K mg base CX k C3 m ps s3) :
  qi P w K mg base CX k m [(C0,s0),(C1,s1),(C2,s2),(C3,s3)]:=⟨fun o ho=>by
 simp only[C9,List.not_mem_nil,or_false]at ho;rcases ho with rfl | rfl | rfl | rfl
 ·exact h0
 ·exact h1
 ·exact h2
 ·exact h3⟩
noncomputable def kX(K:W.Frag)(R:RC):List (Addr×Sp):=[(R.cc,bA K),(R.cb,bA K),(R.ca,bA K),(R.ct,bA K)]
theorem uC{R:RC}{H:Hp}{k a}{v:RV}{Q:VK}{E:XK}(rk:oO K R)(r:gj R H k a v)(q:qh H (aJ k v) Q) :
  ∃o∈kX K R,∃dx fs,H a=some (.ins o.1 dx fs)/\fs.lookup ("parts":Str)=none/\o.2 [.ref a] H Q E:=by
 obtain⟨dx,l,h1,h2⟩:=r;have key:bA K [.ref a] H Q E:=⟨a,R.at k,dx,l,_,_,rfl,h1,(rk.icls k).cl,(rk.name k).2.2,(kx l v k).2.2.1,h2,q⟩;have mem:(R.at k,bA K)∈kX K R:=by
  unfold kX
  match k with
  |0=>simp[RC.at]
  |1=>simp[RC.at]
  |2=>simp[RC.at]
  |_+3=>simp[RC.at]
 exact⟨_,mem,dx,_,h1,(kx l v k).2.2.2.1,key⟩
noncomputable abbrev gx:Stmt:=lW 40
noncomputable abbrev lK:Str:="abcdefghijklmnopqrstuvwxyz"
noncomputable def c7(r:List Nat):Bool:=decide (1<=r.length)&&decide (r.length<=4)&&eV r lK&&decide ((met (b8 (tx r))).length=r.length)
noncomputable def jq:Sp:=fun vs H Q _=>∃(r:List Nat),vs=[.str (tx r)]/\r.length<=1000/\∀H',ax H H'->Q (.bl (c7 r)) H'
theorem nL:av ["text"] ["text"] (ai gx):=by walk_at "c"
theorem n_{f:Addr}{fd:FuncData}{t1 t2:Tok}(F:di K "are_signs" "are_signs" gx f fd)(nb:NB mg)(m_MOST_SIGNS:mg "MOST_SIGNS"=some (.int 4 t1))(m_SMALLS:mg "SMALLS"=some (.str "abcdefghijklmnopqrstuvwxyz" t2))(c_only_of:gW P w K mg base bY 1 "only_of" ["text","letters"] ft):aO P w K mg base bY 2 f fd ["text"] jq:=by
 have sc:=nL;walk_at "f"
 ·obtain⟨r,rfl,_⟩:=h;rfl
 ·obtain⟨r,rfl,hr',q⟩:=h
  refine⟨_,(aj (aA (iO (pB (aN.m0 sD) (aN.m0 sD) ae (aQ cR rfl nb.len dn (aa (ak 0) ad)) (cV (v:=.int 4) rfl m_MOST_SIGNS ⟨_,rfl⟩)) (iO (aI c_only_of (hr.mono (by decide)) rfl bo (aa (ak 0) (aa (cV (v:=.str "abcdefghijklmnopqrstuvwxyz") rfl m_SMALLS ⟨_,rfl⟩) ad))) (k8 (ku eR (tX rfl (ak 0) rfl nb.len rfl nb.set) (aQ cR rfl nb.len dn (aa (ak 0) ad)) (aS _))))))),?_⟩;walk_at "wp";refine⟨by rw[aY];exact am (by omega),?_⟩;rw[aY];unfold c7 at q
  by_cases h1:1<=r.length
  ·rw[if_pos (by omega)]
   by_cases h2:r.length<=4
   ·rw[if_pos (by omega)]
    refine⟨r,_,rfl,by omega,fun H' sm=>⟨_,rfl,?_⟩⟩;have z:=q H' sm;rw[decide_eq_true h1,decide_eq_true h2]at z;cases ho:eV r lK with
    |false=>
     rw[ho]at z;rw[if_neg (by simp)];exact z
    |true=>
     rw[ho]at z;rw[if_pos rfl];refine⟨by rw[Ah];unfold scanBound;omega,by exact am (by omega),?_⟩;have e:decide (((met (b8 (tx r))).length:Int)=(r.length:Int))=decide ((met (b8 (tx r))).length=r.length):=by
      apply decide_eq_decide.mpr
      constructor<;>intro h<;>omega
     rw[e];exact z
   ·rw[if_neg (by omega)]
    have z:=q H (fun _ _ e=>e);rw[decide_eq_true h1,decide_eq_false h2]at z;exact z
  ·rw[if_neg (by omega)]
   have z:=q H (fun _ _ e=>e);rw[decide_eq_false h1]at z;exact z
noncomputable def za(y:Str×List Int):List V:=.str y.1::y.2.map V.int
theorem wN{α:Type}{l:List α}{i:Nat}{x:α}(h:l[i]?=some x):l.drop i=x::l.drop (i+1):=by
 obtain⟨hi,e⟩:=CM.mp h;rw[List.drop_eq_getElem_cons hi,e]
noncomputable def qU(C:Addr)(H:Hp)(y:Str×List Int)(E:XK):Prop:=∀(t d:Addr) (H':Hp),ax H H'->H' t=some (.tup (za y))->H' d=some (.xd [("why",.ref t)])->E (.ref C) (some d) H'
theorem qU.made{C:Addr}{H H':Hp}{y:Str×List Int}{E:XK}(b:qU C H y E)(sm:ax H H'){p d:Addr}(hp:H' p=none)(hd:ar H' p (.tup (za y)) d=none):E (.ref C) (some d) (ar (ar H' p (.tup (za y))) d (.xd [("why",.ref p)])):=by
 have hdp:p≠d:=fun x=>by rw[<- x,ac]at hd;cases hd
 exact b p d _ ((sm.trans (af hp)).trans (af hd)) (by rw[ah hdp,ac]) ac
structure yb(K:W.Frag)(R:RC):Prop where
 kit:∀i j,i<4->j<4->W.kitOne K (.ref (R.at i)) (.ref (R.at j))=some (decide (i=j))
noncomputable abbrev g_:Stmt:=fG 5 0
theorem u4:av ["self","why"] ["self","why"] (ai g_):=by walk_at "c"
theorem wk{f C:Addr}{fd:FuncData}(F:di K "__init__" "NoGrammar.__init__" g_ f fd)(xs:W.XSt K C "why"):aO P w K mg base bY 1 f fd ["self","why"] (kj C "why"):=by
 have sc:=u4;walk_at "f"
 ·obtain⟨a,v,rfl,_⟩:=h;rfl
 ·obtain⟨a,v,rfl,ha,q⟩:=h
  refine⟨_,(aj (wY (pv 0) (pv 1) rfl)),?_⟩;walk_at "wp";exact⟨C,ha,xs,fun d hd=>q d hd⟩
noncomputable abbrev zI(z x:Str):Bool:=!(Builtin.Str.occurrences z x 0 z.length 1).isEmpty
noncomputable def d8(sg:Str):List (Nat×RV)->Nat->Option Nat
 | [],_=>none
 |r::rs,j=>if r.1=0/\zI sg (tx r.2.sg)=false then some j else d8 sg rs (j+1)
noncomputable def fH(sg st:List Nat)(rs:List (Nat×RV)):Option (Str×List Int):=
 if c7 sg=false then some ("signs",[]) else if cw st=false then some ("start",[]) else if 24<rs.length then some ("rules",[(rs.length:Int)]) else
  match d8 (tx sg) rs 0 with
  |some k=>some ("sign",[(k:Int)])
  |none=>none
noncomputable abbrev dm:Stmt:=lW 39
noncomputable def bE(R:RC)(H:Hp)(as:List Addr)(rs:List (Nat×RV)):Prop:=as.length=rs.length/\∀(i:Nat) a r,as[i]?=some a->rs[i]?=some r->gj R H r.1 a r.2
theorem bE.up{R:RC}{H H':Hp}{as:List Addr}{rs:List (Nat×RV)}(h:bE R H as rs)(s:ax H H'):bE R H' as rs:=⟨h.1,fun i a r e1 e2=>(h.2 i a r e1 e2).up s⟩
noncomputable def eO(R:RC)(C:Addr):Sp:=fun vs H Q E=>∃(sg st:List Nat) (a:Addr) (as:List Addr) (rs:List (Nat×RV)),vs=[.str (tx sg),.str (tx st),.ref a]/\sg.length<=1000/\st.length<=1000/\H a=some (.lst (as.map V.ref))/\bE R H as rs/\(∀r∈rs,r.1<4)/\rs.length<=100 /\
 (fH sg st rs=none->∀H',ax H H'->Q .non H')/\∀y,fH sg st rs=some y->qU C H y E
theorem jN:av ["signs","start","rules","k","rule"] ["signs","start","rules"] (ai dm):=by walk_at "c"
theorem jH{R:RC}{f zba:Addr}{fd:FuncData}{t1:Tok}(F:di K "check_made_of" "check_made_of" dm f fd)(nb:NB mg)(rk:oO K R)(rk4:yb K R)(m_MOST_RULES:mg "MOST_RULES"=some (.int 24 t1))(zkb:mg "CellRule"=some (.ref R.cc))
  (zua:mg "NoGrammar"=some (.ref zba)) (zma:XI P w K mg base 1 zba "why") (c_are_signs:gW P w K mg base bY 2 "are_signs" ["text"] jq) (c_is_name:gW P w K mg base bY 2 "is_name" ["text"] i5):aO P w K mg base (bZ P w) 3 f fd ["signs","start","rules"] (eO R zba):=by
 have sc:=jN;walk_at "x"
 ·obtain⟨sg,st,a,as,rs,rfl,_⟩:=h;rfl
 ·obtain⟨sg,st,a,as,rs,rfl,hsg,hst,ha,hrs,hk4,hn,good,bad⟩:=h
  refine⟨_,(ag (bK (kE (m_ (aI (CX:=bZ P w) c_are_signs.lift (hr.mono (by decide)) rfl bd (aa (ak 0) ad)) fun _=>rfl))
   (aj (eZ zma (hr.mono (by decide)) rfl rfl zua (e7 fun _ _ _ h=>h) (aa (aE (bc ad)) ad)))
   aM)
   (ag (bK (kE (m_ (aI (CX:=bZ P w) c_is_name.lift (hr.mono (by decide)) rfl bd (aa (ak 1) ad)) fun _=>rfl))
   (aj (eZ zma (hr.mono (by decide)) rfl rfl zua (e7 fun _ _ _ h=>h) (aa (aE (bc ad)) ad)))
   aM)
   (ag (bK (aD (aN.m0 jt) (aQ eW rfl nb.len dn (aa (ak 2) ad)) (cV (v:=.int 24) rfl m_MOST_RULES ⟨_,rfl⟩) (aS _))
   (aj (eZ zma (hr.mono (by decide)) rfl rfl zua (e7 fun _ _ _ h=>h) (aa (aE (bc (aa (aQ eW rfl nb.len dn (aa (ak 2) ad)) ad))) ad)))
   aM)
   (aj (bj PassesOwn.leaving rfl (sL rfl nb.enumerate (aa (ak 2) ad)) (nJ (n:=2) rfl (cT (aC (i:=3) sc.nd rfl (Or.inl rfl)) (cT (aC (i:=4) sc.nd rfl (Or.inl rfl)) ky)))
   (aj (bK (PW.pt (qT (m_ (aQ cA rfl nb.isinstance bX (aa (ak 4) (aa (cV (v:=.ref _) rfl zkb rfl) ad))) fun _=>rfl) (nW (aD oW (bg (ak 4) rfl) (ak 0) (by with_unfolding_all rfl)))))
   (aj (eZ zma (hr.mono (by decide)) rfl rfl zua (e7 fun _ _ _ h=>h) (aa (aE (bc (aa (ak 3) ad))) ad)))
   aM))))))),?_⟩
  have tupw:∀(H':Hp) (y:Str×List Int),ax H H'->fH sg st rs=some y->∀p,H' p=none->1<=sizeLine/\∀d,ar H' p (.tup (za y)) d=none->E (.ref zba) (some d) (ar (ar H' p (.tup (za y))) d (.xd [("why",.ref p)])):=
   fun H' y sm hy p hp=>⟨am (by omega),fun d hd=>(bad y hy).made sm hp hd⟩
  walk_at "n";refine⟨sg,rfl,hsg,fun H1 sm1=>⟨_,rfl,?_⟩⟩;unfold fH at good tupw;cases e1:c7 sg with
  |false=>
   rw[if_pos rfl];rw[if_pos e1]at tupw;exact⟨am (by omega),tupw H1 _ sm1 rfl⟩
  |true=>
  rw[if_neg (by decide)];rw[if_neg (by rw[e1];decide)]at good tupw;refine h1 _ _ ?_;clear h1;walk_at "o";refine⟨st,rfl,by omega,fun H2 sm2=>⟨_,rfl,?_⟩⟩;have sm12:=sm1.trans sm2;cases e2:cw st with
  |false=>
   rw[if_pos rfl];rw[if_pos e2]at tupw;exact⟨am (by omega),tupw H2 _ sm12 rfl⟩
  |true=>
  rw[if_neg (by decide)];rw[if_neg (by rw[e2];decide)]at good tupw;refine h2 _ _ ?_;clear h2;have ha2:=sm12 _ _ ha;have hal:(as.map V.ref).length=rs.length:=by rw[CP];exact hrs.1
  refine ao fun N3 h3=>?_;walk_at "wp";refine⟨_,bp.of ha2,?_⟩;rw[hal]
  by_cases h24:24<rs.length
  ·rw[if_pos (by omega)]
   rw[if_pos h24]at tupw;refine⟨_,bp.of ha2,am (by omega),?_⟩;rw[hal];exact tupw H2 _ sm12 rfl
  rw[if_neg (by omega)];rw[if_neg h24]at good tupw;refine h3 _ _ ?_;clear h3;walk_at "wp";refine⟨_,bp.of ha2,?_⟩;refine mL (xs:=as.map V.ref) (fun i σ H'=>ax H H'/\d8 (tx sg) (rs.drop i) i=d8 (tx sg) rs 0/\∃x y,σ=[some (.str (tx sg)),some (.str (tx st)),some (.ref a),x,y]) ⟨sm12,rfl,_,_,rfl⟩ ?_ ?_ ?_
  ·rintro i σ H' _ ⟨sm,_⟩
   exact bp.of (sm _ _ ha)
  ·rintro i x σ H3 T hx ⟨sm,hb,x1,y1,rfl⟩ hT
   have hlt:i<rs.length:=by have:=(CM.mp hx).1;rw[hal]at this;exact this
   obtain⟨ra,hra,rfl⟩:∃ra,as[i]?=some ra/\V.ref ra=x:=by
    rw[CS]at hx;cases e:as[i]? with
    |none=>rw[e]at hx;cases hx
    |some ra=>rw[e]at hx;exact⟨ra,rfl,Option.some.inj hx⟩
   have hrr:rs[i]?=some rs[i]:=mk hlt;have hr4:=hk4 _ (CZ hlt);generalize rs[i]=r at hrr hr4;rw[wN hrr]at hb;have smT:ax H (ar H3 T (.tup [V.int (i:Int),V.ref ra])):=sm.trans (af hT);have eT:ar H3 T (.tup [V.int (i:Int),V.ref ra]) T=some (.tup [V.int (i:Int),V.ref ra]):=ac;generalize ar H3 T (.tup [V.int (i:Int),V.ref ra])=H4 at smT eT ⊢;have rr:=(hrs.2 i ra r hra hrr).up smT;obtain⟨dx,pl,hra4,_⟩:=id rr;walk_at "wp";refine⟨_,bv.of eT,rfl,_,_,rfl,_,_,rfl,rfl,?_⟩;refine⟨_,(rk.icls r.1).ty hra4,_,rk4.kit r.1 0 hr4 (by decide),?_⟩;have hb':(if r.1=0/\zI (tx sg) (tx r.2.sg)=false then some i else d8 (tx sg) (rs.drop (i+1)) (i+1))=d8 (tx sg) rs 0:=hb
   by_cases e0:r.1=0
   ·rw[if_pos (by simp[e0])]
    obtain⟨r0,v⟩:=r;have e0':r0=0:=e0;subst e0';refine⟨ra,rfl,_,_,_,hra4,rk.i0.cl,rk.a0.2.2.2,_,rfl,_,rfl,?_⟩;cases hin:zI (tx sg) (tx v.sg) with
    |false=>
     rw[if_pos hin];rw[if_pos ⟨rfl,hin⟩]at hb';rw[<- hb']at tupw;exact⟨am (by omega),tupw H4 _ smT rfl⟩
    |true=>
     rw[if_neg (by rw[show(!(Builtin.Str.occurrences (tx sg) (tx v.sg) 0 (tx sg).length 1).isEmpty)=true from hin];decide)];rw[if_neg (fun z=>by rw[hin]at z;exact absurd z.2 (by decide))]at hb';exact⟨smT,hb'⟩
   ·rw[if_neg (by simp[e0])]
    rw[if_neg (fun z=>e0 z.1)]at hb';exact⟨smT,hb'⟩
  ·rintro σ H' ⟨sm,hb,x,y,rfl⟩
   walk_at "wp";rw[hal,List.drop_of_length_le (Dg _)]at hb;refine good ?_ H' sm;rw[<- hb];rfl
noncomputable def fN(m:List (Str×List Nat))(z:Str)(i:Nat):List (Str×List Nat):=m.map fun q=>if q.1=z then(q.1,q.2++[i]) else q
structure nF(H0:Hp)(p:Addr)(t:NT)(H:Hp):Prop where
 same:ax H0 H
 at_:b7 H p t
 fresh:∀x∈t,H0 x.2.1=none
 nodup:((f' t).map (·.1)).Nodup
theorem lL(t:NT):(f' t).length=t.length:=by unfold f';rw[CP]
theorem l0(m:List (Str×List Nat))(z:Str):(bb m z).length<=m.length+1:=by
 unfold bb;split
 ·omega
 ·rw[Df];simp
theorem fg(m:List (Str×List Nat))(z:Str)(i:Nat):(fN m z i).map (·.1)=m.map (·.1):=by
 unfold fN;rw[C8]
 apply List.map_congr_left;intro q _;simp only[Function.comp]
 split<;>rfl
theorem uU{m:List (Str×List Nat)}{j i:Nat}{q:Str×List Nat}(nd:(m.map (·.1)).Nodup)(hj:m[j]?=some q):m.set j (q.1,q.2++[i])=fN m q.1 i:=by
 unfold fN;apply List.ext_getElem?;intro k;rw[CS,List.getElem?_set];have hlt:j<m.length:=(CM.mp hj).1
 by_cases e:j=k
 ·subst e
  rw[if_pos rfl,if_pos hlt,hj];simp
 ·rw[if_neg e]
  cases hk:m[k]? with
  |none=>rfl
  |some y=>
   have hne:y.1≠q.1:=by
    intro h;have h1:(m.map (·.1))[j]?=some q.1:=by rw[CS,hj];rfl
    have h2:(m.map (·.1))[k]?=some q.1:=by rw[CS,hk];simp[h]
    exact e ((List.getElem?_inj (CM.mp h1).1 nd).mp (h1.trans h2.symm))
   simp[hne]
theorem nF.free{H0 H:Hp}{p:Addr}{t:NT}(N:nF H0 p t H){l:Addr}(h:H l=none):H0 l=none:=N.same.free h
theorem j5{te:TE}{σ:St}{H0 H:Hp}{p:Addr}{t:NT}{z:Str}{i:Nat}{Q:VK}(hp:H0 p=none)(hv:σ[i]?=some (some (.ref p)))(hte:∀R:VK,R (.str z) H->te σ H R)(N:nF H0 p t H)(hn:t.length<sizeLine)
  (h:∀(H':Hp) (t':NT) (j:Nat) (x:Str×Addr×List Nat),nF H0 p t' H'->t'[j]?=some x->x.1=z->f' t'=bb (f' t) z->t'.length<=t.length+1->(∀a o,a≠p->H a=some o->H' a=some o)->Q (.ref x.2.1) H'):qf (wa i) te (xQ uH) σ H Q:=by
 refine⟨.ref p,hv,p,rfl,.inl ⟨_,.inl N.at_.dict⟩,hte _ ⟨Dh _,fun l hl=>?_⟩⟩;have hl0:=N.free hl;refine N.at_.setdef hl hn fun H' t' j x N' hj hx hm hy hk=>h H' t' j x ⟨fun b o e=>hk b o (fun q=>by rw[q,hp]at e;exact nomatch e) (N.same b o e),N',fun y hyy=>?_,?_⟩ hj hx hm ?_ hk
 ·rcases hy y hyy with q | q
  ·exact N.fresh y q
  ·rw[q];exact hl0
 ·rw[hm];exact jm N.nodup
 ·have:=l0 (f' t) z
  rw[<- hm,lL,lL]at this;exact this
theorem nF.put{H0 H:Hp}{p:Addr}{t:NT}{j k:Nat}{x:Str×Addr×List Nat}(N:nF H0 p t H)(hj:t[j]?=some x) :
  nF H0 p (t.set j (x.1,x.2.1,x.2.2++[k])) (ar H x.2.1 (.lst (qF (x.2.2++[k]))))/\f' (t.set j (x.1,x.2.1,x.2.2++[k]))=fN (f' t) x.1 k:=by
 have hm:=CU hj;have e:f' (t.set j (x.1,x.2.1,x.2.2++[k]))=fN (f' t) x.1 k:=by
  rw[xP];exact uU (q:=(x.1,x.2.2)) N.nodup (by unfold f';rw[CS,hj];rfl)
 refine⟨⟨gP N.same (N.fresh x hm),N.at_.put hj,fun y hy=>?_,?_⟩,e⟩
 ·rcases List.mem_or_eq_of_mem_set hy with q | q
  ·exact N.fresh y q
  ·rw[q];exact N.fresh x hm
 ·rw[e,fg];exact N.nodup
noncomputable abbrev cU:Stmt:=lW 41
theorem iR:av ["start","rules","numbers","k","rule","part"] ["start","rules"] (ai cU):=by walk_at "c"
noncomputable def c_(m:List (Str×List Nat))(i:Nat)(r:Nat×RV):List (Str×List Nat):=((aJ r.1 r.2).map tx).foldl bb (fN (bb m (tx r.2.n)) (tx r.2.n) i)
noncomputable def dR:Nat->List (Nat×RV)->List (Str×List Nat)->List (Str×List Nat)
 |_,[],m=>m
 |i,r::rs,m=>dR (i+1) rs (c_ m i r)
theorem iK{m:List (Str×List Nat)}{z:Str}{n:Nat}(h:∀q∈m,q.2.length<=n):∀q∈bb m z,q.2.length<=n:=by
 unfold bb;split
 ·exact h
 ·intro q hq
  rcases C7.mp hq with z1 | z1
  ·exact h q z1
  ·rw[CQ.mp z1];exact Dh _
theorem j7:∀{zs:List Str} {m:List (Str×List Nat)} {n:Nat},(∀q∈m,q.2.length<=n)->∀q∈zs.foldl bb m,q.2.length<=n
 | [],_,_,h=>h
 |z::zs,_,_,h=>j7 (zs:=zs) (iK h)
theorem pz{m:List (Str×List Nat)}{i n:Nat}{r:Nat×RV}(h:∀q∈m,q.2.length<=n):∀q∈c_ m i r,q.2.length<=n+1:=by
 unfold c_;refine j7 fun q hq=>?_;unfold fN at hq;obtain⟨q0,hq0,rfl⟩:=Dy.mp hq;have:=iK h q0 hq0
 split
 ·rw[Df];simp;exact this
 ·omega
theorem lI:∀{rs:List (Nat×RV)} {i n:Nat} {m:List (Str×List Nat)},(∀q∈m,q.2.length<=n)->∀q∈dR i rs m,q.2.length<=n+rs.length
 | [],_,_,_,h=>h
 |r::rs,i,n,m,h=>fun q hq=>by
  have:=lI (rs:=rs) (i:=i+1) (pz (i:=i) (r:=r) h) q hq;rw[C5];omega
theorem dZ:∀{rs:List (Nat×RV)} {i:Nat} {m:List (Str×List Nat)} {r:Nat×RV},dR i (rs++[r]) m=c_ (dR i rs m) (i+rs.length) r
 | [],i,m,r=>rfl
 |r0::rs,i,m,r=>by
  show dR (i+1) (rs++[r]) (c_ m i r0)=c_ (dR (i+1) rs (c_ m i r0)) (i+(rs.length+1)) r;rw[dZ,show i+1+rs.length=i+(rs.length+1) by omega]
theorem qL(k:Nat)(v:RV):(aJ k v).length<=2:=by
 match k with
 |0=>simp[aJ]
 |1=>simp[aJ]
 |2=>simp[aJ]
 |_+3=>simp[aJ]
noncomputable def aB(z:Str)(rs:List (Nat×RV)):List (Str×List Nat):=dR 0 rs [(z,[])]
noncomputable def dF(K:W.Frag)(R:RC):Sp:=fun vs H Q _=>∃(z:Str) (a:Addr) (as:List Addr) (rs:List (Nat×RV)),vs=[.str z,.ref a]/\H a=some (.lst (as.map V.ref))/\bE R H as rs/\rs.length<=100 /\
 ∀p H' t,H p=none->b7 H' p t->f' t=aB z rs->(∀x∈t,H x.2.1=none)->ax H H'->Q (.ref p) H'
theorem iT{R:RC}{f:Addr}{fd:FuncData}(F:di K "numbers_by_name" "numbers_by_name" cU f fd)(nb:NB mg)(rk:oO K R)(cp_parts:qi P w K mg base bY 1 "parts" (kX K R)):aO P w K mg base bY 2 f fd ["start","rules"] (dF K R):=by
 have sc:=iR;walk_at "f"
 ·obtain⟨r,a,_,_,rfl,_⟩:=h;rfl
 ·obtain⟨z,a,as,rs,rfl,ha,hrs,hn,q⟩:=h
  refine⟨_,(ag (ay (i:=2) sc.nd rfl (Or.inl rfl) (xU (v8 (pv 0) (bJ ad) xG) rfl rfl (by simp) (by decide)))
   (ag (bj PassesOwn.never rfl (sL rfl nb.enumerate (aa (pv 1) ad)) (nJ (n:=2) rfl (cT (aC (i:=3) sc.nd rfl (Or.inl rfl)) (cT (aC (i:=4) sc.nd rfl (Or.inl rfl)) ky)))
   (ag (cQ (mR PySem.F.plainAttrs_list PySem.F.slot_list_append PySem.F.type_list_append gN (kQ (pv 2) (bg (pv 4) rfl) (bJ ad) ⟨rfl,rfl,rfl,rfl⟩) (aa (pv 3) ad)))
   (aj (bj PassesOwn.never rfl (cB (wM cp_parts (hr.mono (by decide)) bo (pv 4))) (aC (i:=5) sc.nd rfl (Or.inl rfl))
   (aj (cQ (kQ (pv 2) (pv 5) (bJ ad) ⟨rfl,rfl,rfl,rfl⟩)))))))
   (aj (aA (pv 2))))),?_⟩
  walk_at "wp";intro p hp;refine⟨Dh _,fun l hl=>?_⟩;have hlp:l≠p:=fun e=>by rw[e,ac]at hl;exact nomatch hl
  have hl0:H l=none:=by rw[ah hlp]at hl;exact hl
  have hap:a≠p:=fun e=>by rw[e,hp]at ha;exact nomatch ha
  have hal:a≠l:=fun e=>by rw[e,hl0]at ha;exact nomatch ha
  refine⟨by rw[ah (Ne.symm hlp),ac],[(.inr z,.ref l)],rfl,by simp,as.map V.ref,bp.of (by rw[ah hap,ah hal,ah hap];exact ha),?_⟩;refine mL (xs:=as.map V.ref) (fun i σ H'=>ax H H'/\∃t,b7 H' p t/\(∀x∈t,H x.2.1=none)/\((f' t).map (·.1)).Nodup/\f' t=dR 0 (rs.take i) [(z,[])]/\t.length<=1+3*i/\∃x y u,σ=[some (.str z),some (.ref a),some (.ref p),x,y,u]) ?_ ?_ ?_ ?_
  ·refine⟨fun b o e=>?_,[(z,l,[])],⟨by rw[ac];rfl,fun x hx=>?_,by simp⟩,fun x hx=>?_,by simp[f'],rfl,by simp,_,_,_,rfl⟩
   ·have h1:b≠p:=fun q=>by rw[q,hp]at e;exact nomatch e
    have h2:b≠l:=fun q=>by rw[q,hl0]at e;exact nomatch e
    rw[ah h1,ah h2,ah h1];exact e
   ·rw[CQ.mp hx,ah hlp,ac];rfl
   ·rw[CQ.mp hx];exact hl0
  ·rintro i σ H' _ ⟨sm,_⟩
   exact bp.of (sm _ _ ha)
  ·rintro i x σ H1 T hx ⟨sm,t,N,fr,nd,em,hlen,x1,y1,u1,rfl⟩ hT
   have hlt:i<rs.length:=by have:=(CM.mp hx).1;rw[CP,hrs.1]at this;exact this
   obtain⟨ra,hra,rfl⟩:∃ra,as[i]?=some ra/\V.ref ra=x:=by
    rw[CS]at hx;cases e:as[i]? with
    |none=>rw[e]at hx;cases hx
    |some ra=>rw[e]at hx;exact⟨ra,rfl,Option.some.inj hx⟩
   have hrr:rs[i]?=some rs[i]:=mk hlt;generalize rs[i]=r at hrr;have rr:=hrs.2 i ra r hra hrr;have smT:ax H (ar H1 T (.tup [V.int (i:Int),V.ref ra])):=sm.trans (af hT);have gT:∀b o,H1 b=some o->ar H1 T (.tup [V.int (i:Int),V.ref ra]) b=some o:=af hT;have eT:bv K (ar H1 T (.tup [V.int (i:Int),V.ref ra])) T [V.int (i:Int),V.ref ra]:=bv.of ac;have N2:=N.grow gT;generalize ar H1 T (.tup [V.int (i:Int),V.ref ra])=H2 at smT gT eT N2 ⊢;clear gT N hT sm H1;simp only[vK,tm,j1,xg];refine⟨_,_,rfl,eT,rfl,_,_,rfl,_,_,rfl,rfl,?_⟩;refine ao fun N1 h1=>?_;have rr2:=rr.up smT;have NI:nF H p t H2:=⟨smT,N2,fr,nd⟩;have hz:sizeLine>1000:=bh (by decide);obtain⟨dx,pl,hra2,_⟩:=id rr2;walk_at "wp";refine j5 (z:=tx r.2.n) hp rfl (fun S hS=>⟨_,rfl,ra,_,dx,_,_,rfl,hra2,(rk.icls r.1).cl,(rk.name r.1).1,(kx pl r.2 r.1).1,hS⟩) NI (by omega) fun H3 t3 j x N3 hj hx hm hl3 hk=>?_;have hxl:=N3.at_.list x (CU hj);refine⟨.inl ⟨rfl,_,bp.of hxl⟩,_,rfl,_,hxl,?_,h1 _ _ ?_⟩
   ·have h2:(x.1,x.2.2)∈bb (f' t) (tx r.2.n):=by rw[<- hm];exact Dy.mpr ⟨x,CU hj,rfl⟩
    have h3:=iK (lI (rs:=rs.take i) (i:=0) (n:=0) (m:=[(z,[])]) (fun q hq=>by rw[CQ.mp hq];exact Dh _)) (z:=tx r.2.n) (x.1,x.2.2) (by rw[<- em];exact h2);rw[Du]at h3;unfold qF;rw[CP];have h4:x.2.2.length<=100:=by simp at h3;omega
    omega
   clear h1;obtain⟨N4,hm4⟩:=N3.put (k:=i) hj;have hl4:(t3.set j (x.1,x.2.1,x.2.2++[i])).length<=t.length+1:=by rw[List.length_set];exact hl3
   have hm4:f' (t3.set j (x.1,x.2.1,x.2.2++[i]))=fN (bb (f' t) (tx r.2.n)) (tx r.2.n) i:=by rw[hm4,hm,hx]
   have eI:qF (x.2.2++[i])=qF x.2.2++[V.int (i:Int)]:=by unfold qF;rw[C6];rfl
   rw[eI]at N4;generalize t3.set j (x.1,x.2.1,x.2.2++[i])=t4 at N4 hm4 hl4;generalize ar H3 x.2.1 (.lst (qF x.2.2++[V.int (i:Int)]))=H4 at N4 ⊢;clear hk hxl hj N3 hm hl3 hx NI N2 hra2 rr2;have rr4:=rr.up N4.same;have hpk:=qL r.1 r.2;walk_at "wp";refine uC rk rr4 fun lp H5 hlp hH5 sm5=>⟨lp,rfl,⟨_,bp.of hH5⟩,?_⟩;have hpp:lp≠p:=fun e=>by rw[e,N4.at_.dict]at hlp;exact nomatch hlp
   refine cH (xs:=aW (aJ r.1 r.2)) (fun n σ H'=>n<=(aJ r.1 r.2).length/\∃t',nF H p t' H'/\f' t'=(((aJ r.1 r.2).take n).map tx).foldl bb (fN (bb (f' t) (tx r.2.n)) (tx r.2.n) i)/\t'.length<=t.length+1+n/\H' lp=some (.lst (aW (aJ r.1 r.2)))/\∃u,σ=[some (.str z),some (.ref a),some (.ref p),some (.int (i:Int)),some (.ref ra),u])
    ⟨Dh _,t4,⟨N4.same.trans sm5,N4.at_.grow sm5,N4.fresh,N4.nodup⟩,hm4,hl4,hH5,_,rfl⟩ ?_ ?_ ?_
   ·rintro n σ H' _ ⟨_,t',_,_,_,hH',_⟩
    exact bp.of hH'
   ·rintro n v σ H' hv ⟨hn1,t',N',hm',hl',hH',u,rfl⟩
    have hnl:n<(aJ r.1 r.2).length:=by have:=(CM.mp hv).1;rwa [bP]at this
    rw[jI hnl]at hv;cases hv;walk_at "wp";refine j5 (z:=tx (aJ r.1 r.2)[n]) hp rfl (fun S hS=>⟨_,rfl,hS⟩) N' (by omega) fun H6 t6 j x N6 hj hx hm6 hl6 hk=>?_;refine⟨hnl,t6,N6,?_,by omega,hk _ _ hpp hH'⟩;rw[hm6,hm',List.take_add_one,mk hnl,C6,List.foldl_append]
    rfl
   ·rintro σ H' ⟨_,t',N',hm',hl',hH',u,rfl⟩
    rw[bP,Ds]at hm';refine⟨N'.same,t',N'.at_,N'.fresh,N'.nodup,?_,?_,_,_,_,rfl⟩
    ·rw[hm',List.take_add_one,hrr,em]
     show _=dR 0 (rs.take i++[r]) _;rw[dZ,Du,DF (Nat.le_of_lt hlt),Nat.zero_add]
     rfl
    ·rw[bP]at hl';omega
  ·rintro σ H' ⟨sm,t,N,fr,_,em,_,x,y,u,rfl⟩
   walk_at "wp";refine q p H' t hp N ?_ fr sm;rw[em,CP,hrs.1,Ds];rfl
noncomputable def fk(sg st:List Nat)(rs:List (Nat×RV)):Option (Str×List Int):=
 match fH sg st rs with
 |some y=>some y
 |none=>if 8<(aB (tx st) rs).length then some ("names",[((aB (tx st) rs).length:Int)]) else none
noncomputable def eN(sg st:List Nat)(lk pn:Addr):List (Str×V):=[("signs",.str (tx sg)),("start",.str (tx st)),("kept",.ref lk),("numbers",.ref pn)]
noncomputable def e_(R:RC)(H:Hp)(C dx a:Addr)(sg st:List Nat)(as:List Addr)(rs:List (Nat×RV)):Prop:=
 ∃lk pn t,H a=some (.ins C dx (eN sg st lk pn))/\H lk=some (.lst (as.map V.ref))/\bE R H as rs/\b7 H pn t/\f' t=aB (tx st) rs
noncomputable def nI(R:RC)(H:Hp)(C dx a:Addr)(sg st:List Nat)(as:List Addr)(rs:List (Nat×RV))(lk pn:Addr)(t:NT):Prop:=
 H a=some (.ins C dx (eN sg st lk pn))/\H lk=some (.lst (as.map V.ref))/\bE R H as rs/\b7 H pn t/\f' t=aB (tx st) rs
theorem nI.f{R:RC}{H:Hp}{C dx a:Addr}{sg st:List Nat}{as:List Addr}{rs:List (Nat×RV)}{lk pn:Addr}{t:NT}(g:nI R H C dx a sg st as rs lk pn t):e_ R H C dx a sg st as rs:=⟨lk,pn,t,g⟩
theorem e_.up{R:RC}{H H':Hp}{C dx a:Addr}{sg st:List Nat}{as:List Addr}{rs:List (Nat×RV)}(g:e_ R H C dx a sg st as rs)(s:ax H H'):e_ R H' C dx a sg st as rs:=by
 obtain⟨lk,pn,t,h1,h2,h3,h4,h5⟩:=g;exact⟨lk,pn,t,s _ _ h1,s _ _ h2,h3.up s,h4.grow s,h5⟩
noncomputable def xJ(a C:Addr)(H:Hp)(y:Str×List Int)(E:XK):Prop:=∀(t d:Addr) (H':Hp),aZ a H H'->H' t=some (.tup (za y))->H' d=some (.xd [("why",.ref t)])->E (.ref C) (some d) H'
theorem xC(k:Nat)(l:Addr)(v:RV):pM k l v≠[]:=fun e=>by
 have:=(kx l v k).1;rw[e]at this;exact nomatch this
theorem bE.upX{R:RC}{H H':Hp}{a C dx:Addr}{as:List Addr}{rs:List (Nat×RV)}(h:bE R H as rs)(ha:H a=some (.ins C dx []))(s:aZ a H H'):bE R H' as rs:=by
 refine⟨h.1,fun i b r e1 e2=>?_⟩;obtain⟨d,l,h1,h2⟩:=h.2 i b r e1 e2;refine⟨d,l,s _ _ (fun e=>?_) h1,s _ _ (fun e=>?_) h2⟩
 ·rw[e,ha]at h1
  have:=Option.some.inj h1;exact absurd (HO.ins.inj this).2.2.symm (xC _ _ _)
 ·rw[e,ha]at h2;cases h2
noncomputable abbrev cK:Stmt:=fG 38 0
noncomputable def fD(K:W.Frag)(R:RC)(CF:Addr):Sp:=fun vs H Q E=>∃(a C dx l:Addr) (sg st:List Nat) (as:List Addr) (rs:List (Nat×RV)),vs=[.ref a,.str (tx sg),.str (tx st),.ref l]/\H a=some (.ins C dx [])/\j' K C/\(al K C "signs"/\al K C "start"/\al K C "kept"/\al K C "numbers") /\
 sg.length<=1000/\st.length<=1000/\H l=some (.lst (as.map V.ref))/\bE R H as rs/\(∀r∈rs,r.1<4)/\rs.length<=100 /\
 (fk sg st rs=none->∀H' lk pn t,aZ a H H'->nI R H' C dx a sg st as rs lk pn t->H lk=none->H pn=none->(∀x∈t,H x.2.1=none)->Q .non H')/\∀y,fk sg st rs=some y->xJ a CF H y E
theorem o9:av ["self","signs","start","rules"] ["self","signs","start","rules"] (ai cK):=by walk_at "c"
theorem pi{R:RC}{f zba:Addr}{fd:FuncData}{t1:Tok}(F:di K "__init__" "Grammar.__init__" cK f fd)(nb:NB mg)(m_MOST_NAMES:mg "MOST_NAMES"=some (.int 8 t1))
  (zua:mg "NoGrammar"=some (.ref zba)) (zma:XI P w K mg base 1 zba "why") (c_check_made_of:gW P w K mg base (bZ P w) 3 "check_made_of" ["signs","start","rules"] (eO R zba)) (c_numbers_by_name:gW P w K mg base bY 2 "numbers_by_name" ["start","rules"] (dF K R)) :
  aO P w K mg base (bZ P w) 4 f fd ["self","signs","start","rules"] (fD K R zba):=by
 have sc:=o9;walk_at "x"
 ·obtain⟨a,C,dx,l,sg,st,as,rs,rfl,_⟩:=h;rfl
 ·obtain⟨a,C,dx,l,sg,st,as,rs,rfl,ha,cl,⟨n1,n2,n3,n4⟩,hsg,hst,hl,hrs,hk4,hn,good,bad⟩:=h
  refine⟨_,(ag (cQ (aI (E:=E) c_check_made_of (hr.mono (by decide)) rfl (bF fun _ _ _ h=>h) (aa (ak 1) (aa (ak 2) (aa (ak 3) ad)))))
   (ag (b5 (ak 0) (ak 1) rfl)
   (ag (b5 (ak 0) (ak 2) rfl)
   (ag (b5 (ak 0) (gR fm rfl nb.list o_ (aa (ak 3) ad)) rfl)
   (ag (b5 (ak 0) (aI (CX:=bZ P w) c_numbers_by_name.lift (hr.mono (by decide)) rfl bd (aa (ak 2) (aa (ak 3) ad))) rfl)
   (aj (bK (aD (aN.m0 jt) (aQ m7 rfl nb.len dn (aa (bg (ak 0) rfl) ad)) (cV (v:=.int 8) rfl m_MOST_NAMES ⟨_,rfl⟩) (aS _))
   (aj (eZ zma (hr.mono (by decide)) rfl rfl zua (e7 fun _ _ _ h=>h) (aa (aE (bc (aa (aQ m7 rfl nb.len dn (aa (bg (ak 0) rfl) ad)) ad))) ad)))
   aM))))))),?_⟩
  walk_at "n";refine⟨sg,st,l,as,rs,rfl,hsg,hst,hl,hrs,hk4,hn,fun g0 H1 sm1=>h1 _ _ ?_,fun y hy t d H' sm ht hd=>bad y (by unfold fk;rw[hy]) t d H' (.of sm) ht hd⟩;clear h1;have ha1:=sm1 _ _ ha;have hla:l≠a:=fun e=>by rw[e,ha]at hl;cases hl
  walk_at "o";refine⟨C,dx,_,ha1,cl,n1,by simp,h2 _ _ ?_⟩;clear h2;have sx2:aZ a H (ar H1 a (.ins C dx [("signs",.str (tx sg))])):=(aZ.of sm1).put;have ea2:ar H1 a (.ins C dx [("signs",.str (tx sg))]) a=some (.ins C dx [("signs",.str (tx sg))]):=ac;show _;change tF _ _ _ _ (ar H1 a (.ins C dx [("signs",.str (tx sg))]));generalize ar H1 a (.ins C dx [("signs",.str (tx sg))])=H2 at sx2 ea2 ⊢;clear sm1 ha1;refine ao fun N3 h3=>?_;walk_at "wp";have d1:¬ (("signs":Str)="start"):=by decide +kernel
  have e3:bH "start" (V.str (tx st)) [(("signs":Str),V.str (tx sg))]=[(("signs":Str),V.str (tx sg)),(("start":Str),V.str (tx st))]:=by simp only[bH,if_neg d1]
  refine⟨C,dx,_,ea2,cl,n2,by simp,?_⟩;rw[e3];refine h3 _ _ ?_;clear h3;have sx3:aZ a H (ar H2 a (.ins C dx [(("signs":Str),V.str (tx sg)),(("start":Str),V.str (tx st))])):=sx2.put;have ea3:ar H2 a (.ins C dx [(("signs":Str),V.str (tx sg)),(("start":Str),V.str (tx st))]) a=some (.ins C dx [(("signs":Str),V.str (tx sg)),(("start":Str),V.str (tx st))]):=ac;generalize ar H2 a (.ins C dx [(("signs":Str),V.str (tx sg)),(("start":Str),V.str (tx st))])=H3 at sx3 ea3 ⊢;clear sx2 ea2;have hl3:=sx3 _ _ hla hl;refine ao fun N4 h4=>?_;walk_at "wp";refine⟨_,.inl (bp.of hl3),fun lk hlk=>?_⟩;have hka:lk≠a:=fun e=>by rw[e,ea3]at hlk;cases hlk
  have hlk0:lk≠l:=fun e=>by rw[e,hl3]at hlk;cases hlk
  have sk:ax H3 (ar H3 lk (.lst (as.map V.ref))):=af hlk;have ek:ar H3 lk (.lst (as.map V.ref)) lk=some (.lst (as.map V.ref)):=ac;have fr1:H lk=none:=by
   cases e:H lk with
   |none=>rfl
   |some u=>rw[sx3 _ _ hka e]at hlk;cases hlk
  generalize ar H3 lk (.lst (as.map V.ref))=H4 at sk ek ⊢;have d2:¬ (("signs":Str)="kept"):=by decide +kernel
  have d3:¬ (("start":Str)="kept"):=by decide +kernel
  have e4:bH "kept" (V.ref lk) [(("signs":Str),V.str (tx sg)),(("start":Str),V.str (tx st))]=[(("signs":Str),V.str (tx sg)),(("start":Str),V.str (tx st)),(("kept":Str),V.ref lk)]:=by simp only[bH,if_neg d2,if_neg d3]
  refine⟨C,dx,_,sk _ _ ea3,cl,n3,by simp,?_⟩;rw[e4];refine h4 _ _ ?_;clear h4;have sx5:aZ a H (ar H4 a (.ins C dx [(("signs":Str),V.str (tx sg)),(("start":Str),V.str (tx st)),(("kept":Str),V.ref lk)])):=(sx3.then sk).put;have ea5:ar H4 a (.ins C dx [(("signs":Str),V.str (tx sg)),(("start":Str),V.str (tx st)),(("kept":Str),V.ref lk)]) a=some (.ins C dx [(("signs":Str),V.str (tx sg)),(("start":Str),V.str (tx st)),(("kept":Str),V.ref lk)]):=ac;have ek5:ar H4 a (.ins C dx [(("signs":Str),V.str (tx sg)),(("start":Str),V.str (tx st)),(("kept":Str),V.ref lk)]) lk=some (.lst (as.map V.ref)):=by rw[ah hka];exact ek
  generalize ar H4 a (.ins C dx [(("signs":Str),V.str (tx sg)),(("start":Str),V.str (tx st)),(("kept":Str),V.ref lk)])=H5 at sx5 ea5 ek5 ⊢;refine ao fun N5 h5=>?_;walk_at "wp";refine⟨tx st,l,as,rs,rfl,sx5 _ _ hla hl,hrs.upX ha sx5,hn,fun pn H6 t hpn hN hm hfr sm6=>?_⟩;have hpa:pn≠a:=fun e=>by rw[e,ea5]at hpn;cases hpn
  have hpk:pn≠lk:=fun e=>by rw[e,ek5]at hpn;cases hpn
  have fr2:H pn=none:=by
   cases e:H pn with
   |none=>rfl
   |some u=>rw[sx5 _ _ hpa e]at hpn;cases hpn
  have fr3:∀x∈t,H x.2.1=none:=fun x hx=>by
   have h5x:=hfr x hx;cases e:H x.2.1 with
   |none=>rfl
   |some u=>rw[sx5 _ _ (fun z=>by rw[z,ea5]at h5x;cases h5x) e]at h5x;cases h5x
  have d4:¬ (("signs":Str)="numbers"):=by decide +kernel
  have d5:¬ (("start":Str)="numbers"):=by decide +kernel
  have d6:¬ (("kept":Str)="numbers"):=by decide +kernel
  have e6:bH "numbers" (V.ref pn) [(("signs":Str),V.str (tx sg)),(("start":Str),V.str (tx st)),(("kept":Str),V.ref lk)]=eN sg st lk pn:=by unfold eN;simp only[bH,if_neg d4,if_neg d5,if_neg d6]
  have ea6:=sm6 _ _ ea5;refine⟨C,dx,_,ea6,cl,n4,by simp,?_⟩;rw[e6];refine h5 _ _ ?_;clear h5;have sx7:aZ a H (ar H6 a (.ins C dx (eN sg st lk pn))):=(sx5.then sm6).put;have gf:nI R (ar H6 a (.ins C dx (eN sg st lk pn))) C dx a sg st as rs lk pn t:=by
   refine⟨ac,by rw[ah hka];exact sm6 _ _ ek5,hrs.upX ha sx7,⟨by rw[ah hpa];exact hN.dict,fun x hx=>?_,hN.apart⟩,hm⟩;have hq:=hN.list x hx;rw[ah (fun e=>by rw[e,ea6]at hq;cases hq)];exact hq
  have ea7:ar H6 a (.ins C dx (eN sg st lk pn)) a=some (.ins C dx (eN sg st lk pn)):=ac;have ed7:ar H6 a (.ins C dx (eN sg st lk pn)) pn=some (.dK (qD t)):=by rw[ah hpa];exact hN.dict
  generalize ar H6 a (.ins C dx (eN sg st lk pn))=H7 at sx7 gf ea7 ed7 ⊢;have hlen:(qD t).length=(aB (tx st) rs).length:=by rw[<- hm];unfold qD f';rw[CP,CP]
  walk_at "wp";refine⟨C,dx,_,ea7,cl,n4,_,rfl,pn,rfl,_,ed7,?_⟩;rw[hlen]
  by_cases h8:8<(aB (tx st) rs).length
  ·rw[if_pos (by omega)]
   refine⟨C,dx,_,ea7,cl,n4,_,rfl,pn,rfl,_,ed7,am (by omega),fun p hp=>⟨am (by omega),fun d hd=>?_⟩⟩;rw[hlen]at hd ⊢;have hdp:p≠d:=fun x=>by rw[<- x,ac]at hd;cases hd
   refine bad ("names",[((aB (tx st) rs).length:Int)]) (by unfold fk;rw[g0];simp only[];rw[if_pos h8]) p d _ (((sx7.then (af hp))).then (af hd)) (by rw[ah hdp,ac];rfl) ac
  ·rw[if_neg (by omega)]
   exact good (by unfold fk;rw[g0];simp only[];rw[if_neg h8]) H7 lk pn t sx7 gf fr1 fr2 fr3
noncomputable abbrev cJ:Stmt:=fG 38 2
noncomputable def dy(R:RC)(C:Addr):Sp:=fun vs H Q _=>∃(a dx:Addr) (sg st:List Nat) (as:List Addr) (rs:List (Nat×RV)) (k:Nat) (b:Addr),vs=[.ref a,.int (k:Int)]/\e_ R H C dx a sg st as rs/\as[k]?=some b/\Q (.ref b) H
theorem oy:av ["self","k"] ["self","k"] (ai cJ):=by walk_at "c"
theorem oS{R:RC}{f C:Addr}{fd:FuncData}(F:di K "rule" "Grammar.rule" cJ f fd)(nb:NB mg)(cl:j' K C)(na:al K C "signs"/\al K C "start"/\al K C "kept"/\al K C "numbers"):aO P w K mg base bY 1 f fd ["self","k"] (dy R C):=by
 have sc:=oy;walk_at "f"
 ·obtain⟨a,dx,sg,st,as,rs,k,b,rfl,_⟩:=h;rfl
 ·obtain⟨a,dx,sg,st,as,rs,k,b,rfl,g,hb,q⟩:=h
  obtain⟨lk,pn,t,ha,hk,hrs,hN,hm⟩:=id g;have hu:=hr.units;refine⟨_,(aj (aA (az cP (bg (ak 0) rfl) (ak 1) (fun _ _=>rfl)))),?_⟩;walk_at "wp";exact⟨C,dx,_,ha,cl,na.2.2.1,_,rfl,lk,rfl,_,bp.of hk,_,c8 (by rw[CS,hb];rfl),q⟩
theorem my(z:Str):∀t:NT,(f' t).lookup z=(t.find? fun x=>decide (x.1=z)).map (·.2.2)
 | []=>rfl
 |x::t=>by
  have ih:=my z t;unfold f' at ih ⊢;rw[Dl,List.lookup_cons,List.find?_cons]
  by_cases e:x.1=z
  ·simp[e]
  ·have e':(z==x.1)=false:=by simpa using fun h=>e h.symm
   rw[e',ih];simp[e]
noncomputable abbrev ba:Stmt:=fG 38 5
noncomputable def bM(R:RC)(C CN:Addr):Sp:=fun vs H Q E=>∃(a dx:Addr) (sg st:List Nat) (as:List Addr) (rs:List (Nat×RV)) (z:Str),vs=[.ref a,.str z]/\e_ R H C dx a sg st as rs/\(∀ns,(aB (tx st) rs).lookup z=some ns->∀l H',H l=none->H' l=some (.lst (qF ns))->ax H H'->Q (.ref l) H')/\((aB (tx st) rs).lookup z=none->E (.ref CN) none H)
theorem i6:av ["self","name"] ["self","name"] (ai ba):=by walk_at "c"
theorem iM{R:RC}{f C C_NoName:Addr}{fd:FuncData}(F:di K "numbers_of" "Grammar.numbers_of" ba f fd)(nb:NB mg)(cl:j' K C)(na:al K C "signs"/\al K C "start"/\al K C "kept"/\al K C "numbers")(m_NoName:mg "NoName"=some (.ref C_NoName))(xr_NoName:XR K C_NoName):aO P w K mg base (bZ P w) 1 f fd ["self","name"] (bM R C C_NoName):=by
 have sc:=i6;walk_at "x"
 ·obtain⟨a,dx,sg,st,as,rs,z,rfl,_⟩:=h;rfl
 ·obtain⟨a,dx,sg,st,as,rs,z,rfl,g,q,x⟩:=h
  obtain⟨lk,pn,t,ha,hk,hrs,hN,hm⟩:=id g;have hu:=hr.units;refine⟨_,(ag (bK (vR (mD (Dw (DA (by decide:1<=64) _) hu) (ak 1) (bg (ak 0) rfl)) (by with_unfolding_all rfl))
   (aj (eS xr_NoName rfl rfl m_NoName (gb fun _ _ _ h=>h) (bc ad)))
   aM)
   (aj (aA (gR fm rfl nb.list o_ (aa (om (Dw (DA (by decide:1<=64) _) hu) (bg (ak 0) rfl) (ak 1) (fun _ _=>rfl)) ad))))),?_⟩
  walk_at "wp";have key:=my z t;have val:=rP z t;rw[hm]at key;refine⟨C,dx,_,ha,cl,na.2.2.2,_,rfl,pn,rfl,?_⟩;refine⟨_,.inl ⟨_,.inr z,.inl hN.dict,rfl,rfl⟩,?_⟩;cases hf:t.find? (fun x=>decide (x.1=z)) with
  |none=>
   rw[hf]at key val;rw[val];rw[if_pos (by simp)];exact⟨am (by omega),x key⟩
  |some y=>
   rw[hf]at key val;rw[val];rw[if_neg (by simp)];have hy:=hN.list y (List.mem_of_find?_eq_some hf);exact⟨C,dx,_,ha,cl,na.2.2.2,_,rfl,pn,rfl,_,.inl ⟨_,.inr z,.inl hN.dict,rfl,val.symm⟩,_,rfl,_,.inl (bp.of hy),fun l hl=>q _ key l _ hl ac (af hl)⟩
noncomputable abbrev kM:Stmt:=lW 43
noncomputable def jU(K:W.Frag):Sp:=fun vs H Q _=>∃(a:Addr) (ns:List Int) (k:Nat),vs=[.ref a,.int (k:Int)]/\bp K H a (ns.map V.int)/\k<=1000/\∀c:Int,Q (.int c) H
theorem uy:av ["_law_script","_law_k","_law_cell_here","_law_mixed"] ["_law_script","_law_k"] (ai kM):=by walk_at "c"
theorem uE{f:Addr}{fd:FuncData}(F:di K "_law_cell" "_law_cell" kM f fd)(nb:NB mg):aO P w K mg base bY 1 f fd ["_law_script","_law_k"] (jU K):=by
 have sc:=uy;walk_at "f"
 ·obtain⟨a,ns,k,rfl,_⟩:=h;rfl
 ·obtain⟨a,ns,k,rfl,hS,hk,q⟩:=h
  refine⟨_,(ag (ay (i:=2) sc.nd rfl (Or.inl rfl) ae)
   (ag (bK (aD sR (pv 1) (aQ eW rfl nb.len dn (aa (pv 0) ad)) (aS _))
   (aj (ay (i:=2) sc.nd rfl (Or.inl rfl) (az sF (pv 0) (pv 1) (fun _ _=>rfl))))
   aM)
   (ag (ay (i:=3) sc.nd rfl (Or.inl rfl) (ap aV (ap cY (ap bw (ap bw (ap aV (pv 2) ae) (ap cY ae (pv 1))) ae) ae) ae))
   (aj (aA (ap bw (ap cY (ap aT (pv 2) ae) ae) (ap aV (ap bw (ap cY (pv 3) ae) (pv 1)) ae))))))),?_⟩
  walk_at "wp";refine⟨_,hS,?_⟩;rw[CP]
  split
  ·rename_i hlt
   have hlt':k<ns.length:=by omega
   refine⟨_,hS,V.int ns[k],c8 (by rw[CS,mk hlt'];rfl),?_⟩;walk_at "wp";exact q _
  ·exact q _
noncomputable def yJ(d s m:Nat):List Nat:=(List.range (1+m)).map fun i=>97+(d+(1+2*s)*i)%26
theorem xF:∀d,d<26->∀s,s<6->∀m,m<4->c7 (yJ d s m)=true:=by decide +kernel
theorem wv:∀n,n<26->(Str.ofString "abcdefghijklmnopqrstuvwxyz").cps.toList[n]?=some (97+n):=by decide +kernel
theorem i8{r:List Nat}(h:c7 r=true):1<=r.length/\r.length<=4:=by
 unfold c7 at h;simp only[Bool.and_eq_true,decide_eq_true_eq]at h;exact⟨h.1.1.1,h.1.1.2⟩
noncomputable abbrev jB:Stmt:=lW 46
noncomputable def kG:Sp:=fun vs H Q _=>∃(c:Int),vs=[.int c,.int 4]/\∀(r:List Nat) (H':Hp),c7 r=true->ax H H'->Q (.str (tx r)) H'
theorem rK:av ["_law_cell_here","_law_most","_law_letters","_law_step"] ["_law_cell_here","_law_most"] (ai jB):=by walk_at "c"
theorem qS{f:Addr}{fd:FuncData}(F:di K "_law_signs" "_law_signs" jB f fd)(nb:NB mg):aO P w K mg base bY 1 f fd ["_law_cell_here","_law_most"] kG:=by
 have sc:=rK;walk_at "f"
 ·obtain⟨c,rfl,_⟩:=h;rfl
 ·obtain⟨c,rfl,q⟩:=h
  refine⟨_,(ag (ay (i:=2) sc.nd rfl (Or.inr rfl) lD)
   (ag (ay (i:=3) sc.nd rfl (Or.inr rfl) (ap (aN.m0 bw) ae (ap (aN.m1 cY) ae (ap (aN.m1 aV) (ap (aN.m1 aT) (ak 0) ae) ae))))
   (aj (aA (mR PySem.F.plainAttrs_str PySem.F.slot_str_join PySem.F.type_str_join sM lD (aa (fF ["_law_k"] [2,0,3] rfl (bG.of (by kernel_rfl)) (by kernel_rfl) (jG rfl nb.range (aa (ap (aN.m0 bw) ae (ap (aN.m1 aV) (ap (aN.m1 aV) (ak 0) ae) (ak 1))) ad))
    (fun _ _ _ _=>(aC (i:=0) (by show(["_law_k","_law_letters","_law_cell_here","_law_step"]:List Str).Nodup;decide +kernel) rfl (Or.inl rfl))) (fun _ _ _ _=>dA) (fun _ _ _ _=>(az nh (ak 1) (ap (aN.m1 aV) (ap (aN.m0 bw) (ap (aN.m1 aT) (ak 2) ae) (ap (aN.m1 cY) (ak 3) (ak 0))) ae) (fun _ _=>rfl)))) ad)))))),?_⟩
  obtain⟨m,hm⟩:∃m:Nat,c%4%4=(m:Int):=⟨_,(DE (DC _ (by omega))).symm⟩;obtain⟨s6,hs6⟩:∃m:Nat,c/104%6=(m:Int):=⟨_,(DE (DC _ (by omega))).symm⟩;obtain⟨d,hd⟩:∃m:Nat,c/4%26=(m:Int):=⟨_,(DE (DC _ (by omega))).symm⟩;have m2:m<4:=by omega
  have s2:s6<6:=by omega
  have d2:d<26:=by omega
  walk_at "n";refine h1 _ _ ?_;walk_at "nc";rw[hs6];refine h1 _ _ ?_;clear h1;walk_at "wp";rw[hm];have en:(1+(m:Int)).toNat=1+m:=by omega
  rw[en];refine⟨rfl,by omega,by omega,?_⟩;have chr:∀i:Nat,(c/4+(1+2*(s6:Int))*(i:Int))%26=(((d+(1+2*s6)*i)%26:Nat):Int):=fun i=>by
   rw[Int.add_emod,hd]
   push_cast
   rw[Int.add_emod (d:Int) ((1+2*(s6:Int))*(i:Int)),Int.emod_eq_of_lt (a:=(d:Int)) (by omega) (by omega)]
  refine j9 (n:=1+m) (f:=fun i=>some (V.str ⟨#[97+(d+(1+2*s6)*i)%26]⟩)) (fun σ=>∃x,σ=[x,some (.str "abcdefghijklmnopqrstuvwxyz"),some (.int c),some (.int (1+2*(s6:Int)))]) ⟨_,rfl⟩ (by omega) ?_ ?_
  ·rintro i hi σ H' N1 N0 ⟨y,rfl⟩ sm k1 k0
   walk_at "wp";refine⟨.inl ⟨by omega,by omega⟩,by decide,97+(d+(1+2*s6)*i)%26,?_,k1 _ _ _ rfl sm ⟨_,rfl⟩⟩;rw[chr i];exact c8 (wv _ (Nat.mod_lt _ (by omega)))
  ·intro H' sm l hl
   rw[ot];have e0:(List.range (1+m)).map (fun i=>V.str ⟨#[97+(d+(1+2*s6)*i)%26]⟩)=((yJ d s6 m).map fun c=>(⟨#[c]⟩:Str)).map V.str:=by
    unfold yJ;rw[C8,C8];rfl
   rw[e0];have hg:=xF d d2 s6 s2 m m2;have hgl:=i8 hg;refine⟨_,.inl (bp.of ac),?_,?_⟩
   ·rw[C8]
    have e1:((fun y:Str=>y.length)∘fun c=>(⟨#[c]⟩:Str))=fun _=>1:=by funext c;rfl
    have e0:(Str.ofString "").length=0:=rfl;rw[e1,List.map_const',List.sum_replicate_nat,CP,e0];omega
   ·rw[mP]
    exact q _ _ hg (sm.trans (af hl))
theorem si(r s:List Nat):tx r++tx s=tx (r++s):=by
 show(⟨r.toArray++s.toArray⟩:Str)=⟨(r++s).toArray⟩;simp
theorem ww{row:List Nat}{n:Nat}(h:n<=row.length):Txt.slice (tx row) none (some (n:Int))=tx (row.take n):=by
 rw[mQ,HT.sIx_nat,DF h];show tx ((row.drop 0).take (n-0))=_;rw[DG,Nat.sub_zero]
theorem rV{row:List Nat}{n:Nat}(h:n<=row.length):Txt.slice (tx row) (some (n:Int)) none=tx (row.drop n):=by
 rw[mQ,HT.sIx_nat,DF h];show tx ((row.drop n).take (row.length-n))=_;rw[List.take_of_length_le (by rw[Dv];omega)]
theorem vh:∀n,n<26->(Str.ofString "ABCDEFGHIJKLMNOPQRSTUVWXYZ").cps.toList[n]?=some (65+n):=by decide +kernel
noncomputable def xy(c:Nat):Bool:=zC yw c
theorem vm:∀n,n<26->xy (65+n)=true:=by decide +kernel
theorem yo(x:Int):∃n:Nat,n<26/\x%26=(n:Int):=⟨(x%26).toNat,by omega,by omega⟩
theorem xT{r:List Nat}(h:∀x∈r,xy x=true)(h1:1<=r.length)(h4:r.length<=4):cw r=true:=by
 have hall:r.all (zC yw)=true:=Dz.mpr h;unfold cw eV;rw[hall];simp;omega
noncomputable abbrev jW:Stmt:=lW 47
noncomputable def ly:Sp:=fun vs H Q _=>∃(c:Int),vs=[.int c]/\∀(l:Addr) (p:fY) (H':Hp),H l=none->H' l=some (.lst (aW p))->p.length=4->(∀r∈p,cw r=true)->ax H H'->Q (.ref l) H'
theorem rX:av ["_law_cell_here","_law_letters","_law_size","_law_at","_law_step","_law_base","_law_names_here","_law_k","_law_letter"] ["_law_cell_here"] (ai jW):=by walk_at "c"
theorem qK{f:Addr}{fd:FuncData}(F:di K "_law_names" "_law_names" jW f fd)(nb:NB mg):aO P w K mg base bY 1 f fd ["_law_cell_here"] ly:=by
 have sc:=rX;walk_at "f"
 ·obtain⟨c,rfl,_⟩:=h;rfl
 ·obtain⟨c,rfl,q⟩:=h
  refine⟨_,(ag (ay (i:=1) sc.nd rfl (Or.inr rfl) lD)
   (ag (ay (i:=2) sc.nd rfl (Or.inl rfl) (ap (aN.m0 bw) ae (ap (aN.m1 aV) (ak 0) ae)))
   (ag (ay (i:=3) sc.nd rfl (Or.inl rfl) (ap (aN.m1 aV) (ap (aN.m1 aT) (ak 0) ae) (ak 2)))
   (ag (ay (i:=4) sc.nd rfl (Or.inl rfl) (ap (aN.m0 bw) ae (ap (aN.m1 cY) ae (ap (aN.m1 aV) (ap (aN.m1 aT) (ak 0) ae) ae))))
   (ag (ay (i:=5) sc.nd rfl (Or.inl rfl) (mR PySem.F.plainAttrs_str PySem.F.slot_str_join PySem.F.type_str_join sM lD (aa (fF ["_law_k"] [1,0] rfl (bG.of (by kernel_rfl)) (by kernel_rfl) (jG rfl nb.range (aa (ak 2) ad))
    (fun _ _ _ _=>(aC (i:=0) (by show(["_law_k","_law_letters","_law_cell_here"]:List Str).Nodup;decide +kernel) rfl (Or.inl rfl))) (fun _ _ _ _=>dA) (fun _ _ _ _=>(az nh (ak 1) (ap (aN.m1 aV) (ap (aN.m0 bw) (ap (aN.m1 aT) (ak 2) ae) (ap (aN.m1 cY) ae (ak 0))) ae) (fun _ _=>rfl)))) ad)))
   (ag (ay (i:=6) sc.nd rfl (Or.inl rfl) (bJ ad))
   (ag (bj PassesOwn.never rfl (jG rfl nb.range (aw ad)) (aC (i:=7) sc.nd rfl (Or.inl rfl))
   (ag (ay (i:=8) sc.nd rfl (Or.inl rfl) (az nh (ak 1) (ap (aN.m1 aV) (ap (aN.m0 bw) (ap (aN.m1 aT) (ak 0) ae) (ap (aN.m1 cY) (ak 4) (ak 7))) ae) (fun _ _=>rfl)))
   (aj (cQ (mR PySem.F.plainAttrs_list PySem.F.slot_list_append PySem.F.type_list_append gN (ak 6) (aa (ap lT (ap lT (lO wG (ak 5) sB (km (ak 3))) (ak 8)) (lO wG (ak 5) (km (ap (aN.m0 bw) (ak 3) ae)) sB)) ad))))))
   (aj (aA (ak 6)))))))))),?_⟩
  obtain⟨m,hm⟩:∃m:Nat,c%4=(m:Int):=⟨_,(DE (DC _ (by omega))).symm⟩;have m2:m<4:=by omega
  walk_at "n";refine h1 _ _ ?_;walk_at "nc";refine h1 _ _ ?_;clear h1;rw[hm];walk_at "n";refine⟨by omega,h1 _ _ ?_⟩;clear h1;obtain⟨at_,hat⟩:∃k:Nat,c/4%(1+(m:Int))=(k:Int):=⟨_,(DE (DC _ (by omega))).symm⟩;have hat2:at_<1+m:=by have:=DD (c/4) (b:=1+(m:Int)) (by omega);omega
  rw[hat];walk_at "n";refine h1 _ _ ?_;clear h1;generalize 1+2*(c/16%6)=st;walk_at "n";have en:(1+(m:Int)).toNat=1+m:=by omega
  rw[en];refine⟨rfl,by omega,by omega,?_⟩
  let fc:Nat->Nat:=fun i=>65+((c/96+5*(i:Int))%26).toNat
  refine j9 (n:=1+m) (f:=fun i=>some (V.str ⟨#[fc i]⟩)) (fun σ=>∃x,σ=[x,some (.str "ABCDEFGHIJKLMNOPQRSTUVWXYZ"),some (.int c)]) ⟨_,rfl⟩ (by omega) ?_ ?_
  ·rintro i hi σ H' N1 N0 ⟨y,rfl⟩ sm k1 k0
   walk_at "wp";obtain⟨n,h1,h2⟩:=yo (c/96+5*(i:Int));refine⟨by decide,fc i,?_,k1 _ _ _ rfl sm ⟨_,rfl⟩⟩;show ki _ _=some (65+((c/96+5*(i:Int))%26).toNat);rw[h2];exact c8 (vh n h1)
  ·intro H' sm l hl
   rw[ot];have e0:(List.range (1+m)).map (fun i=>V.str ⟨#[fc i]⟩)=(((List.range (1+m)).map fc).map fun c=>(⟨#[c]⟩:Str)).map V.str:=by rw[C8,C8];rfl
   rw[e0];have hcs:∀x∈(List.range (1+m)).map fc,xy x=true:=fun x hx=>by
    obtain⟨i,_,rfl⟩:=Dy.mp hx;obtain⟨n,h1,h2⟩:=yo (c/96+5*(i:Int));show xy (65+((c/96+5*(i:Int))%26).toNat)=true;rw[h2];exact vm n h1
   have hcl:((List.range (1+m)).map fc).length=1+m:=by simp
   generalize(List.range (1+m)).map fc=cs at hcs hcl ⊢;refine⟨_,.inl (bp.of ac),?_,?_⟩
   ·rw[C8]
    have e1:((fun y:Str=>y.length)∘fun c=>(⟨#[c]⟩:Str))=fun _=>1:=by funext c;rfl
    have e0:(Str.ofString "").length=0:=rfl;rw[e1,List.map_const',List.sum_replicate_nat,CP,e0];omega
   rw[mP];refine h1 _ _ ?_;clear h1;have s1:=sm.trans (af (o:=.lst ((cs.map fun c=>(⟨#[c]⟩:Str)).map V.str)) hl);generalize ar H' l (.lst ((cs.map fun c=>(⟨#[c]⟩:Str)).map V.str))=H1 at s1 ⊢;walk_at "n";refine⟨am (by decide),fun ln hln=>h1 _ _ ?_⟩;clear h1;have frn:=s1.free hln;have s2:=s1.trans (af (o:=.lst []) hln);have e2:ar H1 ln (.lst []) ln=some (.lst []):=ac;generalize ar H1 ln (.lst [])=H2 at s2 e2 ⊢;walk_at "n";refine⟨by decide,?_⟩;refine bN (n:=4) (fun i σ H'=>ax H H'/\(∃p:fY,H' ln=some (.lst (aW p))/\p.length=i/\∀r∈p,cw r=true)/\∃x y,σ=[some (V.int c),some (V.str (Str.ofString "ABCDEFGHIJKLMNOPQRSTUVWXYZ")),some (V.int (1+(m:Int))),some (V.int (at_:Int)),some (V.int st),some (V.str (tx cs)),some (V.ref ln),x,y]) ⟨s2,⟨[],e2,rfl,fun r hr=>nomatch hr⟩,_,_,rfl⟩ ?_ ?_
   ·rintro i σ H' hi ⟨sm',⟨p,hp,pl,pn⟩,x,y,rfl⟩
    walk_at "wp";obtain⟨n,hn1,hn2⟩:=yo (c/2496+st*(i:Int));have nm:cw (cs.take at_++[65+n]++cs.drop (at_+1))=true:=by
     refine xT (fun x hx=>?_) (by simp;omega) (by simp;omega);rcases C7.mp hx with h | h
     ·rcases C7.mp h with h | h
      ·exact hcs x (List.mem_of_mem_take h)
      ·rw[CQ.mp h];exact vm n hn1
     ·exact hcs x (List.mem_of_mem_drop h)
    have at1:((at_:Int)+1)=((at_+1:Nat):Int):=by push_cast;rfl
    rw[ww (by omega),at1,rV (by omega)];have lt1:(cs.take at_).length<=4:=by rw[Du];omega
    have lt2:(cs.drop (at_+1)).length<=4:=by rw[Dv];omega
    have ez:tx (cs.take at_)++(⟨#[65+n]⟩:Str)++tx (cs.drop (at_+1))=tx (cs.take at_++[65+n]++cs.drop (at_+1)):=by rw[show(⟨#[65+n]⟩:Str)=tx [65+n] from rfl,si,si]
    refine⟨.inr ⟨by omega,by omega⟩,by decide,65+n,by rw[hn2];exact c8 (vh n hn1),.inl ⟨rfl,_,bp.of hp⟩,by rw[aY];exact am (by omega),?_,by rw[aY];exact am (by omega),?_,_,hp,by rw[bP,pl];exact bh (by omega),?_⟩
    ·rw[aY];exact am (by show _+1<=_;omega)
    ·rw[show(⟨#[65+n]⟩:Str)=tx [65+n] from rfl,si,aY,aY];exact am (by simp;omega)
    ·rw[ez]
     refine⟨gP sm' frn,p++[cs.take at_++[65+n]++cs.drop (at_+1)],?_,by rw[Df,pl];rfl,fun r hr=>?_⟩
     ·rw[ac];unfold aW;rw[C6];rfl
     ·rcases C7.mp hr with h | h
      ·exact pn r h
      ·rw[CQ.mp h];exact nm
   ·rintro σ H' ⟨sm',⟨p,hp,pl,pn⟩,x,y,rfl⟩
    refine h1 _ _ ?_;walk_at "wp";exact q ln p H' frn hp pl pn sm'
noncomputable def og(r:Nat×RV):List V:=match r.1 with
 |0=>[.str (tx r.2.n),.int r.2.c,.int 0,.str (tx r.2.sg),.str ""]
 |1=>[.str (tx r.2.n),.int r.2.c,.int 1,.str (tx r.2.o1),.str (tx r.2.o2)]
 |2=>[.str (tx r.2.n),.int r.2.c,.int 2,.str (tx r.2.o1),.str (tx r.2.o2)]
 |_=>[.str (tx r.2.n),.int r.2.c,.int 3,.str (tx r.2.o1),.int r.2.t]
noncomputable def iX(H:Hp)(l:Addr)(ts:List Addr)(rs:List (Nat×RV)):Prop:=H l=some (.lst (ts.map V.ref))/\ts.length=rs.length/\∀(i:Nat) t r,ts[i]?=some t->rs[i]?=some r->H t=some (.tup (og r))
theorem iX.up{H H':Hp}{l:Addr}{ts:List Addr}{rs:List (Nat×RV)}(h:iX H l ts rs)(s:ax H H'):iX H' l ts rs:=⟨s _ _ h.1,h.2.1,fun i t r e1 e2=>s _ _ (h.2.2 i t r e1 e2)⟩
theorem jr{k:Nat}(h:k<4):k=0\/k=1\/k=2\/k=3:=by omega
structure j0(r:Nat×RV):Prop where
 k4:r.1<4
 good:r.2.good
 small:r.2.small
noncomputable abbrev ll:Stmt:=lW 48
noncomputable def jR(R:RC):Sp:=fun vs H Q _=>∃(t:Addr) (r:Nat×RV),vs=[.ref t]/\H t=some (.tup (og r))/\j0 r/\∀b H',gj R H' r.1 b r.2->ax H H'->Q (.ref b) H'
theorem uI:av ["_law_rule_here"] ["_law_rule_here"] (ai ll):=by walk_at "c"
theorem uD{R:RC}{f CF:Addr}{fd:FuncData}(F:di K "_law_rule" "_law_rule" ll f fd)(nb:NB mg)(rk:oO K R)
  (zrb:jO P w K mg base (bZ P w) 4 "CellRule" R.cc ["self","name","cost","sign"] (fA K CF)) (zjb:jO P w K mg base (bZ P w) 4 "BesideRule" R.cb ["self","name","cost","one","other"] (ck K CF))
  (zlb:jO P w K mg base (bZ P w) 4 "AboveRule" R.ca ["self","name","cost","one","other"] (ck K CF)) (zsb:jO P w K mg base (bZ P w) 4 "TurnRule" R.ct ["self","name","cost","part","turning"] (fE K CF)):aO P w K mg base bY 6 f fd ["_law_rule_here"] (jR R):=by
 have sc:=uI;walk_at "f"
 ·obtain⟨t,r,rfl,_⟩:=h;rfl
 ·obtain⟨t,⟨k,v⟩,rfl,ht,⟨hk,g,sm⟩,good⟩:=h
  refine⟨_,(ag (bK (aD eR (az aq (ak 0) ae (fun _ _=>rfl)) ae (aS _))
   (aj (aA (gZ (CX:=bZ P w) zrb (hr.mono (by decide)) rfl bd (aa (az aq (ak 0) ae (fun _ _=>rfl)) (aa (az aq (ak 0) ae (fun _ _=>rfl)) (aa (az aq (ak 0) ae (fun _ _=>rfl)) ad))))))
   aM)
   (ag (bK (aD eR (az aq (ak 0) ae (fun _ _=>rfl)) ae (aS _))
   (aj (aA (gZ (CX:=bZ P w) zjb (hr.mono (by decide)) rfl bd (aa (az aq (ak 0) ae (fun _ _=>rfl)) (aa (az aq (ak 0) ae (fun _ _=>rfl)) (aa (az aq (ak 0) ae (fun _ _=>rfl)) (aa (az aq (ak 0) ae (fun _ _=>rfl)) ad)))))))
   aM)
   (ag (bK (aD eR (az aq (ak 0) ae (fun _ _=>rfl)) ae (aS _))
   (aj (aA (gZ (CX:=bZ P w) zlb (hr.mono (by decide)) rfl bd (aa (az aq (ak 0) ae (fun _ _=>rfl)) (aa (az aq (ak 0) ae (fun _ _=>rfl)) (aa (az aq (ak 0) ae (fun _ _=>rfl)) (aa (az aq (ak 0) ae (fun _ _=>rfl)) ad)))))))
   aM)
   (aj (aA (gZ (CX:=bZ P w) zsb (hr.mono (by decide)) rfl bd (aa (az aq (ak 0) ae (fun _ _=>rfl)) (aa (az aq (ak 0) ae (fun _ _=>rfl)) (aa (az aq (ak 0) ae (fun _ _=>rfl)) (aa (az aq (ak 0) ae (fun _ _=>rfl)) ad)))))))))),?_⟩
  have sq:=bv.of (K:=K) ht;have g:v.good:=g;have sm:v.small:=g.small;have bn:v.n.length<=100000:=by have:=sm.n;omega
  have b1:v.o1.length<=100000:=by have:=sm.o1;omega
  have b2:v.o2.length<=100000:=by have:=sm.o2;omega
  have bs:v.sg.length<=100000:=by have:=sm.sg;omega
  walk_at "wp";rcases jr hk with rfl | rfl | rfl | rfl
  ·change bv K H t [.str (tx v.n),.int v.c,.int 0,.str (tx v.sg),.str ""]at sq
   refine⟨_,sq,_,rfl,rfl,?_⟩;rw[if_pos rfl];refine⟨_,sq,_,rfl,_,sq,_,rfl,_,sq,_,rfl,fun x dx hx hd hne=>?_⟩;exact⟨x,R.cc,dx,v.n,v.sg,v.c,rfl,ac,rk.i0.cl,rk.a0,bn,bs,fun ok pl H' sx hpl hl' ha=>⟨rfl,good x H' ⟨dx,pl,ha,hl'⟩ (hJ hx hd sx)⟩,fun nok=>absurd (g.ok 0) nok⟩
  ·change bv K H t [.str (tx v.n),.int v.c,.int 1,.str (tx v.o1),.str (tx v.o2)]at sq
   refine⟨_,sq,_,rfl,rfl,?_⟩;rw[if_neg (by decide)];refine⟨_,sq,_,rfl,rfl,?_⟩;rw[if_pos rfl];refine⟨_,sq,_,rfl,_,sq,_,rfl,_,sq,_,rfl,_,sq,_,rfl,fun x dx hx hd hne=>?_⟩;exact⟨x,R.cb,dx,v.n,v.o1,v.o2,v.c,rfl,ac,rk.i1.cl,rk.a1,bn,b1,b2,fun ok pl H' sx hpl hl' ha=>⟨rfl,good x H' ⟨dx,pl,ha,hl'⟩ (hJ hx hd sx)⟩,fun nok=>absurd (g.ok 1) nok⟩
  ·change bv K H t [.str (tx v.n),.int v.c,.int 2,.str (tx v.o1),.str (tx v.o2)]at sq
   refine⟨_,sq,_,rfl,rfl,?_⟩;rw[if_neg (by decide)];refine⟨_,sq,_,rfl,rfl,?_⟩;rw[if_neg (by decide)];refine⟨_,sq,_,rfl,rfl,?_⟩;rw[if_pos rfl];refine⟨_,sq,_,rfl,_,sq,_,rfl,_,sq,_,rfl,_,sq,_,rfl,fun x dx hx hd hne=>?_⟩;exact⟨x,R.ca,dx,v.n,v.o1,v.o2,v.c,rfl,ac,rk.i2.cl,rk.a2,bn,b1,b2,fun ok pl H' sx hpl hl' ha=>⟨rfl,good x H' ⟨dx,pl,ha,hl'⟩ (hJ hx hd sx)⟩,fun nok=>absurd (g.ok 2) nok⟩
  ·change bv K H t [.str (tx v.n),.int v.c,.int 3,.str (tx v.o1),.int v.t]at sq
   refine⟨_,sq,_,rfl,rfl,?_⟩;rw[if_neg (by decide)];refine⟨_,sq,_,rfl,rfl,?_⟩;rw[if_neg (by decide)];refine⟨_,sq,_,rfl,rfl,?_⟩;rw[if_neg (by decide)];refine⟨_,sq,_,rfl,_,sq,_,rfl,_,sq,_,rfl,_,sq,_,rfl,fun x dx hx hd hne=>?_⟩;exact⟨x,R.ct,dx,v.n,v.o1,v.c,v.t,rfl,ac,rk.i3.cl,rk.a3,bn,b1,fun ok pl H' sx hpl hl' ha=>⟨rfl,good x H' ⟨dx,pl,ha,hl'⟩ (hJ hx hd sx)⟩,fun nok=>absurd (g.ok 3) nok⟩
structure sN(p:fY)(sg:List Nat)(r:Nat×RV):Prop where
 good:j0 r
 n:r.2.n∈p
 o1:r.2.o1∈p
 o2:r.2.o2∈p
 sg:∃c∈sg,r.2.sg=[c]
theorem pH{r:List Nat}(h:c7 r=true):eV r lK=true:=by
 unfold c7 at h;simp only[Bool.and_eq_true,decide_eq_true_eq]at h;exact h.1.2
theorem xj{r:List Nat}{c:Nat}(h:c7 r=true)(hc:c∈r):gp [c]=true:=by
 have:=pH h;unfold eV at this;rw[Dz]at this;unfold gp eV;rw[List.all_cons,this c hc]
 rfl
noncomputable def cZ(ks:List Str)(z:Str):List Str:=if z∈ks then ks else ks++[z]
theorem mY(m:List (Str×List Nat))(z:Str):(bb m z).map (·.1)=cZ (m.map (·.1)) z:=by
 unfold bb cZ
 split
 ·rfl
 ·rw[C6];rfl
theorem lG:∀(zs:List Str) (m:List (Str×List Nat)),(zs.foldl bb m).map (·.1)=zs.foldl cZ (m.map (·.1))
 | [],_=>rfl
 |z::zs,m=>by rw[List.foldl_cons,List.foldl_cons,lG zs,mY]
theorem uv(m:List (Str×List Nat))(i:Nat)(r:Nat×RV):(c_ m i r).map (·.1)=(tx r.2.n::(aJ r.1 r.2).map tx).foldl cZ (m.map (·.1)):=by
 unfold c_;rw[lG,fg,mY,List.foldl_cons]
theorem xl(a b:Str):vL (V.str a) (V.str b)=(a==b):=rfl
theorem qx(z:Str):∀ks:List Str,zq (V.str z) (ks.map V.str)=decide (z∈ks)
 | []=>rfl
 |k::ks=>by
  have ih:=qx z ks;unfold zq at ih ⊢;rw[Dl,List.any_cons,ih,xl]
  by_cases h:z=k
  ·subst h
   rw[beq_self_eq_true,decide_eq_true List.mem_cons_self];rfl
  ·have h1:(k==z)=false:=beq_eq_false_iff_ne.mpr fun e=>h e.symm
   rw[h1,Bool.false_or]
   by_cases hm:z∈ks
   ·rw[decide_eq_true hm,decide_eq_true (C_ _ hm)]
   ·rw[decide_eq_false hm,decide_eq_false (fun q=>(C9.mp q).elim h hm)]
theorem tT(ks:List Str):(ks.map V.str).all fO=true:=by
 rw[List.all_map,Dz];intro x _;rfl
noncomputable def br(z:Str)(rs:List (Nat×RV)):List Nat:=rs.zipIdx.filterMap fun x=>if tx x.1.2.n=z then some x.2 else none
theorem lE(z:Str)(rs:List (Nat×RV))(r:Nat×RV):br z (rs++[r])=br z rs++if tx r.2.n=z then[rs.length] else[]:=by
 unfold br;rw[List.zipIdx_append,List.filterMap_append]
 congr 1
 simp
 split<;>rename_i h<;>simp[h]
theorem qZ{z:Str}:∀{rs:List (Nat×RV)},(∀r∈rs,tx r.2.n≠z)->br z rs=[]:=by
 intro rs h;unfold br;rw[List.filterMap_eq_nil_iff];intro x hx;rw[if_neg (h x.1 (List.fst_mem_of_mem_zipIdx hx))]
structure NI(rs:List (Nat×RV))(m:List (Str×List Nat)):Prop where
 nd:(m.map (·.1)).Nodup
 ix:∀q∈m,q.2=br q.1 rs
 all:∀r∈rs,tx r.2.n∈m.map (·.1)
theorem kP{m:List (Str×List Nat)}{z y:Str}:y∈(bb m z).map (·.1)↔y∈m.map (·.1)\/y=z:=by
 unfold bb
 split
 ·rename_i h
  exact⟨fun q=>.inl q,fun q=>q.elim id fun e=>e▸h⟩
 ·rw[C6,C7];simp
theorem NI.name{rs:List (Nat×RV)}{m:List (Str×List Nat)}(h:NI rs m)(z:Str):NI rs (bb m z):=by
 refine⟨jm h.nd,fun q hq=>?_,fun r hr=>kP.mpr (.inl (h.all r hr))⟩;unfold bb at hq
 split at hq
 ·exact h.ix q hq
 ·rename_i hz
  rcases C7.mp hq with q1 | q1
  ·exact h.ix q q1
  ·rw[CQ.mp q1]
   exact(qZ (z:=z) fun r hr e=>hz (by rw[<- e];exact h.all r hr)).symm
theorem NI.names{rs:List (Nat×RV)}:∀(zs:List Str) {m:List (Str×List Nat)},NI rs m->NI rs (zs.foldl bb m)
 | [],_,h=>h
 |z::zs,m,h=>NI.names zs (h.name z)
theorem NI.put{rs:List (Nat×RV)}{m:List (Str×List Nat)}{r:Nat×RV}(h:NI rs m)(hn:tx r.2.n∈m.map (·.1)):NI (rs++[r]) (fN m (tx r.2.n) rs.length):=by
 refine⟨by rw[fg];exact h.nd,fun q hq=>?_,fun r' hr'=>?_⟩
 ·unfold fN at hq
  obtain⟨p,hp,rfl⟩:=Dy.mp hq;rw[lE]
  by_cases e:p.1=tx r.2.n
  ·rw[if_pos e]
   show p.2++[rs.length]=br p.1 rs++_;rw[if_pos e.symm,h.ix p hp]
  ·rw[if_neg e,if_neg (fun z=>e z.symm),Dq]
   exact h.ix p hp
 ·rw[fg]
  rcases C7.mp hr' with q | q
  ·exact h.all r' q
  ·rw[CQ.mp q];exact hn
theorem jK(z:Str):∀(n:Nat) (rs:List (Nat×RV)),rs.length=n->NI rs (aB z rs)
 |0,rs,h=>by
  rw[Dx.mp h];exact⟨by simp[aB,dR],fun q hq=>by rw[show q=(z,[]) by simpa[aB,dR]using hq];rfl,fun r hr=>nomatch hr⟩
 |n+1,rs,h=>by
  obtain⟨rs',r,rfl⟩:∃rs' r,rs=rs'++[r]:=⟨rs.dropLast,rs.getLast (by intro e;rw[e]at h;cases h),(List.dropLast_concat_getLast _).symm⟩;have hl:rs'.length=n:=by rw[Df,List.length_singleton]at h;omega
  have ih:=jK z n rs' hl;unfold aB at ih ⊢;rw[dZ,Nat.zero_add];unfold c_;exact((ih.name (tx r.2.n)).put (kP.mpr (.inr rfl))).names _
theorem mG:∀{m:List (Str×List Nat)} {q:Str×List Nat},(m.map (·.1)).Nodup->q∈m->m.lookup q.1=some q.2
 |p::m,q,hnd,hq=>by
  rw[Dl,List.nodup_cons]at hnd;rw[List.lookup_cons];rcases C9.mp hq with e | e
  ·rw[e];simp
  ·have hne:q.1≠p.1:=fun z=>hnd.1 (z▸List.mem_map_of_mem e)
   have:(q.1==p.1)=false:=beq_eq_false_iff_ne.mpr hne;rw[this];exact mG hnd.2 e
theorem sK{z:Str}{rs:List (Nat×RV)}{q:Str×List Nat}(h:q∈aB z rs):(aB z rs).lookup q.1=some (br q.1 rs)/\q.2=br q.1 rs:=by
 have N:=jK z _ rs rfl;have e:=N.ix q h;exact⟨by rw[mG N.nd h,e],e⟩
theorem uW(z:Str)(rs:List (Nat×RV)):(br z rs).length<=rs.length:=by
 unfold br;exact Dm (List.length_filterMap_le _ _) (by rw[List.length_zipIdx];exact Dg _)
theorem qW{R:RC}{H:Hp}{l:Addr}{ts:List Addr}{rs:List (Nat×RV)}{Q:List V->Hp->Prop}(hR:iX H l ts rs)(hg:∀r∈rs,j0 r)(hn:rs.length<=100)(q:∀(as:List Addr) H',ax H H'->bE R H' as rs->Q (as.map V.ref) H') :
  jk (wT K l) (j1 0) s_ (li (jR R) [] E0 (mw (wa 0) uH)) [none] H Q:=by
 obtain⟨hl,htl,hat⟩:=hR;refine jM (xs:=ts.map V.ref) (fun i acc σ H'=>ax H H'/\(∃as:List Addr,acc=as.map V.ref/\bE R H' as (rs.take i))/\i<=ts.length/\∃x,σ=[x]) ⟨ax.refl _,⟨[],rfl,rfl,fun i a r e=>by simp at e⟩,Dh _,_,rfl⟩ ?_ ?_ ?_ ?_ ?_
 ·rintro i acc σ H' ⟨_,⟨as,rfl,h,_⟩,hi,_⟩
  rw[CP,h,Du];exact bh (by omega)
 ·rintro i acc σ H' ⟨_,_,h,_⟩
  rw[CP];exact h
 ·rintro i acc σ H' ⟨sm,_⟩
  exact bp.of (sm _ _ hl)
 ·rintro i x acc σ H' hx ⟨sm,⟨as,rfl,hA⟩,hi,y,rfl⟩
  have hlt:i<ts.length:=by have:=(CM.mp hx).1;rwa [CP]at this
  rw[CS,mk hlt]at hx;cases hx;have hlr:i<rs.length:=by omega
  have hrr:rs[i]?=some rs[i]:=mk hlr;have ht:=sm _ _ (hat i ts[i] rs[i] (mk hlt) hrr);walk_at "wp";refine⟨ts[i],rs[i],rfl,ht,hg _ (CZ hlr),fun b H2 hb s2=>⟨sm.trans s2,⟨as++[b],by rw[C6];rfl,?_⟩,hlt⟩⟩;have hal:as.length=i:=by have:=hA.1;rw[Du]at this;omega
  rw[List.take_add_one,hrr];refine⟨by rw[Df,Df,hA.1];rfl,fun j a r e1 e2=>?_⟩
  by_cases hj:j<as.length
  ·rw[Dd hj]at e1
   rw[Dd (by rw[<- hA.1];exact hj)]at e2;exact(hA.2 j a r e1 e2).up s2
  ·rw[Dc (by omega)]at e1
   rw[Dc (by rw[<- hA.1];omega)]at e2;have:j-as.length=0:=by
    have:=(CM.mp e1).1;simp at this;omega
   rw[this]at e1;rw[<- hA.1,this]at e2;cases e1;cases e2
   exact hb
 ·rintro acc σ H' ⟨sm,⟨as,rfl,hA⟩,_⟩
  rw[CP,htl,Ds]at hA;exact q as H' sm hA
noncomputable def ya(rs:List (Nat×RV)):List ThM.NR:=rs.map fun r=>(tx r.2.n,(aJ r.1 r.2).map tx)
theorem sj{ks:List Str}{z y:Str}:y∈cZ ks z↔y∈ks\/y=z:=ThM.mem_addNew
theorem jx{y:Str}:∀(zs ks:List Str),y∈zs.foldl cZ ks↔y∈ks\/y∈zs
 | [],ks=>by simp
 |z::zs,ks=>by
  rw[List.foldl_cons,jx zs,sj,C9];exact⟨fun h=>h.elim (fun h=>h.elim .inl fun e=>.inr (.inl e)) fun h=>.inr (.inr h),fun h=>h.elim (fun h=>.inl (.inl h)) fun h=>h.elim (fun e=>.inl (.inr e)) .inr⟩
theorem uf(z:Str)(rs:List (Nat×RV))(r:Nat×RV):(aB z (rs++[r])).map (·.1)=(tx r.2.n::(aJ r.1 r.2).map tx).foldl cZ ((aB z rs).map (·.1)):=by
 unfold aB;rw[dZ,uv]
theorem ve{α:Type}{P:List α->Prop}(h0:P [])(h1:∀rs r,P rs->P (rs++[r]))(rs:List α):P rs:=by
 have:∀(n:Nat) (rs:List α),rs.length=n->P rs:=by
  intro n
  induction n with
  |zero=>intro rs h;rw[Dx.mp h];exact h0
  |succ n ih=>
   intro rs h;have hne:rs≠[]:=by intro e;rw[e]at h;cases h
   rw[<- List.dropLast_concat_getLast hne];exact h1 _ _ (ih _ (by rw[List.length_dropLast];omega))
 exact this _ rs rfl
theorem gm(z:Str)(rs:List (Nat×RV)):∀y,y∈(aB z rs).map (·.1)↔y=z\/∃r∈ya rs,y=r.1\/y∈r.2:=by
 refine ve (P:=fun rs=>∀y,y∈(aB z rs).map (·.1)↔y=z\/∃r∈ya rs,y=r.1\/y∈r.2) ?_ ?_ rs
 ·intro y
  have e:(aB z []).map (·.1)=[z]:=rfl;rw[e];unfold ya;simp
 ·intro rs r ih y
  rw[uf,jx,ih y,C9];unfold ya;rw[C6]
  constructor
  ·rintro((h | ⟨q,hq,h⟩) | h)
   ·exact .inl h
   ·exact .inr ⟨q,C7.mpr (.inl hq),h⟩
   ·exact .inr ⟨_,C7.mpr (.inr (CQ.mpr rfl)),h⟩
  ·rintro(h | ⟨q,hq,h⟩)
   ·exact .inl (.inl h)
   ·rcases C7.mp hq with hq | hq
    ·exact .inl (.inr ⟨q,hq,h⟩)
    ·rw[CQ.mp hq]at h
     exact .inr h
theorem xH{sg:List Nat}{c:Nat}(h:c∈sg):zI (tx sg) (tx [c])=true:=by
 have:=StrLaws.found_one (tx sg) c;show(!(Builtin.Str.occurrences (tx sg) ⟨#[c]⟩ 0 (tx sg).length 1).isEmpty)=true;rw[this,kl,decide_eq_true h]
theorem jn{sg:List Nat}:∀{rs:List (Nat×RV)} {j:Nat},(∀r∈rs,∃c∈sg,r.2.sg=[c])->d8 (tx sg) rs j=none
 | [],_,_=>rfl
 |r::rs,j,h=>by
  obtain⟨c,hc,e⟩:=h r List.mem_cons_self;unfold d8;rw[if_neg (fun z=>by rw[e,xH hc]at z;exact absurd z.2 (by decide))];exact jn fun r' hr'=>h r' (C_ _ hr')
theorem mO{p:fY}{sg st:List Nat}{rs:List (Nat×RV)}(hsg:c7 sg=true)(hst:st∈p)(hpn:∀r∈p,cw r=true)(hp:p.length<=8)(hn:rs.length<=24)(hr:∀r∈rs,sN p sg r):fk sg st rs=none:=by
 have h0:fH sg st rs=none:=by
  unfold fH;rw[if_neg (by rw[hsg];decide),if_neg (by rw[hpn _ hst];decide),if_neg (by omega),jn fun r h=>(hr r h).sg]
 unfold fk;rw[h0];simp only[];rw[if_neg];have hk:∀z∈(aB (tx st) rs).map (·.1),z∈p.map tx:=fun z hz=>by
  rcases(gm _ _ _).mp hz with e | ⟨q,hq,e⟩
  ·rw[e];exact List.mem_map_of_mem hst
  ·unfold ya at hq
   obtain⟨r,hr',rfl⟩:=Dy.mp hq;have R:=hr r hr';rcases e with e | e
   ·rw[e];exact List.mem_map_of_mem R.n
   ·obtain⟨y,hy,rfl⟩:=Dy.mp e
    refine List.mem_map_of_mem ?_;obtain⟨k,v⟩:=r;rcases jr R.good.k4 with rfl | rfl | rfl | rfl
    ·exact absurd hy List.not_mem_nil
    ·rcases(show y=v.o1\/y=v.o2 by simpa[aJ]using hy) with rfl | rfl
     ·exact R.o1
     ·exact R.o2
    ·rcases(show y=v.o1\/y=v.o2 by simpa[aJ]using hy) with rfl | rfl
     ·exact R.o1
     ·exact R.o2
    ·rw[show y=v.o1 by simpa[aJ]using hy];exact R.o1
 have:=ThM.nd_len (jK (tx st) _ rs rfl).nd hk;rw[CP,CP]at this;omega
structure AN(K:W.Frag)(C:Addr):Prop where
 cl:fK K C
 na:al K C "signs"/\al K C "start"/\al K C "kept"/\al K C "numbers"
noncomputable abbrev TR:=List Nat×Nat×Nat×Int
noncomputable def fw(r c:Nat):Int:=2*(r:Int)*(c:Int)-1
theorem iQ(r c:Nat):fw r c=2*((r*c:Nat):Int)-1:=by unfold fw;push_cast;rw[Int.mul_assoc]
theorem cX{r c:Nat}(hr:1<=r)(hc:1<=c):1<=fw r c:=by
 rw[iQ];have:1<=r*c:=Nat.mul_pos hr hc;omega
noncomputable def ja(lo hi:Int):List Int:=(List.range (hi-lo).toNat).map fun(j:Nat)=>lo+(j:Int)
theorem tW{lo hi x:Int}:x∈ja lo hi↔lo<=x/\x<hi:=by
 unfold ja;rw[Dy]
 constructor
 ·rintro⟨j,hj,rfl⟩
  rw[List.mem_range]at hj;omega
 ·rintro⟨h1,h2⟩
  exact⟨(x-lo).toNat,by rw[List.mem_range];omega,by omega⟩
noncomputable def aU(o1 o2:List Nat)(szs:List ((Nat×Nat)×(Nat×Nat)))(left:Int):List (List TR):=
 szs.flatMap fun z=>(ja (fw z.1.1 z.1.2) (left-fw z.2.1 z.2.2+1)).map fun f=>[(o1,z.1.1,z.1.2,f),(o2,z.2.1,z.2.2,left-f)]
noncomputable def bQ(r c:Nat):List ((Nat×Nat)×(Nat×Nat)):=(List.range (c-1)).map fun i=>((r,1+i),(r,c-(1+i)))
noncomputable def bR(r c:Nat):List ((Nat×Nat)×(Nat×Nat)):=(List.range (r-1)).map fun i=>((1+i,c),(r-(1+i),c))
noncomputable def cv(q:Nat×RV)(r c:Nat)(k:Int):List (List TR):=match q.1 with
 |0=>if r=1/\c=1/\k=q.2.c then[[]] else[]
 |1=>aU q.2.o1 q.2.o2 (bQ r c) (k-q.2.c)
 |2=>aU q.2.o1 q.2.o2 (bR r c) (k-q.2.c)
 |_=>[[(q.2.o1,if q.2.t%2=1 then c else r,if q.2.t%2=1 then r else c,k-q.2.c)]]
noncomputable def aL(f:TR->Nat)(ps:List TR):Nat:=ps.foldl (fun m p=>m*f p) 1
noncomputable def cz(z:List Nat)(rs:List (Nat×RV)):List (Nat×RV):=rs.filter fun q=>decide (q.2.n=z)
noncomputable def qC(rs:List (Nat×RV)):Nat->TR->Nat
 |0,_=>0
 |f+1,p=>if p.2.1=0\/p.2.2.1=0\/6<p.2.1\/6<p.2.2.1\/p.2.2.2<fw p.2.1 p.2.2.1 then 0 else
  ((cz p.1 rs).map fun q=>((cv q p.2.1 p.2.2.1 p.2.2.2).map fun ps=>aL (qC rs f) ps).sum).sum
structure y7(q:Nat×RV)(r c:Nat)(k:Int)(p:TR):Prop where
 lt:p.2.2.2<k
 ge:1<=p.2.2.2\/k-q.2.c<=p.2.2.2
 r1:1<=p.2.1
 c1:1<=p.2.2.1
 rm:p.2.1<=max r c
 cm:p.2.2.1<=max r c
 nm:(p.1=q.2.o1)\/(p.1=q.2.o2/\(q.1=1\/q.1=2))
theorem dv{o1 o2:List Nat}{szs:List ((Nat×Nat)×(Nat×Nat))}{left:Int}{ps:List TR}(h:ps∈aU o1 o2 szs left) :
  ∃z∈szs,∃f,fw z.1.1 z.1.2<=f/\f<=left-fw z.2.1 z.2.2/\ps=[(o1,z.1.1,z.1.2,f),(o2,z.2.1,z.2.2,left-f)]:=by
 unfold aU at h;obtain⟨z,hz,h⟩:=List.mem_flatMap.mp h;obtain⟨f,hf,e⟩:=Dy.mp h;have:=tW.mp hf;exact⟨z,hz,f,this.1,by omega,e.symm⟩
theorem rG{r c:Nat}{z:(Nat×Nat)×(Nat×Nat)}(h:z∈bQ r c):z.1.1=r/\z.2.1=r/\1<=z.1.2/\1<=z.2.2/\z.1.2+z.2.2=c:=by
 obtain⟨i,hi,rfl⟩:=Dy.mp h;rw[List.mem_range]at hi;refine⟨rfl,rfl,?_,?_,?_⟩<;>show _<;>simp<;>omega
theorem rH{r c:Nat}{z:(Nat×Nat)×(Nat×Nat)}(h:z∈bR r c):z.1.2=c/\z.2.2=c/\1<=z.1.1/\1<=z.2.1/\z.1.1+z.2.1=r:=by
 obtain⟨i,hi,rfl⟩:=Dy.mp h;rw[List.mem_range]at hi;refine⟨rfl,rfl,?_,?_,?_⟩<;>show _<;>simp<;>omega
structure qQ(r c:Nat)(z:(Nat×Nat)×(Nat×Nat)):Prop where
 a:1<=z.1.1
 b:1<=z.1.2
 d:1<=z.2.1
 e:1<=z.2.2
 ma:z.1.1<=max r c
 mb:z.1.2<=max r c
 md:z.2.1<=max r c
 me:z.2.2<=max r c
 fe:fw z.1.1 z.1.2+fw z.2.1 z.2.2+1=fw r c
theorem dD{r c:Nat}(hr:1<=r){z:(Nat×Nat)×(Nat×Nat)}(h:z∈bQ r c):qQ r c z:=by
 obtain⟨h1,h2,h3,h4,h5⟩:=rG h;obtain⟨⟨a,b⟩,d,e⟩:=z;simp only at h1 h2 h3 h4 h5;subst h1 h2 h5;refine⟨hr,h3,hr,h4,by simp;omega,by simp;omega,by simp;omega,by simp;omega,?_⟩;simp only[iQ,Nat.mul_add];omega
theorem dC{r c:Nat}(hc:1<=c){z:(Nat×Nat)×(Nat×Nat)}(h:z∈bR r c):qQ r c z:=by
 obtain⟨h1,h2,h3,h4,h5⟩:=rH h;obtain⟨⟨a,b⟩,d,e⟩:=z;simp only at h1 h2 h3 h4 h5;subst h1 h2 h5;refine⟨h3,hc,h4,hc,by simp;omega,by simp;omega,by simp;omega,by simp;omega,?_⟩;simp only[iQ,Nat.add_mul];omega
theorem dj{q:Nat×RV}{r c:Nat}{k:Int}{ps:List TR}(h4:q.1<4)(hr:1<=r)(hc:1<=c)(h:ps∈cv q r c k) :
  ps=[]\/(∃p,ps=[p]/\p.1=q.2.o1/\p.2.2.2=k-q.2.c/\((p.2.1=r/\p.2.2.1=c)\/(p.2.1=c/\p.2.2.1=r))) \/
  ((q.1=1\/q.1=2)/\∃z f,qQ r c z/\fw z.1.1 z.1.2<=f/\f<=k-q.2.c-fw z.2.1 z.2.2/\ps=[(q.2.o1,z.1.1,z.1.2,f),(q.2.o2,z.2.1,z.2.2,k-q.2.c-f)]):=by
 obtain⟨t,v⟩:=q;have:t=0\/t=1\/t=2\/t=3:=by simp at h4;omega
 rcases this with rfl | rfl | rfl | rfl
 ·left
  change ps∈(if r=1/\c=1/\k=v.c then[[]] else[]) at h
  split at h
  ·simpa using h
  ·simp at h
 ·right;right
  obtain⟨z,hz,f,h1,h2,h3⟩:=dv (show ps∈aU v.o1 v.o2 (bQ r c) (k-v.c) from h);exact⟨.inl rfl,z,f,dD hr hz,h1,h2,h3⟩
 ·right;right
  obtain⟨z,hz,f,h1,h2,h3⟩:=dv (show ps∈aU v.o1 v.o2 (bR r c) (k-v.c) from h);exact⟨.inr rfl,z,f,dC hc hz,h1,h2,h3⟩
 ·right;left
  change ps∈[[(v.o1,(if v.t%2=1 then c else r),(if v.t%2=1 then r else c),k-v.c)]]at h;refine⟨_,by simpa using h,rfl,rfl,?_⟩
  by_cases e:v.t%2=1
  ·right;simp[e]
  ·left;simp[e]
theorem lJ{q:Nat×RV}{r c:Nat}{k:Int}{ps:List TR}{p:TR}(h4:q.1<4)(hq:1<=q.2.c)(hr:1<=r)(hc:1<=c)(h:ps∈cv q r c k)(hp:p∈ps):y7 q r c k p:=by
 rcases dj h4 hr hc h with rfl | ⟨p',rfl,e1,e2,e3⟩ | ⟨hk,z,f,sz,h1,h2,rfl⟩
 ·cases hp
 ·rw[CQ.mp hp]
  refine⟨by omega,.inr (by omega),?_,?_,?_,?_,.inl e1⟩<;>rcases e3 with⟨a,b⟩ | ⟨a,b⟩<;>simp only[a,b]<;>omega
 ·have f1:=cX sz.a sz.b
  have f2:=cX sz.d sz.e;rcases(show p=_\/p=_ by simpa using hp) with rfl | rfl
  ·exact⟨by show f<k;omega,.inl (by show 1<=f;omega),sz.a,sz.b,sz.ma,sz.mb,.inl rfl⟩
  ·exact⟨by show k-q.2.c-f<k;omega,.inl (by show 1<=k-q.2.c-f;omega),sz.d,sz.e,sz.md,sz.me,.inr ⟨rfl,hk⟩⟩
theorem oi{f g:TR->Nat}:∀{ps:List TR},(∀p∈ps,f p=g p)->aL f ps=aL g ps:=by
 intro ps h;unfold aL
 suffices this:∀m,ps.foldl (fun m p=>m*f p) m=ps.foldl (fun m p=>m*g p) m from this 1
 induction ps with
 |nil=>intro m;rfl
 |cons p ps ih=>
  intro m;rw[List.foldl_cons,List.foldl_cons,h p List.mem_cons_self];exact ih (fun p' hp'=>h p' (C_ _ hp')) _
noncomputable def gw(rs:List (Nat×RV)):Prop:=∀q∈rs,q.1<4/\1<=q.2.c/\q.2.c<=9
theorem dh{z:List Nat}{rs:List (Nat×RV)}{q:Nat×RV}(h:q∈cz z rs):q∈rs/\q.2.n=z:=by
 unfold cz at h;rw[List.mem_filter,decide_eq_true_eq]at h;exact h
theorem um{rs:List (Nat×RV)}(hg:gw rs){f g:Nat}{p:TR}(h:∀p':TR,p'.2.2.2<p.2.2.2->qC rs f p'=qC rs g p'):qC rs (f+1) p=qC rs (g+1) p:=by
 unfold qC
 split
 ·rfl
 ·rename_i hn
  congr 1
  refine List.map_congr_left fun q hq=>?_
  congr 1
  refine List.map_congr_left fun ps hps=>oi fun p' hp'=>h p' ?_;obtain⟨h1,h2,_⟩:=hg q (dh hq).1;exact(lJ h1 h2 (by omega) (by omega) hps hp').lt
theorem ni{rs:List (Nat×RV)}{f:Nat}{p:TR}(h:p.2.2.2<1):qC rs f p=0:=by
 cases f with
 |zero=>rfl
 |succ f=>
  unfold qC
  split
  ·rfl
  ·rename_i hn
   have:=cX (r:=p.2.1) (c:=p.2.2.1) (by omega) (by omega);omega
theorem qo{rs:List (Nat×RV)}(hg:gw rs):∀(f:Nat) (p:TR),p.2.2.2<(f:Int)+1->qC rs (f+1) p=qC rs f p
 |0,p,h=>by rw[ni (by simpa using h),ni (by simpa using h)]
 |f+1,p,h=>um hg fun p' hp'=>qo hg f p' (by push_cast at h;omega)
noncomputable abbrev CN(rs:List (Nat×RV))(p:TR):Nat:=qC rs 17 p
theorem sI{rs:List (Nat×RV)}(hg:gw rs){p:TR}(hk:p.2.2.2<=16):CN rs p=if p.2.1=0\/p.2.2.1=0\/6<p.2.1\/6<p.2.2.1\/p.2.2.2<fw p.2.1 p.2.2.1 then 0 else
  ((cz p.1 rs).map fun q=>((cv q p.2.1 p.2.2.1 p.2.2.2).map fun ps=>aL (CN rs) ps).sum).sum:=by
 have e:qC rs 17 p=qC rs 18 p:=(qo hg 17 p (by push_cast;omega)).symm;unfold CN;rw[e]
 rfl
theorem ol{rs:List (Nat×RV)}{p:TR}(h:p.2.2.2<fw p.2.1 p.2.2.1):CN rs p=0:=by
 unfold CN qC;rw[if_pos (by omega)]
noncomputable def fT(F:Int->Nat)(lo:Int)(n:Nat):Nat:=((List.range n).map fun(j:Nat)=>F (lo+(j:Int))).sum
theorem jF{F:Int->Nat}{lo:Int}:fT F lo 0=0:=rfl
theorem eX{F:Int->Nat}{lo:Int}{n:Nat}:fT F lo (n+1)=fT F lo n+F (lo+(n:Int)):=by
 unfold fT;rw[List.range_succ,C6,List.sum_append];simp
theorem lC{F:Int->Nat}{lo:Int}{m:Nat}:∀n:Nat,fT F lo (m+n)=fT F lo m+fT F (lo+(m:Int)) n
 |0=>by rw[Nat.add_zero,jF,Nat.add_zero]
 |n+1=>by
  rw[<- Nat.add_assoc,eX,eX,lC n,Nat.add_assoc]
  congr 3
  push_cast
  omega
theorem gQ{F:Int->Nat}{lo:Int}:∀{n:Nat},(∀x,lo<=x->x<lo+(n:Int)->F x=0)->fT F lo n=0
 |0,_=>rfl
 |n+1,h=>by rw[eX,gQ fun x h1 h2=>h x h1 (by push_cast;omega),h _ (by omega) (by push_cast;omega)]
theorem qj{F:Int->Nat}{lo a b:Int}{n:Nat}(h0:∀x,¬ (a<=x/\x<b)->F x=0)(h1:lo<=a)(h2:b<=lo+(n:Int)):fT F lo n=fT F a (b-a).toNat:=by
 by_cases hab:a<b
 ·obtain⟨m,hm⟩:∃m:Nat,a=lo+(m:Int):=⟨(a-lo).toNat,by omega⟩
  obtain⟨d,hd⟩:∃d:Nat,b=a+(d:Int):=⟨(b-a).toNat,by omega⟩;obtain⟨e,he⟩:∃e:Nat,lo+(n:Int)=b+(e:Int):=⟨(lo+n-b).toNat,by omega⟩;have hn:n=m+d+e:=by omega
  rw[hn,lC,lC,gQ fun x x1 x2=>h0 x (by omega),gQ (lo:=lo+((m+d:Nat):Int)) fun x x1 x2=>h0 x (by push_cast at x1;omega),hm];have:(b-(lo+(m:Int))).toNat=d:=by omega
  rw[this];omega
 ·rw[gQ fun x _ _=>h0 x (by omega),show(b-a).toNat=0 by omega];rfl
theorem jZ{α β:Type}{g:β->Nat}{f:α->List β}:∀l:List α,((l.flatMap f).map g).sum=(l.map fun x=>((f x).map g).sum).sum
 | []=>rfl
 |x::l=>by rw[List.flatMap_cons,C6,List.sum_append,jZ l,Dl,List.sum_cons]
theorem pV{α:Type}{g:α->Nat}{l:List α}(h:∀x∈l,g x=0):(l.map g).sum=0:=by
 induction l with
 |nil=>rfl
 |cons x l ih=>rw[Dl,List.sum_cons,h x List.mem_cons_self,ih fun y hy=>h y (C_ _ hy)]
theorem on{α:Type}(g:α->Nat)(b:Nat):∀(l:List α),(∀x∈l,g x<=b)->(l.map g).sum<=l.length*b
 | [],_=>by simp
 |x::l,h=>by
  have h1:=on g b l fun y hy=>h y (C_ _ hy);have h2:=h x List.mem_cons_self;rw[Dl,List.sum_cons,C5,Nat.add_mul];omega
noncomputable def a_(g:TR->Nat)(o1 o2:List Nat)(szs:List ((Nat×Nat)×(Nat×Nat)))(left:Int):Nat:=
 (szs.map fun z=>fT (fun x=>g (o1,z.1.1,z.1.2,x)*g (o2,z.2.1,z.2.2,left-x)) 1 (left-1).toNat).sum
noncomputable def b0(g:TR->Nat)(q:Nat×RV)(r c:Nat)(k:Int):Nat:=match q.1 with
 |0=>if k-q.2.c=0/\r=1/\c=1 then 1 else 0
 |1=>a_ g q.2.o1 q.2.o2 (bQ r c) (k-q.2.c)
 |2=>a_ g q.2.o1 q.2.o2 (bR r c) (k-q.2.c)
 |_=>g (q.2.o1,if q.2.t%2=1 then c else r,if q.2.t%2=1 then r else c,k-q.2.c)
theorem mT{rs:List (Nat×RV)}{o1 o2:List Nat}{szs:List ((Nat×Nat)×(Nat×Nat))}{left:Int}{r c:Nat}(hs:∀z∈szs,qQ r c z) :
  ((aU o1 o2 szs left).map fun ps=>aL (CN rs) ps).sum=a_ (CN rs) o1 o2 szs left:=by
 unfold aU a_;rw[jZ]
 congr 1
 refine List.map_congr_left fun z hz=>?_;have f1:=cX (hs z hz).a (hs z hz).b;have f2:=cX (hs z hz).d (hs z hz).e;have e:(((ja (fw z.1.1 z.1.2) (left-fw z.2.1 z.2.2+1)).map fun f=>[((o1,z.1.1,z.1.2,f):TR),(o2,z.2.1,z.2.2,left-f)]).map fun ps=>aL (CN rs) ps).sum =
   fT (fun x=>CN rs (o1,z.1.1,z.1.2,x)*CN rs (o2,z.2.1,z.2.2,left-x)) (fw z.1.1 z.1.2) (left-fw z.2.1 z.2.2+1-fw z.1.1 z.1.2).toNat:=by
  unfold ja fT;rw[C8,C8]
  congr 1
  refine List.map_congr_left fun j _=>?_;show aL (CN rs) [_,_]=_;simp[aL]
 rw[e]
 by_cases hl:1<=left
 ·refine(qj (fun x hx=>?_) (by omega) (by omega)).symm
  by_cases h1:x<fw z.1.1 z.1.2
  ·rw[ol (p:=(o1,z.1.1,z.1.2,x)) h1,Nat.zero_mul]
  ·rw[ol (p:=(o2,z.2.1,z.2.2,left-x)) (by show left-x<fw z.2.1 z.2.2;omega),Nat.mul_zero]
 ·rw[show(left-1).toNat=0 by omega,show(left-fw z.2.1 z.2.2+1-fw z.1.1 z.1.2).toNat=0 by omega];rfl
theorem mZ{rs:List (Nat×RV)}{q:Nat×RV}{r c:Nat}{k:Int}(h4:q.1<4)(hr:1<=r)(hc:1<=c):((cv q r c k).map fun ps=>aL (CN rs) ps).sum=b0 (CN rs) q r c k:=by
 obtain⟨t,v⟩:=q;have:t=0\/t=1\/t=2\/t=3:=by simp at h4;omega
 rcases this with rfl | rfl | rfl | rfl
 ·show((if r=1/\c=1/\k=v.c then[[]] else[]).map _).sum=if k-v.c=0/\r=1/\c=1 then 1 else 0
  by_cases h:r=1/\c=1/\k=v.c
  ·rw[if_pos h,if_pos ⟨by omega,h.1,h.2.1⟩];rfl
  ·rw[if_neg h,if_neg (by omega)];rfl
 ·exact mT fun z hz=>dD hr hz
 ·exact mT fun z hz=>dC hc hz
 ·show([[_]].map _).sum=_
  simp[aL,b0]
theorem vV{rs:List (Nat×RV)}{q:Nat×RV}{r c:Nat}{k:Int}(h4:q.1<4)(h1:1<=q.2.c)(hr:1<=r)(hc:1<=c)(hk:k<fw r c):b0 (CN rs) q r c k=0:=by
 rw[<- mZ h4 hr hc];refine pV fun ps hps=>?_;rcases dj h4 hr hc hps with rfl | ⟨p,rfl,e1,e2,e3⟩ | ⟨_,z,f,sz,f1,f2,rfl⟩
 ·exfalso
  obtain⟨t,v⟩:=q;have:t=0\/t=1\/t=2\/t=3:=by simp at h4;omega
  rcases this with rfl | rfl | rfl | rfl
  ·change[]∈(if r=1/\c=1/\k=v.c then[[]] else[]) at hps
   split at hps
   ·rename_i e
    obtain⟨rfl,rfl,rfl⟩:=e;simp[fw]at hk;simp at h1;omega
   ·simp at hps
  ·obtain⟨z,hz,f,_,_,h3⟩:=dv (show[]∈aU v.o1 v.o2 (bQ r c) (k-v.c) from hps)
   cases h3
  ·obtain⟨z,hz,f,_,_,h3⟩:=dv (show[]∈aU v.o1 v.o2 (bR r c) (k-v.c) from hps)
   cases h3
  ·change[]∈[[_]]at hps
   simp at hps
 ·show aL (CN rs) [p]=0
  have:CN rs p=0:=ol (by
   have hf:fw p.2.1 p.2.2.1=fw r c:=by
    rcases e3 with⟨a,b⟩ | ⟨a,b⟩
    ·rw[a,b]
    ·rw[a,b,iQ,iQ,Nat.mul_comm]
   rw[hf,e2];omega)
  simp[aL,this]
 ·exfalso
  have:=sz.fe;omega
theorem ym{rs:List (Nat×RV)}(hg:gw rs){z:List Nat}{r c:Nat}{k:Int}(hr:1<=r)(hc:1<=c)(hr6:r<=6)(hc6:c<=6)(hk:k<=16):CN rs (z,r,c,k)=((cz z rs).map fun q=>b0 (CN rs) q r c k).sum:=by
 rw[sI hg (p:=(z,r,c,k)) hk];simp only
 by_cases hl:k<fw r c
 ·rw[if_pos (by omega)]
  exact(pV fun q hq=>vV (hg q (dh hq).1).1 (hg q (dh hq).1).2.1 hr hc hl).symm
 ·rw[if_neg (by omega)]
  congr 1
  exact List.map_congr_left fun q hq=>mZ (hg q (dh hq).1).1 hr hc
theorem dS(r c:Nat):(bQ r c).length=c-1:=by unfold bQ;rw[CP,List.length_range]
theorem dO(r c:Nat):(bR r c).length=r-1:=by unfold bR;rw[CP,List.length_range]
theorem cg{o1 o2:List Nat}{left:Int}{r c:Nat}(h15:left<=15):∀(szs:List ((Nat×Nat)×(Nat×Nat))),(∀z∈szs,qQ r c z)->(aU o1 o2 szs left).length<=szs.length*15
 | [],_=>Dg _
 |z::szs,h=>by
  have ih:=cg (o1:=o1) (o2:=o2) h15 szs fun z' hz'=>h z' (C_ _ hz');have f1:=cX (h z List.mem_cons_self).a (h z List.mem_cons_self).b;have f2:=cX (h z List.mem_cons_self).d (h z List.mem_cons_self).e;unfold aU at ih ⊢;rw[List.flatMap_cons,Df,C5,CP];unfold ja at ih ⊢;rw[CP,List.length_range];omega
theorem tU{f:TR->Nat}{q:Nat×RV}{r c:Nat}{k:Int}{ps:List TR}(h4:q.1<4)(hq:1<=q.2.c)(hr:1<=r)(hc:1<=c)(hk:1<=k)(h:ps∈cv q r c k)(hf:∀p∈ps,f p<=2 ^ (8*p.2.2.2.toNat)):aL f ps<=2 ^ (8*(k-1).toNat):=by
 have mono:∀{a b:Nat},a<=b->2 ^ (8*a)<=2 ^ (8*b):=fun h=>Nat.pow_le_pow_right (by decide) (by omega);rcases dj h4 hr hc h with rfl | ⟨p,rfl,e1,e2,e3⟩ | ⟨_,z,x,sz,f1,f2,rfl⟩
 ·exact Nat.one_le_two_pow
 ·have h1:=hf p List.mem_cons_self
  show 1*f p<=_;rw[Nat.one_mul];exact Dm h1 (mono (by omega))
 ·have g1:=cX sz.a sz.b
  have g2:=cX sz.d sz.e;have h1:=hf _ List.mem_cons_self;have h2:=hf _ (C_ _ List.mem_cons_self);show 1*f _*f _<=_;rw[Nat.one_mul];refine Dm (Nat.mul_le_mul h1 h2) ?_;rw[<- Nat.pow_add,<- Nat.mul_add];exact mono (by show x.toNat+(k-q.2.c-x).toNat<=_;omega)
theorem tO{q:Nat×RV}{r c:Nat}{k:Int}(h4:q.1<4)(hq:1<=q.2.c)(hr:1<=r)(hc:1<=c)(hr3:r<=3)(hc3:c<=3)(hk:k<=16):(cv q r c k).length<=30:=by
 obtain⟨t,v⟩:=q;have:t=0\/t=1\/t=2\/t=3:=by simp at h4;omega
 simp only at hq;rcases this with rfl | rfl | rfl | rfl
 ·show(if r=1/\c=1/\k=v.c then[[]] else[]).length<=30
  split<;>simp
 ·refine Dm (cg (by show k-v.c<=15;omega) _ fun z hz=>dD hr hz) ?_
  rw[dS];omega
 ·refine Dm (cg (by show k-v.c<=15;omega) _ fun z hz=>dC hc hz) ?_
  rw[dO];omega
 ·show([[_]]:List (List TR)).length<=30
  simp
theorem rZ{rs:List (Nat×RV)}(hg:gw rs)(h8:rs.length<=8):∀(f:Nat) (p:TR),p.2.1<=3->p.2.2.1<=3->p.2.2.2<=16->qC rs f p<=2 ^ (8*p.2.2.2.toNat)
 |0,_,_,_,_=>Dh _
 |f+1,p,hr3,hc3,hk=>by
  unfold qC
  split
  ·exact Dh _
  ·rename_i hn
   have hr:1<=p.2.1:=by omega
   have hc:1<=p.2.2.1:=by omega
   have k1:1<=p.2.2.2:=by have:=cX hr hc;omega
   refine Dm (on _ (32*2 ^ (8*(p.2.2.2-1).toNat)) _ fun q hq=>?_) ?_
   ·obtain⟨q4,qc,_⟩:=hg q (dh hq).1
    refine Dm (on _ (2 ^ (8*(p.2.2.2-1).toNat)) _ fun ps hps=>?_) ?_
    ·refine tU q4 qc hr hc k1 hps fun p' hp'=>?_
     have po:=lJ q4 qc hr hc hps hp';have:=po.rm;have:=po.cm;have:=po.lt;exact rZ hg h8 f p' (by omega) (by omega) (by omega)
    ·exact Nat.mul_le_mul (Dm (tO q4 qc hr hc hr3 hc3 hk) (by decide)) (Dg _)
   ·have hl:(cz p.1 rs).length<=8:=Dm (List.length_filter_le _ _) h8
    refine Dm (Nat.mul_le_mul hl (Dg _)) ?_;rw[<- Nat.mul_assoc,show 8*p.2.2.2.toNat=8+8*(p.2.2.2-1).toNat by omega,Nat.pow_add];exact Dg _
noncomputable def bI(p:TR):List bS:=[.inr (tx p.1),.inl (p.2.1:Int),.inl (p.2.2.1:Int),.inl p.2.2.2]
noncomputable def ik(p:TR):List V:=[.str (tx p.1),.int (p.2.1:Int),.int (p.2.2.1:Int),.int p.2.2.2]
theorem jA{a b:List Nat}(h:tx a=tx b):a=b:=by
 have e:(tx a).cps.toList=(tx b).cps.toList:=by rw[h]
 rwa [kl,kl]at e
theorem qA{p q:TR}(h:bI p=bI q):p=q:=by
 obtain⟨a,b,c,d⟩:=p;obtain⟨a',b',c',d'⟩:=q;unfold bI at h;simp only[List.cons.injEq,Sum.inr.injEq,Sum.inl.injEq,and_true]at h;obtain⟨h1,h2,h3,h4⟩:=h;rw[jA h1,show b=b' by omega,show c=c' by omega,h4]
noncomputable def pj(H:Hp)(l:Addr)(ps:List TR):Prop:=∃bs:List Addr,H l=some (.lst (bs.map V.ref))/\bs.length=ps.length/\∀(i:Nat) b p,bs[i]?=some b->ps[i]?=some p->H b=some (.tup (ik p))
noncomputable def dc(H0 H:Hp)(l:Addr)(pss:List (List TR)):Prop:=∃as:List Addr,H l=some (.lst (as.map V.ref))/\as.length=pss.length/\∀(i:Nat) a ps,as[i]?=some a->pss[i]?=some ps->(H0 a=none/\a≠l)/\pj H a ps
theorem pj.up{H H':Hp}{l:Addr}{ps:List TR}(h:pj H l ps)(s:ax H H'):pj H' l ps:=by
 obtain⟨bs,h1,h2,h3⟩:=h;exact⟨bs,s _ _ h1,h2,fun i b p e1 e2=>s _ _ (h3 i b p e1 e2)⟩
theorem dc.up{H0 H H':Hp}{l:Addr}{pss:List (List TR)}(h:dc H0 H l pss)(s:ax H H'):dc H0 H' l pss:=by
 obtain⟨as,h1,h2,h3⟩:=h;exact⟨as,s _ _ h1,h2,fun i a ps e1 e2=>⟨(h3 i a ps e1 e2).1,(h3 i a ps e1 e2).2.up s⟩⟩
theorem pj.put{H:Hp}{l a:Addr}{ps:List TR}{o:HO}(h:pj H a ps)(hne:a≠l)(hl:∃xs,H l=some (.lst xs)):pj (ar H l o) a ps:=by
 obtain⟨bs,h1,h2,h3⟩:=h;obtain⟨xs,hl⟩:=hl;exact⟨bs,by rw[ah hne];exact h1,h2,fun i b p e1 e2=>by
  have e:=h3 i b p e1 e2;rw[ah (fun z=>by rw[z,hl]at e;cases e)];exact e⟩
theorem dc.nil{H0 H:Hp}{l:Addr}(h:H l=some (.lst [])):dc H0 H l []:=⟨[],h,rfl,fun i a ps e=>by simp at e⟩
theorem dc.app{H0 H:Hp}{l a:Addr}{pss:List (List TR)}{ps:List TR}{xs:List V}(h:dc H0 H l pss)(hx:H l=some (.lst xs))(ha:pj H a ps)(hf:H0 a=none)(hne:a≠l):dc H0 (ar H l (.lst (xs++[V.ref a]))) l (pss++[ps]):=by
 obtain⟨as,h1,h2,h3⟩:=h;rw[hx]at h1;cases h1;refine⟨as++[a],by rw[ac,C6];rfl,by rw[Df,Df,h2];rfl,fun i b qs e1 e2=>?_⟩
 by_cases hi:i<as.length
 ·rw[Dd hi]at e1
  rw[Dd (by omega)]at e2;have:=h3 i b qs e1 e2;exact⟨this.1,this.2.put this.1.2 ⟨_,hx⟩⟩
 ·have hi2:i=as.length:=by
   have:=(CM.mp e1).1;simp at this;omega
  subst hi2;rw[Dc (Dg _),Nat.sub_self]at e1;rw[h2,Dc (Dg _),Nat.sub_self]at e2;cases e1;cases e2
  exact⟨⟨hf,hne⟩,ha.put hne ⟨_,hx⟩⟩
theorem dc.old{H0 H1 H:Hp}{l:Addr}{pss:List (List TR)}(h:dc H1 H l pss)(s:ax H0 H1):dc H0 H l pss:=by
 obtain⟨as,h1,h2,h3⟩:=h;exact⟨as,h1,h2,fun i a ps e1 e2=>⟨⟨s.free (h3 i a ps e1 e2).1.1,(h3 i a ps e1 e2).1.2⟩,(h3 i a ps e1 e2).2⟩⟩
noncomputable def xA(H:Hp)(as:List Addr)(szs:List ((Nat×Nat)×(Nat×Nat))):Prop:=as.length=szs.length/\∀(i:Nat) a z,as[i]?=some a->szs[i]?=some z->∃x y,H a=some (.tup [.ref x,.ref y])/\H x=some (.tup [.int (z.1.1:Int),.int (z.1.2:Int)])/\H y=some (.tup [.int (z.2.1:Int),.int (z.2.2:Int)])
noncomputable def Bu(H:Hp)(l:Addr)(szs:List ((Nat×Nat)×(Nat×Nat))):Prop:=∃as:List Addr,H l=some (.lst (as.map V.ref))/\xA H as szs
theorem xA.up{H H':Hp}{as:List Addr}{szs:List ((Nat×Nat)×(Nat×Nat))}(h:xA H as szs)(s:ax H H'):xA H' as szs:=⟨h.1,fun i a z e1 e2=>by
 obtain⟨x,y,h1,h2,h3⟩:=h.2 i a z e1 e2;exact⟨x,y,s _ _ h1,s _ _ h2,s _ _ h3⟩⟩
theorem xA.snoc{H:Hp}{as:List Addr}{szs:List ((Nat×Nat)×(Nat×Nat))}{a x y:Addr}{z:(Nat×Nat)×(Nat×Nat)}(h:xA H as szs)(h1:H a=some (.tup [.ref x,.ref y]))(h2:H x=some (.tup [.int (z.1.1:Int),.int (z.1.2:Int)]))(h3:H y=some (.tup [.int (z.2.1:Int),.int (z.2.2:Int)])):xA H (as++[a]) (szs++[z]):=by
 refine⟨by rw[Df,Df,h.1];rfl,fun i b w e1 e2=>?_⟩
 by_cases hi:i<as.length
 ·rw[Dd hi]at e1
  rw[Dd (by rw[<- h.1];exact hi)]at e2;exact h.2 i b w e1 e2
 ·have hi2:i=as.length:=by
   have:=(CM.mp e1).1;simp at this;omega
  subst hi2;rw[Dc (Dg _),Nat.sub_self]at e1;rw[h.1,Dc (Dg _),Nat.sub_self]at e2;cases e1;cases e2
  exact⟨x,y,h1,h2,h3⟩
noncomputable def cn(d1 d2:Addr)(H H':Hp):Prop:=∀x o,x≠d1->x≠d2->H x=some o->H' x=some o
theorem cn.of{d1 d2:Addr}{H H':Hp}(s:ax H H'):cn d1 d2 H H':=fun x o _ _ e=>s x o e
theorem cn.trans{d1 d2:Addr}{H H1 H2:Hp}(a:cn d1 d2 H H1)(b:cn d1 d2 H1 H2):cn d1 d2 H H2:=fun x o h1 h2 e=>b x o h1 h2 (a x o h1 h2 e)
theorem cn.put1{d1 d2:Addr}{H:Hp}{o:HO}:cn d1 d2 H (ar H d1 o):=fun x u h1 _ e=>by rw[ah h1];exact e
theorem cn.put2{d1 d2:Addr}{H:Hp}{o:HO}:cn d1 d2 H (ar H d2 o):=fun x u _ h2 e=>by rw[ah h2];exact e
noncomputable def zg:HO->Prop | .dT _=>True | _=>False
noncomputable def Kp(H H':Hp):Prop:=∀x o,¬ zg o->H x=some o->H' x=some o
theorem Kp.of{H H':Hp}(s:ax H H'):Kp H H':=fun x o _ e=>s x o e
theorem Kp.put{H:Hp}{d:Addr}{m:List (List bS×V)}{o:HO}(hd:H d=some (.dT m)):Kp H (ar H d o):=fun x u h e=>by
 rw[ah (fun z=>by rw[z,hd]at e;cases e;exact h trivial)];exact e
theorem Kp.lst{H H':Hp}(s:Kp H H'){a:Addr}{xs:List V}(h:H a=some (.lst xs)):H' a=some (.lst xs):=s _ _ id h
theorem Kp.tup{H H':Hp}(s:Kp H H'){a:Addr}{xs:List V}(h:H a=some (.tup xs)):H' a=some (.tup xs):=s _ _ id h
theorem Kp.ins{H H':Hp}(s:Kp H H'){a C dx:Addr}{fs:List (Str×V)}(h:H a=some (.ins C dx fs)):H' a=some (.ins C dx fs):=s _ _ id h
theorem Kp.dK{H H':Hp}(s:Kp H H'){a:Addr}{fs:List (bS×V)}(h:H a=some (.dK fs)):H' a=some (.dK fs):=s _ _ id h
theorem pj.kp{H H':Hp}{l:Addr}{ps:List TR}(h:pj H l ps)(s:Kp H H'):pj H' l ps:=by
 obtain⟨bs,h1,h2,h3⟩:=h;exact⟨bs,s.lst h1,h2,fun i b p e1 e2=>s.tup (h3 i b p e1 e2)⟩
theorem bE.kp{R:RC}{H H':Hp}{as:List Addr}{rs:List (Nat×RV)}(h:bE R H as rs)(s:Kp H H'):bE R H' as rs:=by
 refine⟨h.1,fun i b r e1 e2=>?_⟩;obtain⟨d,l,h1,h2⟩:=h.2 i b r e1 e2;exact⟨d,l,s.ins h1,s.lst h2⟩
theorem e_.kp{R:RC}{H H':Hp}{C dx a:Addr}{sg st:List Nat}{as:List Addr}{rs:List (Nat×RV)}(g:e_ R H C dx a sg st as rs)(s:Kp H H'):e_ R H' C dx a sg st as rs:=by
 obtain⟨lk,pn,t,h1,h2,h3,h4,h5⟩:=g;exact⟨lk,pn,t,s.ins h1,s.lst h2,h3.kp s,⟨s.dK h4.dict,fun x hx=>s.lst (h4.list x hx),h4.apart⟩,h5⟩
noncomputable abbrev k_:Stmt:=lW 29
noncomputable def gY(K:W.Frag):Sp:=fun vs H Q _=>∃(a:Addr) (r c:Nat),vs=[.ref a]/\bv K H a [.int (r:Int),.int (c:Int)]/\r<=100/\c<=100/\Q (.int (fw r c)) H
theorem ul:av ["size"] ["size"] (ai k_):=by walk_at "c"
theorem uk{f:Addr}{fd:FuncData}(F:di K "fewest" "fewest" k_ f fd):aO P w K mg base bY 1 f fd ["size"] (gY K):=by
 have sc:=ul;walk_at "f"
 ·obtain⟨a,r,c,rfl,_⟩:=h;rfl
 ·obtain⟨a,r,c,rfl,sq,hr3,hc3,q⟩:=h
  refine⟨_,(aj (aA (ap (aN.m0 cE) (ap (aN.m1 cY) (ap (aN.m1 cY) ae (az aq (ak 0) ae (fun _ _=>rfl))) (az aq (ak 0) ae (fun _ _=>rfl))) ae))),?_⟩;walk_at "wp";exact⟨_,sq,_,rfl,_,rfl,_,sq,_,rfl,_,rfl,.inl ⟨by omega,by omega⟩,q⟩
theorem gS{H:Hp}{a b:Addr}{xs ys:List V}{Q:VK}(ha:H a=some (.tup xs))(hb:H b=some (.tup ys))(hx:xs≠[])(hy:ys≠[])(hz:xs.length+ys.length<=1000)(q:∀p,H p=none->Q (.ref p) (ar H p (.tup (xs++ys)))):x' K (.ref a) (.ref b) H Q:=
 ⟨a,b,xs,ys,rfl,rfl,bv.of ha,bv.of hb,hx,am (by omega),fun e=>absurd e hy,fun _=>q⟩
noncomputable abbrev eu:Stmt:=lW 30
noncomputable def dQ(K:W.Frag):Sp:=fun vs H Q _=>∃(a C dx lp l:Addr) (n o1 o2:List Nat) (c left:Int) (szs:List ((Nat×Nat)×(Nat×Nat))) (rr cc:Nat),vs=[.ref a,.ref l,.int left]/\H a=some (.ins C dx (wc n c lp o1 o2))/\j' K C/\al K C "one"/\al K C "other"/\Bu H l szs/\szs.length<=10/\(∀z∈szs,qQ rr cc z)/\rr<=6/\cc<=6/\left<=15/\-100<=left /\
 ∀l' H',H l'=none->dc H H' l' (aU o1 o2 szs left)->ax H H'->Q (.ref l') H'
theorem lb:av ["rule","sizes","left","found","one","other","first"] ["rule","sizes","left"] (ai eu):=by walk_at "c"
theorem dc.len{H0 H:Hp}{l:Addr}{pss:List (List TR)}{xs:List V}(h:dc H0 H l pss)(hx:H l=some (.lst xs)):xs.length=pss.length:=by
 obtain⟨as,h1,h2,_⟩:=h;rw[hx]at h1;cases h1;rw[CP,h2]
theorem mh{o1 o2:List Nat}{left:Int}{szs:List ((Nat×Nat)×(Nat×Nat))}{i:Nat}{z:(Nat×Nat)×(Nat×Nat)}(h:szs[i]?=some z):aU o1 o2 (szs.take (i+1)) left=aU o1 o2 (szs.take i) left++(ja (fw z.1.1 z.1.2) (left-fw z.2.1 z.2.2+1)).map fun f=>[(o1,z.1.1,z.1.2,f),(o2,z.2.1,z.2.2,left-f)]:=by
 unfold aU;rw[List.take_add_one,h,List.flatMap_append];simp
theorem lg{f:Addr}{fd:FuncData}(F:di K "paired_rows" "paired_rows" eu f fd)(nb:NB mg)(c_fewest:gW P w K mg base bY 1 "fewest" ["size"] (gY K)):aO P w K mg base bY 2 f fd ["rule","sizes","left"] (dQ K):=by
 have sc:=lb;walk_at "f"
 ·obtain⟨a,C,dx,lp,l,n,o1,o2,c,left,szs,rr,cc,rfl,_⟩:=h;rfl
 ·obtain⟨a,C,dx,lp,l,n,o1,o2,c,left,szs,rr,cc,rfl,ha,cl,n1,n2,⟨as,hl,hal,hat⟩,hsz,hok,rr6,cc6,hl15,hlm,q⟩:=h
  refine⟨_,(ag (ay (i:=3) sc.nd rfl (Or.inl rfl) (bJ ad))
   (ag (bj PassesOwn.never rfl (cB (ak 1)) (nJ (n:=2) rfl (cT (aC (i:=4) sc.nd rfl (Or.inl rfl)) (cT (aC (i:=5) sc.nd rfl (Or.inl rfl)) ky)))
   (aj (bj PassesOwn.never rfl (b9 rfl nb.range (aa (aI c_fewest (hr.mono (by decide)) rfl bo (aa (ak 4) ad)) (aa (ap (aN.m0 bw) (ap (aN.m0 cE) (ak 2) (aI c_fewest (hr.mono (by decide)) rfl bo (aa (ak 5) ad))) ae) ad))) (aC (i:=6) sc.nd rfl (Or.inl rfl))
   (aj (cQ (mR PySem.F.plainAttrs_list PySem.F.slot_list_append PySem.F.type_list_append gN (ak 3) (aa (bJ (aa (ap g6 (ap g6 (aE (aa (bg (ak 0) rfl) ad)) (ak 4)) (aE (aa (ak 6) ad))) (aa (ap g6 (ap g6 (aE (aa (bg (ak 0) rfl) ad)) (ak 5)) (aE (aa (ap (aN.m0 cE) (ak 2) (ak 6)) ad))) ad))) ad)))))))
   (aj (aA (ak 3))))),?_⟩
  walk_at "n";refine⟨am (by decide),fun lf hlf=>h1 _ _ ?_⟩;clear h1;have s1:=af (o:=.lst []) hlf;have e1:ar H lf (.lst []) lf=some (.lst []):=ac;generalize ar H lf (.lst [])=H1 at s1 e1 ⊢;walk_at "n";refine⟨⟨_,bp.of (s1 _ _ hl)⟩,?_⟩;refine cH (xs:=as.map V.ref) (fun i σ H'=>ax H H'/\i<=as.length/\dc H H' lf (aU o1 o2 (szs.take i) left)/\∃x y z,σ=[some (V.ref a),some (V.ref l),some (V.int left),some (V.ref lf),x,y,z]) ⟨s1,Dh _,dc.nil e1,_,_,_,rfl⟩ (fun i σ H' _ h=>bp.of (h.1 _ _ hl)) ?_ ?_
  ·rintro i x σ H' hx ⟨sm,hi,hT,x1,y1,z1,rfl⟩
   have hlt:i<as.length:=by have:=(CM.mp hx).1;rwa [CP]at this
   rw[CS,mk hlt]at hx;cases hx;have hzi:szs[i]?=some (szs[i]'(by omega)):=mk (by omega);have zok:=hok _ (CZ (show i<szs.length by omega));have hpt:=mh (o1:=o1) (o2:=o2) (left:=left) hzi;obtain⟨tx1,ty1,ht,htx,hty⟩:=hat i as[i] _ (mk hlt) hzi;generalize szs[i]'(by omega)=z at zok hpt htx hty;obtain⟨⟨r1,c1⟩,r2,c2⟩:=z;have ma:=zok.ma;have mb:=zok.mb;have md:=zok.md;have me:=zok.me;have f1:=cX zok.a zok.b;have f2:=cX zok.d zok.e;simp only at ma mb md me hpt htx hty f1 f2;have g1:fw r1 c1<=1000:=by
    rw[iQ];have:r1*c1<=6*6:=Nat.mul_le_mul (by omega) (by omega);omega
   have g2:fw r2 c2<=1000:=by
    rw[iQ];have:r2*c2<=6*6:=Nat.mul_le_mul (by omega) (by omega);omega
   walk_at "wp";refine⟨_,bv.of (sm _ _ ht),rfl,_,_,rfl,_,_,rfl,rfl,tx1,r1,c1,rfl,bv.of (sm _ _ htx),by omega,by omega,ty1,r2,c2,rfl,bv.of (sm _ _ hty),by omega,by omega,_,rfl,_,rfl,by omega,by omega,by omega,by omega,?_⟩;refine bN (fun j σ H'=>ax H H'/\dc H H' lf (aU o1 o2 (szs.take i) left++((List.range j).map fun(j:Nat)=>fw r1 c1+(j:Int)).map fun f=>[(o1,r1,c1,f),(o2,r2,c2,left-f)])/\∃z,σ=[some (V.ref a),some (V.ref l),some (V.int left),some (V.ref lf),some (V.ref tx1),some (V.ref ty1),z]) ⟨sm,by simpa using hT,_,rfl⟩ ?_ ?_
   ·rintro j σ H2 hj ⟨sm2,hT2,z,rfl⟩
    walk_at "wp";obtain⟨xs,hxs⟩:∃xs,H2 lf=some (.lst xs):=let ⟨as2,h,_⟩:=hT2;⟨_,h⟩
    have hxl:=hT2.len hxs;refine⟨.inl ⟨rfl,_,bp.of hxs⟩,C,dx,_,sm2 _ _ ha,cl,n1,_,rfl,am (by decide),fun p1 hp1=>?_⟩;have t1:=af (o:=.tup [V.str (tx o1)]) hp1;refine gS ac (t1 _ _ (sm2 _ _ htx)) (by simp) (by simp) (by simp) fun p2 hp2=>⟨am (by decide),fun p3 hp3=>?_⟩;have t2:=t1.trans (af (o:=.tup ([V.str (tx o1)]++[V.int (r1:Int),V.int (c1:Int)])) hp2);have e2:ar (ar H2 p1 (.tup [V.str (tx o1)])) p2 (.tup ([V.str (tx o1)]++[V.int (r1:Int),V.int (c1:Int)])) p2=some (.tup [V.str (tx o1),V.int (r1:Int),V.int (c1:Int)]):=ac;generalize ar (ar H2 p1 (.tup [V.str (tx o1)])) p2 (.tup ([V.str (tx o1)]++[V.int (r1:Int),V.int (c1:Int)]))=A2 at t2 e2 hp3 ⊢;have t3:=af (o:=.tup [V.int (fw r1 c1+(j:Int))]) hp3;refine gS (t3 _ _ e2) ac (by simp) (by simp) (by simp) fun p4 hp4=>?_;have t4:=(t2.trans t3).trans (af (o:=.tup ([V.str (tx o1),V.int (r1:Int),V.int (c1:Int)]++[V.int (fw r1 c1+(j:Int))])) hp4);have e4:ar (ar A2 p3 (.tup [V.int (fw r1 c1+(j:Int))])) p4 (.tup ([V.str (tx o1),V.int (r1:Int),V.int (c1:Int)]++[V.int (fw r1 c1+(j:Int))])) p4=some (.tup (ik (o1,r1,c1,fw r1 c1+(j:Int)))):=ac;generalize ar (ar A2 p3 (.tup [V.int (fw r1 c1+(j:Int))])) p4 (.tup ([V.str (tx o1),V.int (r1:Int),V.int (c1:Int)]++[V.int (fw r1 c1+(j:Int))]))=A4 at t4 e4 ⊢;have s4:=sm2.trans t4;refine⟨C,dx,_,s4 _ _ ha,cl,n2,_,rfl,am (by decide),fun p5 hp5=>?_⟩;have t5:=af (o:=.tup [V.str (tx o2)]) hp5;refine gS ac (t5 _ _ (s4 _ _ hty)) (by simp) (by simp) (by simp) fun p6 hp6=>⟨am (by decide),fun p7 hp7=>?_⟩;have t6:=t5.trans (af (o:=.tup ([V.str (tx o2)]++[V.int (r2:Int),V.int (c2:Int)])) hp6);have e6:ar (ar A4 p5 (.tup [V.str (tx o2)])) p6 (.tup ([V.str (tx o2)]++[V.int (r2:Int),V.int (c2:Int)])) p6=some (.tup [V.str (tx o2),V.int (r2:Int),V.int (c2:Int)]):=ac;generalize ar (ar A4 p5 (.tup [V.str (tx o2)])) p6 (.tup ([V.str (tx o2)]++[V.int (r2:Int),V.int (c2:Int)]))=A6 at t6 e6 hp7 ⊢;have t7:=af (o:=.tup [V.int (left-(fw r1 c1+(j:Int)))]) hp7;refine gS (t7 _ _ e6) ac (by simp) (by simp) (by simp) fun p8 hp8=>?_;have t8:=(t6.trans t7).trans (af (o:=.tup ([V.str (tx o2),V.int (r2:Int),V.int (c2:Int)]++[V.int (left-(fw r1 c1+(j:Int)))])) hp8);have e8:ar (ar A6 p7 (.tup [V.int (left-(fw r1 c1+(j:Int)))])) p8 (.tup ([V.str (tx o2),V.int (r2:Int),V.int (c2:Int)]++[V.int (left-(fw r1 c1+(j:Int)))])) p8=some (.tup (ik (o2,r2,c2,left-(fw r1 c1+(j:Int))))):=ac;generalize ar (ar A6 p7 (.tup [V.int (left-(fw r1 c1+(j:Int)))])) p8 (.tup ([V.str (tx o2),V.int (r2:Int),V.int (c2:Int)]++[V.int (left-(fw r1 c1+(j:Int)))]))=A8 at t8 e8 ⊢;refine⟨am (by decide),fun p9 hp9=>?_⟩;have t9:=af (o:=.lst [V.ref p4,V.ref p8]) hp9;have e9:ar A8 p9 (.lst [V.ref p4,V.ref p8]) p9=some (.lst [V.ref p4,V.ref p8]):=ac;have n9:p9≠lf:=fun e=>by rw[e,t8 _ _ (t4 _ _ hxs)]at hp9;cases hp9
    generalize ar A8 p9 (.lst [V.ref p4,V.ref p8])=A9 at t9 e9 ⊢;have s9:=(t4.trans t8).trans t9;have hx9:=s9 _ _ hxs;have hrow:pj A9 p9 [(o1,r1,c1,fw r1 c1+(j:Int)),(o2,r2,c2,left-(fw r1 c1+(j:Int)))]:=⟨[p4,p8],e9,rfl,fun i b p x1 x2=>by
     match i,x1,x2 with
     |0,x1,x2=>cases x1;cases x2;exact(t8.trans t9) _ _ e4
     |1,x1,x2=>cases x1;cases x2;exact t9 _ _ e8⟩
    have hlen:(aU o1 o2 (szs.take i) left).length<=150:=Dm (cg (r:=rr) (c:=cc) hl15 _ fun z hz=>hok z (List.mem_of_mem_take hz)) (by rw[Du];omega);refine⟨_,hx9,?_,?_⟩
    ·rw[hxl,Df,CP,CP,List.length_range];exact bh (by omega)
    ·refine⟨gP (sm2.trans s9) hlf,?_⟩
     rw[List.range_succ,C6,C6,<- List.append_assoc];exact(hT2.up s9).app hx9 hrow (sm2.free (t4.free (t8.free hp9))) n9
   ·rintro σ H2 ⟨sm2,hT2,z,rfl⟩
    refine⟨sm2,hlt,?_,_,_,_,rfl⟩;rw[hpt];exact hT2
  ·rintro σ H' ⟨sm,_,hT,x1,y1,z1,rfl⟩
   refine h1 _ _ ?_;walk_at "wp";rw[CP,hal,Ds]at hT;exact q lf H' hlf hT sm
noncomputable def cy(C:Addr)(t:Nat):Sp:=fun vs H Q _=>∃(a dx lp:Addr) (v:RV) (r c:Nat) (k:Int),vs=[.ref a,.int (r:Int),.int (c:Int),.int k]/\H a=some (.ins C dx (pM t lp v))/\1<=r/\r<=6/\1<=c/\c<=6/\k<=16/\1<=k/\1<=v.c/\v.c<=9/\0<=v.t /\
 ∀l H',H l=none->dc H H' l (cv (t,v) r c k)->ax H H'->Q (.ref l) H'
noncomputable abbrev cM:Stmt:=fG 25 5
theorem nX:av ["self","rows","columns","cost"] ["self","rows","columns","cost"] (ai cM):=by walk_at "c"
theorem pj.nil{H:Hp}{l:Addr}(h:H l=some (.lst [])):pj H l []:=⟨[],h,rfl,fun i a ps e=>by simp at e⟩
theorem dc.one{H0 H:Hp}{l a:Addr}{ps:List TR}(h:H l=some (.lst [.ref a]))(ha:pj H a ps)(hf:H0 a=none)(hne:a≠l):dc H0 H l [ps]:=⟨[a],h,rfl,fun i b qs e1 e2=>by
 match i,e1,e2 with
 |0,e1,e2=>cases e1;cases e2;exact⟨⟨hf,hne⟩,ha⟩⟩
theorem ze{a b c d e f:Int}:vE [V.int a,V.int b,V.int c] [V.int d,V.int e,V.int f]=decide (a=d/\b=e/\c=f):=by
 have e0:vE [V.int a,V.int b,V.int c] [V.int d,V.int e,V.int f]=(((a==d)&&((b==e)&&((c==f)&&true)))&&true):=rfl;rw[e0]
 by_cases h1:a=d<;>by_cases h2:b=e<;>by_cases h3:c=f<;>simp[h1,h2,h3]
theorem nP{f C:Addr}{fd:FuncData}(F:di K "part_rows" "CellRule.part_rows" cM f fd)(nb:NB mg)(cl:j' K C)(na:al K C "cost"):aO P w K mg base bY 1 f fd ["self","rows","columns","cost"] (cy C 0):=by
 have sc:=nX;walk_at "f"
 ·obtain⟨a,dx,lp,v,r,c,k,rfl,_⟩:=h;rfl
 ·obtain⟨a,dx,lp,v,r,c,k,rfl,ha,r1,r6,c1,c6,k16,k1,vc,vc9,vt,q⟩:=h
  have hu:=hr.units;refine⟨_,(aj (aA (qa (aD (vQ hu) (aE (aa (ak 1) (aa (ak 2) (aa (ak 3) ad)))) (aE (aw (aw (aa (bg (ak 0) rfl) ad)))) (aS _)) (bJ (aa (bJ ad) ad)) (bJ ad)))),?_⟩;walk_at "wp";refine⟨am (by decide),fun p hp=>⟨C,dx,_,af hp _ _ ha,cl,na,_,rfl,am (by decide),fun p1 hp1=>⟨_,bv.of (af hp1 _ _ ac),_,bv.of ac,rfl,rfl,?_⟩⟩⟩;have s2:=(af (o:=.tup [V.int (r:Int),V.int (c:Int),V.int k]) hp).trans (af (o:=.tup [V.int 1,V.int 1,V.int v.c]) hp1);generalize ar (ar H p (.tup [V.int (r:Int),V.int (c:Int),V.int k])) p1 (.tup [V.int 1,V.int 1,V.int v.c])=H2 at s2 ⊢;rw[ze];have hp0:cv (0,v) r c k=if r=1/\c=1/\k=v.c then[[]] else[]:=rfl
  rw[hp0]at q
  by_cases hh:r=1/\c=1/\k=v.c
  ·rw[if_pos (by simp;omega)]
   rw[if_pos hh]at q;refine⟨Dh _,fun p2 hp2=>⟨am (by decide),fun p3 hp3=>?_⟩⟩;have t2:=af (o:=.lst []) hp2;have t3:=af (o:=.lst [V.ref p2]) hp3;have ne:p2≠p3:=fun e=>by rw[<- e,ac]at hp3;cases hp3
   exact q p3 _ (s2.free (t2.free hp3)) (dc.one ac (pj.nil (t3 _ _ ac)) (s2.free hp2) ne) ((s2.trans t2).trans t3)
  ·rw[if_neg (by simp;omega)]
   rw[if_neg hh]at q;exact⟨Dh _,fun p2 hp2=>q p2 _ (s2.free hp2) (dc.nil ac) (s2.trans (af hp2))⟩
noncomputable abbrev bV:Stmt:=fG 26 5
theorem lQ:av ["self","rows","columns","cost","sizes"] ["self","rows","columns","cost"] (ai bV):=by walk_at "c"
theorem mE{r c i:Nat}(h:i<c-1):(bQ r c)[i]?=some ((r,1+i),(r,c-(1+i))):=by
 unfold bQ;rw[CS,List.getElem?_range h];rfl
theorem lP{f C:Addr}{fd:FuncData}(F:di K "part_rows" "BesideRule.part_rows" bV f fd)(nb:NB mg)(cl:j' K C)(na:al K C "cost"/\al K C "one"/\al K C "other")(c_paired_rows:gW P w K mg base bY 2 "paired_rows" ["rule","sizes","left"] (dQ K)):aO P w K mg base bY 3 f fd ["self","rows","columns","cost"] (cy C 1):=by
 have sc:=lQ;walk_at "f"
 ·obtain⟨a,dx,lp,v,r,c,k,rfl,_⟩:=h;rfl
 ·obtain⟨a,dx,lp,v,r,c,k,rfl,ha,r1,r6,c1,c6,k16,k1,vc,vc9,vt,q⟩:=h
  have hu:=hr.units;refine⟨_,(ag (iY (i:=4) ["at"] [1,2] sc.nd rfl (Or.inl rfl) rfl  rfl (bG.of (by kernel_rfl)) (by kernel_rfl) (b9 rfl nb.range (aw (aa (ak 2) ad)))
    (fun _ _ _ _=>(aC (i:=0) (by show(["at","rows","columns"]:List Str).Nodup;decide +kernel) rfl (Or.inl rfl))) (fun _ _ _ _=>dA) (fun _ _ _ _=>(aE (aa (aE (aa (ak 1) (aa (ak 0) ad))) (aa (aE (aa (ak 1) (aa (ap (aN.m0 cE) (ak 2) (ak 0)) ad))) ad)))))
   (aj (aA (aI c_paired_rows (hr.mono (by decide)) rfl bo (aa (ak 0) (aa (ak 4) (aa (ap (aN.m0 cE) (ak 3) (bg (ak 0) rfl)) ad))))))),?_⟩
  walk_at "n";refine⟨by omega,by omega,by omega,?_⟩;have en:((c:Int)-1).toNat=c-1:=by omega
  rw[en];refine fu (fun i acc σ H'=>ax H H'/\i<=c-1/\(∃as:List Addr,acc=as.map V.ref/\xA H' as ((bQ r c).take i))/\∃z,σ=[z,some (V.int (r:Int)),some (V.int (c:Int))]) ⟨fun _ _ e=>e,Dh _,⟨[],rfl,rfl,fun i a z e=>by simp at e⟩,_,rfl⟩ ?_ (fun i acc σ H' h=>h.2.1) ?_ ?_
  ·rintro i acc σ H' ⟨_,hi,⟨as,rfl,he⟩,_⟩
   rw[CP,he.1,Du];exact bh (by omega)
  ·rintro i acc σ H' hi ⟨sm,_,⟨as,rfl,he⟩,z,rfl⟩
   walk_at "wp";refine⟨am (by decide),fun p1 hp1=>⟨am (by decide),fun p2 hp2=>⟨am (by decide),fun p3 hp3=>?_⟩⟩⟩;have t1:=af (o:=.tup [V.int (r:Int),V.int (1+(i:Int))]) hp1;have t2:=af (o:=.tup [V.int (r:Int),V.int ((c:Int)-(1+(i:Int)))]) hp2;have t3:=af (o:=.tup [V.ref p1,V.ref p2]) hp3;have t:=(t1.trans t2).trans t3;refine⟨sm.trans t,hi,as++[p3],by rw[C6];rfl,?_⟩;rw[List.take_add_one,mE hi];exact(he.up t).snoc (x:=p1) (y:=p2) ac ((t2.trans t3) _ _ (by rw[ac];rw[show(1+(i:Int))=((1+i:Nat):Int) by push_cast;rfl])) (t3 _ _ (by rw[ac];rw[show((c:Int)-(1+(i:Int)))=((c-(1+i):Nat):Int) by omega]))
  rintro acc σ H1 ⟨s1,_,⟨as,rfl,he⟩,z,rfl⟩ l hl;refine h1 _ _ ?_;clear h1;have s2:=af (o:=.lst (as.map V.ref)) hl;have e2:ar H1 l (.lst (as.map V.ref)) l=some (.lst (as.map V.ref)):=ac;generalize ar H1 l (.lst (as.map V.ref))=H2 at s2 e2 ⊢;have s02:=s1.trans s2;rw[List.take_of_length_le (by rw[dS];omega)]at he;walk_at "wp";refine⟨C,dx,_,s02 _ _ ha,cl,na.1,_,rfl,_,rfl,a,C,dx,lp,l,v.n,v.o1,v.o2,v.c,k-v.c,bQ r c,r,c,rfl,s02 _ _ ha,cl,na.2.1,na.2.2,⟨as,e2,he.up s2⟩,by rw[dS];omega,fun z hz=>dD r1 hz,r6,c6,by omega,by omega,fun l' H' hl' hT s3=>q l' H' (s02.free hl') (hT.old s02) (s02.trans s3)⟩
noncomputable abbrev ce:Stmt:=fG 27 5
theorem ml:av ["self","rows","columns","cost","sizes"] ["self","rows","columns","cost"] (ai ce):=by walk_at "c"
theorem mJ{r c i:Nat}(h:i<r-1):(bR r c)[i]?=some ((1+i,c),(r-(1+i),c)):=by
 unfold bR;rw[CS,List.getElem?_range h];rfl
theorem lX{f C:Addr}{fd:FuncData}(F:di K "part_rows" "AboveRule.part_rows" ce f fd)(nb:NB mg)(cl:j' K C)(na:al K C "cost"/\al K C "one"/\al K C "other")(c_paired_rows:gW P w K mg base bY 2 "paired_rows" ["rule","sizes","left"] (dQ K)):aO P w K mg base bY 3 f fd ["self","rows","columns","cost"] (cy C 2):=by
 have sc:=ml;walk_at "f"
 ·obtain⟨a,dx,lp,v,r,c,k,rfl,_⟩:=h;rfl
 ·obtain⟨a,dx,lp,v,r,c,k,rfl,ha,r1,r6,c1,c6,k16,k1,vc,vc9,vt,q⟩:=h
  have hu:=hr.units;refine⟨_,(ag (iY (i:=4) ["at"] [2,1] sc.nd rfl (Or.inl rfl) rfl  rfl (bG.of (by kernel_rfl)) (by kernel_rfl) (b9 rfl nb.range (aw (aa (ak 1) ad)))
    (fun _ _ _ _=>(aC (i:=0) (by show(["at","columns","rows"]:List Str).Nodup;decide +kernel) rfl (Or.inl rfl))) (fun _ _ _ _=>dA) (fun _ _ _ _=>(aE (aa (aE (aa (ak 0) (aa (ak 1) ad))) (aa (aE (aa (ap (aN.m0 cE) (ak 2) (ak 0)) (aa (ak 1) ad))) ad)))))
   (aj (aA (aI c_paired_rows (hr.mono (by decide)) rfl bo (aa (ak 0) (aa (ak 4) (aa (ap (aN.m0 cE) (ak 3) (bg (ak 0) rfl)) ad))))))),?_⟩
  walk_at "n";refine⟨by omega,by omega,by omega,?_⟩;have en:((r:Int)-1).toNat=r-1:=by omega
  rw[en];refine fu (fun i acc σ H'=>ax H H'/\i<=r-1/\(∃as:List Addr,acc=as.map V.ref/\xA H' as ((bR r c).take i))/\∃z,σ=[z,some (V.int (c:Int)),some (V.int (r:Int))]) ⟨fun _ _ e=>e,Dh _,⟨[],rfl,rfl,fun i a z e=>by simp at e⟩,_,rfl⟩ ?_ (fun i acc σ H' h=>h.2.1) ?_ ?_
  ·rintro i acc σ H' ⟨_,hi,⟨as,rfl,he⟩,_⟩
   rw[CP,he.1,Du];exact bh (by omega)
  ·rintro i acc σ H' hi ⟨sm,_,⟨as,rfl,he⟩,z,rfl⟩
   walk_at "wp";refine⟨am (by decide),fun p1 hp1=>⟨am (by decide),fun p2 hp2=>⟨am (by decide),fun p3 hp3=>?_⟩⟩⟩;have t1:=af (o:=.tup [V.int (1+(i:Int)),V.int (c:Int)]) hp1;have t2:=af (o:=.tup [V.int ((r:Int)-(1+(i:Int))),V.int (c:Int)]) hp2;have t3:=af (o:=.tup [V.ref p1,V.ref p2]) hp3;have t:=(t1.trans t2).trans t3;refine⟨sm.trans t,hi,as++[p3],by rw[C6];rfl,?_⟩;rw[List.take_add_one,mJ hi];exact(he.up t).snoc (x:=p1) (y:=p2) ac ((t2.trans t3) _ _ (by rw[ac];rw[show(1+(i:Int))=((1+i:Nat):Int) by push_cast;rfl])) (t3 _ _ (by rw[ac];rw[show((r:Int)-(1+(i:Int)))=((r-(1+i):Nat):Int) by omega]))
  rintro acc σ H1 ⟨s1,_,⟨as,rfl,he⟩,z,rfl⟩ l hl;refine h1 _ _ ?_;clear h1;have s2:=af (o:=.lst (as.map V.ref)) hl;have e2:ar H1 l (.lst (as.map V.ref)) l=some (.lst (as.map V.ref)):=ac;generalize ar H1 l (.lst (as.map V.ref))=H2 at s2 e2 ⊢;have s02:=s1.trans s2;rw[List.take_of_length_le (by rw[dO];omega)]at he;walk_at "wp";refine⟨C,dx,_,s02 _ _ ha,cl,na.1,_,rfl,_,rfl,a,C,dx,lp,l,v.n,v.o1,v.o2,v.c,k-v.c,bR r c,r,c,rfl,s02 _ _ ha,cl,na.2.1,na.2.2,⟨as,e2,he.up s2⟩,by rw[dO];omega,fun z hz=>dC c1 hz,r6,c6,by omega,by omega,fun l' H' hl' hT s3=>q l' H' (s02.free hl') (hT.old s02) (s02.trans s3)⟩
noncomputable abbrev cO:Stmt:=fG 28 5
theorem oA:av ["self","rows","columns","cost","size"] ["self","rows","columns","cost"] (ai cO):=by walk_at "c"
theorem nQ{f C:Addr}{fd:FuncData}(F:di K "part_rows" "TurnRule.part_rows" cO f fd)(nb:NB mg)(cl:j' K C)(na:al K C "cost"/\al K C "part"/\al K C "turning"):aO P w K mg base bY 1 f fd ["self","rows","columns","cost"] (cy C 3):=by
 have sc:=oA;walk_at "f"
 ·obtain⟨a,dx,lp,v,r,c,k,rfl,_⟩:=h;rfl
 ·obtain⟨a,dx,lp,v,r,c,k,rfl,ha,r1,r6,c1,c6,k16,k1,vc,vc9,vt,q⟩:=h
  have hu:=hr.units;refine⟨_,(ag (ay (i:=4) sc.nd rfl (Or.inl rfl) (qa (aD eR (ap (aN.m1 aV) (bg (ak 0) rfl) ae) ae (aS _)) (aE (aa (ak 2) (aa (ak 1) ad))) (aE (aa (ak 1) (aa (ak 2) ad)))))
   (aj (aA (bJ (aa (bJ (aa (ap g6 (ap g6 (aE (aa (bg (ak 0) rfl) ad)) (ak 4)) (aE (aa (ap (aN.m0 cE) (ak 3) (bg (ak 0) rfl)) ad))) ad)) ad))))),?_⟩
  walk_at "n";have key:∀(x y:Nat) (p:Addr) (H1:Hp),(∃p:TR,cv (3,v) r c k=[[p]]/\p=(v.o1,x,y,k-v.c))->ax H H1->H1 p=some (.tup [V.int (x:Int),V.int (y:Int)])->N1 [some (V.ref a),some (V.int (r:Int)),some (V.int (c:Int)),some (V.int k),some (V.ref p)] H1:=by
   rintro x y p H1 ⟨_,ep,rfl⟩ s1 e1;refine h1 _ _ ?_;walk_at "wp";refine⟨C,dx,_,s1 _ _ ha,cl,na.2.1,_,rfl,am (by decide),fun p1 hp1=>?_⟩;have t1:=af (o:=.tup [V.str (tx v.o1)]) hp1;refine gS ac (t1 _ _ e1) (by simp) (by simp) (by simp) fun p2 hp2=>?_;have t2:=t1.trans (af (o:=.tup ([V.str (tx v.o1)]++[V.int (x:Int),V.int (y:Int)])) hp2);have e2:ar (ar H1 p1 (.tup [V.str (tx v.o1)])) p2 (.tup ([V.str (tx v.o1)]++[V.int (x:Int),V.int (y:Int)])) p2=some (.tup [V.str (tx v.o1),V.int (x:Int),V.int (y:Int)]):=ac;generalize ar (ar H1 p1 (.tup [V.str (tx v.o1)])) p2 (.tup ([V.str (tx v.o1)]++[V.int (x:Int),V.int (y:Int)]))=A2 at t2 e2 ⊢;refine⟨C,dx,_,(s1.trans t2) _ _ ha,cl,na.1,_,rfl,_,rfl,am (by decide),fun p3 hp3=>?_⟩;have t3:=af (o:=.tup [V.int (k-v.c)]) hp3;refine gS (t3 _ _ e2) ac (by simp) (by simp) (by simp) fun p4 hp4=>?_;have t4:=(t2.trans t3).trans (af (o:=.tup ([V.str (tx v.o1),V.int (x:Int),V.int (y:Int)]++[V.int (k-v.c)])) hp4);have e4:ar (ar A2 p3 (.tup [V.int (k-v.c)])) p4 (.tup ([V.str (tx v.o1),V.int (x:Int),V.int (y:Int)]++[V.int (k-v.c)])) p4=some (.tup (ik (v.o1,x,y,k-v.c))):=ac;generalize ar (ar A2 p3 (.tup [V.int (k-v.c)])) p4 (.tup ([V.str (tx v.o1),V.int (x:Int),V.int (y:Int)]++[V.int (k-v.c)]))=A4 at t4 e4 ⊢;refine⟨am (by decide),fun p5 hp5=>⟨am (by decide),fun p6 hp6=>?_⟩⟩;have t5:=af (o:=.lst [V.ref p4]) hp5;have t6:=af (o:=.lst [V.ref p5]) hp6;have ne:p5≠p6:=fun e=>by rw[<- e,ac]at hp6;cases hp6
   have s4:=s1.trans t4;rw[ep]at q;refine q p6 _ (s4.free (t5.free hp6)) (dc.one ac ⟨[p4],t6 _ _ ac,rfl,fun i b z x1 x2=>?_⟩ (s4.free hp5) ne) ((s4.trans t5).trans t6)
   match i,x1,x2 with
   |0,x1,x2=>cases x1;cases x2;exact(t5.trans t6) _ _ e4
  refine⟨C,dx,_,ha,cl,na.2.2,_,rfl,_,rfl,?_⟩
  by_cases ht:v.t%2=1
  ·rw[if_pos ht]
   exact⟨am (by decide),fun p hp=>key c r p _ ⟨_,rfl,by simp[ht]⟩ (af hp) ac⟩
  ·rw[if_neg ht]
   exact⟨am (by decide),fun p hp=>key r c p _ ⟨_,rfl,by simp[ht]⟩ (af hp) ac⟩
noncomputable def jh(R:RC):List (Addr×Sp):=[(R.cc,cy R.cc 0),(R.cb,cy R.cb 1),(R.ca,cy R.ca 2),(R.ct,cy R.ct 3)]
theorem vj{R:RC}{H:Hp}{t a}{v:RV}{r c:Nat}{k:Int}{Q:VK}{E:XK}(h4:t<4)(ra:gj R H t a v)(r1:1<=r)(r6:r<=6)(c1:1<=c)(c6:c<=6)(k16:k<=16)(k1:1<=k)(vc:1<=v.c)(vc9:v.c<=9)(vt:0<=v.t)(q:∀l H',H l=none->dc H H' l (cv (t,v) r c k)->ax H H'->Q (.ref l) H') :
  ∃o∈jh R,∃dx fs,H a=some (.ins o.1 dx fs)/\fs.lookup ("part_rows":Str)=none/\o.2 [.ref a,.int (r:Int),.int (c:Int),.int k] H Q E:=by
 obtain⟨dx,l,h1,_⟩:=ra;have:t=0\/t=1\/t=2\/t=3:=by omega
 rcases this with rfl | rfl | rfl | rfl
 ·exact⟨(R.cc,cy R.cc 0),by simp[jh],dx,_,h1,rfl,a,dx,l,v,r,c,k,rfl,h1,r1,r6,c1,c6,k16,k1,vc,vc9,vt,q⟩
 ·exact⟨(R.cb,cy R.cb 1),by simp[jh],dx,_,h1,rfl,a,dx,l,v,r,c,k,rfl,h1,r1,r6,c1,c6,k16,k1,vc,vc9,vt,q⟩
 ·exact⟨(R.ca,cy R.ca 2),by simp[jh],dx,_,h1,rfl,a,dx,l,v,r,c,k,rfl,h1,r1,r6,c1,c6,k16,k1,vc,vc9,vt,q⟩
 ·exact⟨(R.ct,cy R.ct 3),by simp[jh],dx,_,h1,rfl,a,dx,l,v,r,c,k,rfl,h1,r1,r6,c1,c6,k16,k1,vc,vc9,vt,q⟩
noncomputable def zO(g d1 d2:Addr):List (Str×V):=[("grammar",.ref g),("steps",.ref d1),("totals",.ref d2)]
structure tN(st:List Nat)(rs:List (Nat×RV))(m:Nat)(p:TR):Prop where
 nm:tx p.1∈(aB (tx st) rs).map (·.1)
 r1:1<=p.2.1
 rm:p.2.1<=m
 c1:1<=p.2.2.1
 cm:p.2.2.1<=m
 k0:-8<=p.2.2.2
 k16:p.2.2.2<=16
theorem jv{α:Type}[DecidableEq α]:∀{l L:List α},l.Nodup->(∀x∈l,x∈L)->l.length<=L.length
 | [],_,_,_=>Dh _
 |x::l,L,hn,hs=>by
  have hx:x∈L:=hs x List.mem_cons_self;rw[List.nodup_cons]at hn;have:=jv (l:=l) (L:=L.erase x) hn.2 fun y hy=>(List.mem_erase_of_ne fun e=>hn.1 (by rw[<- e];exact hy)).mpr (hs y (C_ _ hy));rw[List.length_erase_of_mem hx]at this;have:=List.length_pos_of_mem hx;rw[C5];omega
theorem dY{α β:Type}{f:α->List β}{n:Nat}:∀{l:List α},(∀x,(f x).length=n)->(l.flatMap f).length=l.length*n
 | [],_=>by simp
 |x::l,h=>by rw[List.flatMap_cons,Df,h x,dY (l:=l) h,C5,Nat.add_mul];omega
noncomputable def uN(zs:List Str):List (List bS):=zs.flatMap fun z=>(List.range 7).flatMap fun(r:Nat)=>(List.range 7).flatMap fun(c:Nat)=>(List.range 25).map fun(j:Nat)=>[.inr z,.inl (r:Int),.inl (c:Int),.inl ((j:Int)-8)]
theorem wL(zs:List Str):(uN zs).length=zs.length*(7*(7*25)):=
 dY fun z=>(dY fun r=>(dY fun c=>by rw[CP,List.length_range]).trans (by rw[List.length_range])).trans (by rw[List.length_range])
theorem vO{st:List Nat}{rs:List (Nat×RV)}{m:Nat}{p:TR}(d:tN st rs m p)(h6:m<=6):bI p∈uN ((aB (tx st) rs).map (·.1)):=by
 have:=d.rm;have:=d.cm;have:=d.k0;have:=d.k16;refine List.mem_flatMap.mpr ⟨_,d.nm,List.mem_flatMap.mpr ⟨p.2.1,List.mem_range.mpr (by omega),List.mem_flatMap.mpr ⟨p.2.2.1,List.mem_range.mpr (by omega),Dy.mpr ⟨(p.2.2.2+8).toNat,List.mem_range.mpr (by omega),?_⟩⟩⟩⟩;unfold bI;rw[show(((p.2.2.2+8).toNat:Int)-8)=p.2.2.2 by omega]
structure mj(st:List Nat)(rs:List (Nat×RV))(m:Nat)(m1 m2:List (List bS×V)):Prop where
 n1:(m1.map (·.1)).Nodup
 n2:(m2.map (·.1)).Nodup
 k1:∀k∈m1.map (·.1),k∈uN ((aB (tx st) rs).map (·.1))
 k2:∀k∈m2.map (·.1),k∈uN ((aB (tx st) rs).map (·.1))
 ok:∀p:TR,(bf m1 (bI p)).isSome=true->bf m2 (bI p)=some (.int (CN rs p:Nat))
theorem mj.len{st:List Nat}{rs:List (Nat×RV)}{m:Nat}{m1 m2:List (List bS×V)}(h:mj st rs m m1 m2)(hz:(aB (tx st) rs).length<=100):m1.length<sizeLine/\m2.length<sizeLine:=by
 have h1:=jv h.n1 h.k1;have h2:=jv h.n2 h.k2;rw[wL,CP,CP]at h1 h2;exact⟨bh (by omega),bh (by omega)⟩
structure jQ(R:RC)(CG CT:Addr)(H:Hp)(a dx g dg d1 d2:Addr)(sg st:List Nat)(as:List Addr)(rs:List (Nat×RV))(m:Nat):Prop where
 at_:H a=some (.ins CT dx (zO g d1 d2))
 ne:d1≠d2
 gr:e_ R H CG dg g sg st as rs
 gc:gw rs
 gt:∀q∈rs,0<=q.2.t
 sm:∀p:TR,p.2.1<=m->p.2.2.1<=m->p.2.2.2<=7->CN rs p<2 ^ 64
 m6:m<=6
 n24:rs.length<=24
 nz:(aB (tx st) rs).length<=100
 mm:∃m1 m2,H d1=some (.dT m1)/\H d2=some (.dT m2)/\mj st rs m m1 m2
section
variable {R:RC}{CG CT:Addr}{H H':Hp}{a dx g dg d1 d2:Addr}{sg st:List Nat}{as:List Addr}{rs:List (Nat×RV)}{m:Nat}
theorem jQ.kp(e:jQ R CG CT H a dx g dg d1 d2 sg st as rs m)(s:cn d1 d2 H H'):Kp H H':=fun x o ho hx=>by
 obtain⟨m1,m2,h1,h2,_⟩:=e.mm;refine s x o (fun z=>?_) (fun z=>?_) hx
 ·rw[z,h1]at hx;cases hx;exact ho trivial
 ·rw[z,h2]at hx;cases hx;exact ho trivial
theorem jQ.next(e:jQ R CG CT H a dx g dg d1 d2 sg st as rs m)(s:cn d1 d2 H H')(mm:∃m1 m2,H' d1=some (.dT m1)/\H' d2=some (.dT m2)/\mj st rs m m1 m2):jQ R CG CT H' a dx g dg d1 d2 sg st as rs m:=
 ⟨(e.kp s).ins e.at_,e.ne,e.gr.kp (e.kp s),e.gc,e.gt,e.sm,e.m6,e.n24,e.nz,mm⟩
theorem jQ.up(e:jQ R CG CT H a dx g dg d1 d2 sg st as rs m)(s:ax H H'):jQ R CG CT H' a dx g dg d1 d2 sg st as rs m:=by
 obtain⟨m1,m2,h1,h2,h3⟩:=e.mm;exact e.next (.of s) ⟨m1,m2,s _ _ h1,s _ _ h2,h3⟩
end
theorem uV{st:List Nat}{rs:List (Nat×RV)}{q:Nat×RV}(hq:q∈rs)(h4:q.1<4){z:List Nat}(hz:z∈aJ q.1 q.2):tx z∈(aB (tx st) rs).map (·.1):=
 (gm _ _ _).mpr (.inr ⟨(tx q.2.n,(aJ q.1 q.2).map tx),by unfold ya;exact List.mem_map_of_mem (f:=fun r:Nat×RV=>(tx r.2.n,(aJ r.1 r.2).map tx)) hq,.inr (List.mem_map_of_mem hz)⟩)
theorem tN.part{st:List Nat}{rs:List (Nat×RV)}{m:Nat}{p p':TR}{q:Nat×RV}{ps:List TR}(d:tN st rs m p)(gc:gw rs)(hq:q∈rs)(k1:1<=p.2.2.2)(h:ps∈cv q p.2.1 p.2.2.1 p.2.2.2)(hp:p'∈ps):tN st rs m p'/\p'.2.2.2<p.2.2.2:=by
 obtain⟨h4,hc,hc9⟩:=gc q hq;have po:=lJ h4 hc d.r1 d.c1 h hp;have:=d.rm;have:=d.cm;have:=d.k16;have:=po.rm;have:=po.cm;have lt:=po.lt;refine⟨⟨?_,po.r1,by omega,po.c1,by omega,?_,by omega⟩,lt⟩
 ·have mem:p'.1∈aJ q.1 q.2:=by
   rcases dj h4 d.r1 d.c1 h with rfl | ⟨p2,rfl,e1,e2,e3⟩ | ⟨hk,z,f,sz,f1,f2,rfl⟩
   ·cases hp
   ·rw[CQ.mp hp,e1]
    have:q.1=0\/q.1=1\/q.1=2\/q.1=3:=by omega
    rcases this with e | e | e | e
    ·exfalso
     unfold cv at h;rw[e]at h;simp only at h
     split at h
     ·simp at h
     ·simp at h
    ·rw[e];simp[aJ]
    ·rw[e];simp[aJ]
    ·rw[e];simp[aJ]
   ·have hpk:aJ q.1 q.2=[q.2.o1,q.2.o2]:=by rcases hk with e | e<;>rw[e]<;>rfl
    rw[hpk];rcases(show p'=_\/p'=_ by simpa using hp) with rfl | rfl<;>simp
  exact uV hq h4 mem
 ·rcases po.ge with h | h<;>omega
noncomputable abbrev gu(st:List Nat)(rs:List (Nat×RV))(m:Nat)(H:Hp)(d1 d2:Addr):Prop:=∃m1 m2,H d1=some (.dT m1)/\H d2=some (.dT m2)/\mj st rs m m1 m2
noncomputable def bO(H:Hp)(l:Addr)(ms:List Nat):Prop:=∃ts:List Addr,H l=some (.lst (ts.map V.ref))/\ts.length=ms.length/\∀(i:Nat) t x,ts[i]?=some t->ms[i]?=some x->∃u v,H t=some (.tup [u,v,.int (x:Nat)])
noncomputable def bC(R:RC)(CG CT CN_:Addr)(n:Nat):Sp:=fun vs H Q E=>∃(a dx g dg d1 d2 b:Addr) (sg st:List Nat) (as:List Addr) (rs:List (Nat×RV)) (m:Nat) (p:TR),vs=[.ref a,.ref b]/\jQ R CG CT H a dx g dg d1 d2 sg st as rs m/\H b=some (.tup (ik p))/\((tN st rs m p/\0<n/\p.2.2.2<(n:Int) /\
 (∀H',cn d1 d2 H H'->gu st rs m H' d1 d2->Q (.int (CN rs p:Nat)) H'))\/(0<n/\tx p.1∉(aB (tx st) rs).map (·.1)/\E (.ref CN_) none H))
noncomputable def dI(R:RC)(CG CT CN_:Addr)(n:Nat):Sp:=fun vs H Q E=>∃(a dx g dg d1 d2 b:Addr) (sg st:List Nat) (as:List Addr) (rs:List (Nat×RV)) (m:Nat) (p:TR),vs=[.ref a,.ref b]/\jQ R CG CT H a dx g dg d1 d2 sg st as rs m/\H b=some (.tup (ik p))/\((tN st rs m p/\0<n/\p.2.2.2<(n:Int) /\
 (∀v H',cn d1 d2 H H'->gu st rs m H' d1 d2->(∃m2,H' d2=some (.dT m2)/\bf m2 (bI p)=some (.int (CN rs p:Nat)))->Q v H'))\/(0<n/\tx p.1∉(aB (tx st) rs).map (·.1)/\E (.ref CN_) none H))
noncomputable def dP(R:RC)(CG CT CN_:Addr)(n:Nat):Sp:=fun vs H Q E=>∃(a dx g dg d1 d2 b:Addr) (sg st:List Nat) (as:List Addr) (rs:List (Nat×RV)) (m:Nat) (p:TR),vs=[.ref a,.ref b]/\jQ R CG CT H a dx g dg d1 d2 sg st as rs m/\H b=some (.tup (ik p))/\((tN st rs m p/\0<n/\p.2.2.2<(n:Int) /\
 (∀l ms H',cn d1 d2 H H'->gu st rs m H' d1 d2->bO H' l ms->ms.sum=CN rs p->ms.length<=100000->Q (.ref l) H'))\/(0<n/\tx p.1∉(aB (tx st) rs).map (·.1)/\E (.ref CN_) none H))
noncomputable def cr(R:RC)(CG CT:Addr)(n:Nat):Sp:=fun vs H Q _=>∃(a dx g dg d1 d2 l:Addr) (sg st:List Nat) (as:List Addr) (rs:List (Nat×RV)) (m:Nat) (ps:List TR),vs=[.ref a,.ref l]/\jQ R CG CT H a dx g dg d1 d2 sg st as rs m/\pj H l ps/\(∀p∈ps,tN st rs m p/\0<n/\p.2.2.2<(n:Int))/\ps.length<=2/\(∀p1 p2,ps=[p1,p2]->p1.2.2.2<=7\/p2.2.2.2<=7) /\
 ∀H',cn d1 d2 H H'->gu st rs m H' d1 d2->Q (.int (aL (CN rs) ps:Nat)) H'
theorem wm{c:TT}{t u:TS}{D:iN}{σ:St}{H:Hp}(h:∀t' u',t'=t->u'=u->wu c t' u' D σ H):wu c t u D σ H:=h t u rfl rfl
noncomputable abbrev dE:Stmt:=fG 32 0
noncomputable def jb(K:W.Frag):Sp:=fun vs H Q _=>∃(a C dx g:Addr),vs=[.ref a,.ref g]/\H a=some (.ins C dx [])/\j' K C/\(al K C "grammar"/\al K C "steps"/\al K C "totals") /\
 ∀d1 d2 H',H d1=none->H d2=none->d1≠d2->H' a=some (.ins C dx (zO g d1 d2))->H' d1=some (.dT [])->H' d2=some (.dT [])->aZ a H H'->Q .non H'
theorem rp:av ["self","grammar"] ["self","grammar"] (ai dE):=by walk_at "c"
theorem rg{f:Addr}{fd:FuncData}(F:di K "__init__" "TreeRows.__init__" dE f fd)(nb:NB mg):aO P w K mg base bY 1 f fd ["self","grammar"] (jb K):=by
 have sc:=rp;walk_at "f"
 ·obtain⟨a,C,dx,g,rfl,_⟩:=h;rfl
 ·obtain⟨a,C,dx,g,rfl,ha,cl,⟨n1,n2,n3⟩,q⟩:=h
  refine⟨_,(ag (b5 (ak 0) (ak 1) rfl)
   (ag (b5 (ak 0) lB rfl)
   (aj (b5 (ak 0) lB rfl)))),?_⟩
  walk_at "n";refine⟨C,dx,_,ha,cl,n1,by simp,h1 _ _ ?_⟩;clear h1;have sx2:aZ a H (ar H a (.ins C dx [("grammar",.ref g)])):=(aZ.of (ax.refl _)).put;have ea2:ar H a (.ins C dx [("grammar",.ref g)]) a=some (.ins C dx [("grammar",.ref g)]):=ac;change tF _ _ _ _ (ar H a (.ins C dx [("grammar",.ref g)]));generalize ar H a (.ins C dx [("grammar",.ref g)])=H2 at sx2 ea2 ⊢;walk_at "n";intro d1 hd1;have hda:d1≠a:=fun e=>by rw[e,ea2]at hd1;cases hd1
  have t1:¬ (("grammar":Str)="steps"):=by decide +kernel
  have e3:bH "steps" (V.ref d1) [(("grammar":Str),V.ref g)]=[(("grammar":Str),V.ref g),(("steps":Str),V.ref d1)]:=by simp only[bH,if_neg t1]
  refine⟨C,dx,_,af hd1 _ _ ea2,cl,n2,by simp,?_⟩;rw[e3];refine h1 _ _ ?_;clear h1;have f1:H d1=none:=by
   cases e:H d1 with
   |none=>rfl
   |some u=>rw[sx2 _ _ hda e]at hd1;cases hd1
  have sx3:aZ a H (ar (ar H2 d1 (.dT [])) a (.ins C dx [("grammar",.ref g),("steps",.ref d1)])):=(sx2.then (af hd1)).put;have ea3:ar (ar H2 d1 (.dT [])) a (.ins C dx [("grammar",.ref g),("steps",.ref d1)]) a=some (.ins C dx [("grammar",.ref g),("steps",.ref d1)]):=ac;have ed3:ar (ar H2 d1 (.dT [])) a (.ins C dx [("grammar",.ref g),("steps",.ref d1)]) d1=some (.dT []):=by rw[ah hda,ac]
  generalize ar (ar H2 d1 (.dT [])) a (.ins C dx [("grammar",.ref g),("steps",.ref d1)])=H3 at sx3 ea3 ed3 ⊢;walk_at "wp";intro d2 hd2;have hda2:d2≠a:=fun e=>by rw[e,ea3]at hd2;cases hd2
  have hdd:d1≠d2:=fun e=>by rw[<- e,ed3]at hd2;cases hd2
  have t2:¬ (("grammar":Str)="totals"):=by decide +kernel
  have t3:¬ (("steps":Str)="totals"):=by decide +kernel
  have e4:bH "totals" (V.ref d2) [(("grammar":Str),V.ref g),(("steps":Str),V.ref d1)]=zO g d1 d2:=by unfold zO;simp only[bH,if_neg t2,if_neg t3]
  refine⟨C,dx,_,af hd2 _ _ ea3,cl,n3,by simp,?_⟩;rw[e4];have f2:H d2=none:=by
   cases e:H d2 with
   |none=>rfl
   |some u=>rw[sx3 _ _ hda2 e]at hd2;cases hd2
  exact q d1 d2 _ f1 f2 hdd ac (by rw[ah hda,ah hdd];exact ed3) (by rw[ah hda2,ac]) ((sx3.then (af hd2)).put)
theorem pY(f:TR->Nat)(ps:List TR)(p:TR):aL f (ps++[p])=aL f ps*f p:=by
 unfold aL;rw[List.foldl_append];rfl
noncomputable abbrev aR:Stmt:=fG 32 4
theorem h9:av ["self","rows","many","row"] ["self","rows"] (ai aR):=by walk_at "c"
theorem ia{R:RC}{f CG CT CN_:Addr}{fd:FuncData}{n:Nat}(F:di K "many_together" "TreeRows.many_together" aR f fd)(nb:NB mg)(cm_many_in:d_ P w K mg base (bZ P w) (4*n+4) CT "many_in" ["self","row"] (bC R CG CT CN_ n)) :
  aO P w K mg base (bZ P w) (4*n+5) f fd ["self","rows"] (cr R CG CT n):=by
 have sc:=h9;walk_at "x"
 ·obtain⟨a,dx,g,dg,d1,d2,l,sg,st,as,rs,m,ps,rfl,_⟩:=h;rfl
 ·obtain⟨a,dx,g,dg,d1,d2,l,sg,st,as,rs,m,ps,rfl,te,⟨bs,hl,hbl,hbs⟩,hd,h2,h7,q⟩:=h
  have hu:=hr.units;refine⟨_,(ag (ay (i:=2) sc.nd rfl (Or.inl rfl) ae)
   (ag (bj PassesOwn.leaving rfl (cB (ak 1)) (aC (i:=3) sc.nd rfl (Or.inl rfl))
   (aj (bK (aD (aN.m0 jt) (ak 2) ae (aS _))
   (aj (ay (i:=2) sc.nd rfl (Or.inl rfl) (ap (aN.m1 cY) (ak 2) (fB cm_many_in (hr.mono (by omega)) (bF fun _ _ _ h=>h) (ak 0) (aa (ak 3) ad)))))
   aM)))
   (aj (aA (ak 2))))),?_⟩
  walk_at "n";refine h1 _ _ ?_;walk_at "nc";refine⟨⟨_,bp.of hl⟩,?_⟩;refine cH (xs:=bs.map V.ref) (fun i σ H'=>cn d1 d2 H H'/\i<=bs.length/\gu st rs m H' d1 d2/\∃x,σ=[some (V.ref a),some (V.ref l),some (V.int (aL (CN rs) (ps.take i):Nat)),x]) ⟨fun _ _ _ _ e=>e,Dh _,te.mm,_,rfl⟩ (fun i σ H' _ h=>bp.of ((te.kp h.1).lst hl)) ?_ ?_
  ·rintro i x σ H' hx ⟨sd,hi,mm,y,rfl⟩
   have hlt:i<bs.length:=by have:=(CM.mp hx).1;rwa [CP]at this
   rw[CS,mk hlt]at hx;cases hx;have hpi:ps[i]?=some (ps[i]'(by omega)):=mk (by omega);have hb:=hbs i bs[i] _ (mk hlt) hpi;obtain⟨dp,n0,pn⟩:=hd _ (CZ (show i<ps.length by omega));have hsn:aL (CN rs) (ps.take (i+1))=aL (CN rs) (ps.take i)*CN rs (ps[i]'(by omega)):=by rw[List.take_add_one,hpi];exact pY _ _ _
   have te':=te.next sd mm;walk_at "wp"
   by_cases h0:0<aL (CN rs) (ps.take i)
   ·rw[if_pos (by omega)]
    refine⟨dx,_,te'.at_,rfl,a,dx,g,dg,d1,d2,bs[i],sg,st,as,rs,m,_,rfl,te',(te.kp sd).tup hb,.inl ⟨dp,n0,pn,fun H2 s2 mm2=>⟨_,rfl,?_,sd.trans s2,hlt,mm2,?_⟩⟩⟩
    ·have hi2:i=0\/i=1:=by omega
     rcases hi2 with rfl | rfl
     ·left;simp[aL]
     ·obtain⟨p1,p2,rfl⟩:∃p1 p2,ps=[p1,p2]:=by
       match ps,h2,(show 1<ps.length by omega) with
       | [p1,p2],_,_=>exact⟨p1,p2,rfl⟩
      have dp1:=(hd p1 List.mem_cons_self).1;rcases h7 p1 p2 rfl with h | h
      ·left
       have:=te.sm p1 dp1.rm dp1.cm h;have e1:aL (CN rs) (List.take 1 [p1,p2])=CN rs p1:=by show 1*CN rs p1=_;rw[Nat.one_mul]
       rw[e1];omega
      ·right
       have:CN rs p2<2 ^ 64:=te.sm p2 dp.rm dp.cm h;show _<((CN rs p2:Nat):Int)/\((CN rs p2:Nat):Int)<_;omega
    ·rw[hsn];push_cast;rfl
   ·rw[if_neg (by omega)]
    refine⟨sd,hlt,mm,?_⟩;rw[hsn,show aL (CN rs) (ps.take i)=0 by omega,Nat.zero_mul]
  ·rintro σ H' ⟨sd,_,mm,y,rfl⟩
   refine h1 _ _ ?_;walk_at "wp";rw[CP,hbl,Ds];exact q H' sd mm
theorem bO.kp{H H':Hp}{l:Addr}{ms:List Nat}(h:bO H l ms)(s:Kp H H'):bO H' l ms:=by
 obtain⟨ts,h1,h2,h3⟩:=h;refine⟨ts,s.lst h1,h2,fun i t x e1 e2=>?_⟩;obtain⟨u,v,e⟩:=h3 i t x e1 e2;exact⟨u,v,s.tup e⟩
theorem bO.nil{H:Hp}{l:Addr}(h:H l=some (.lst [])):bO H l []:=⟨[],h,rfl,fun i a ps e=>by simp at e⟩
theorem bO.app{H:Hp}{l t:Addr}{ms:List Nat}{x:Nat}{u v:V}{xs:List V}(h:bO H l ms)(hx:H l=some (.lst xs))(ht:H t=some (.tup [u,v,.int (x:Nat)])):bO (ar H l (.lst (xs++[V.ref t]))) l (ms++[x]):=by
 obtain⟨ts,h1,h2,h3⟩:=h;rw[hx]at h1;cases h1;have hold:∀t' o,H t'=some (.tup o)->ar H l (.lst (ts.map V.ref++[V.ref t])) t'=some (.tup o):=fun t' o e=>by rw[ah (fun z=>by rw[z,hx]at e;cases e)];exact e
 refine⟨ts++[t],by rw[ac,C6];rfl,by rw[Df,Df,h2];rfl,fun i b y e1 e2=>?_⟩
 by_cases hi:i<ts.length
 ·rw[Dd hi]at e1
  rw[Dd (by omega)]at e2;obtain⟨u',v',e⟩:=h3 i b y e1 e2;exact⟨u',v',hold _ _ e⟩
 ·have hi2:i=ts.length:=by
   have:=(CM.mp e1).1;simp at this;omega
  subst hi2;rw[Dc (Dg _),Nat.sub_self]at e1;rw[h2,Dc (Dg _),Nat.sub_self]at e2;cases e1;cases e2
  exact⟨u,v,hold _ _ ht⟩
theorem bO.len{H:Hp}{l:Addr}{ms:List Nat}{xs:List V}(h:bO H l ms)(hx:H l=some (.lst xs)):xs.length=ms.length:=by
 obtain⟨ts,h1,h2,_⟩:=h;rw[hx]at h1;cases h1;rw[CP,h2]
theorem m5{z:Str}{rs:List (Nat×RV)}{n:Nat}(h:n∈br z rs):∃q,rs[n]?=some q/\tx q.2.n=z:=by
 unfold br at h;obtain⟨x,hx,e⟩:=List.mem_filterMap.mp h
 split at e
 ·rename_i hz
  cases e;exact⟨x.1,List.mem_zipIdx_iff_getElem?.mp hx,hz⟩
 ·cases e
theorem sO(S:Nat×RV->Nat)(z:List Nat):∀(n:Nat) (rs:List (Nat×RV)),rs.length=n->((br (tx z) rs).map fun i=>(rs[i]?.map S).getD 0).sum=((cz z rs).map S).sum
 |0,rs,h=>by rw[Dx.mp h];rfl
 |n+1,rs,h=>by
  obtain⟨rs',r,rfl⟩:∃rs' r,rs=rs'++[r]:=⟨rs.dropLast,rs.getLast (by intro e;rw[e]at h;cases h),(List.dropLast_concat_getLast _).symm⟩;have hl:rs'.length=n:=by rw[Df,List.length_singleton]at h;omega
  have ih:=sO S z n rs' hl;rw[lE,C6,List.sum_append];have e1:(br (tx z) rs').map (fun i=>((rs'++[r])[i]?.map S).getD 0)=(br (tx z) rs').map fun i=>(rs'[i]?.map S).getD 0:=List.map_congr_left fun i hi=>by
   obtain⟨q,hq,_⟩:=m5 hi;rw[Dd (CM.mp hq).1]
  rw[e1,ih];unfold cz;rw[List.filter_append,C6,List.sum_append]
  congr 1
  by_cases hz:r.2.n=z
  ·rw[if_pos (by rw[hz])]
   simp[hz]
  ·rw[if_neg (fun e=>hz (jA e))]
   simp[hz]
theorem rS{q:Nat×RV}{r c:Nat}{k:Int}(h4:q.1<4)(hq:1<=q.2.c)(hr:1<=r)(hc:1<=c)(hr6:r<=6)(hc6:c<=6)(hk:k<=16):(cv q r c k).length<=75:=by
 obtain⟨t,v⟩:=q;have:t=0\/t=1\/t=2\/t=3:=by simp at h4;omega
 simp only at hq;rcases this with rfl | rfl | rfl | rfl
 ·show(if r=1/\c=1/\k=v.c then[[]] else[]).length<=75
  split<;>simp
 ·refine Dm (cg (by show k-v.c<=15;omega) _ fun z hz=>dD hr hz) ?_
  rw[dS];omega
 ·refine Dm (cg (by show k-v.c<=15;omega) _ fun z hz=>dC hc hz) ?_
  rw[dO];omega
 ·show([[_]]:List (List TR)).length<=75
  simp
theorem jY{z:Str}:∀{m:List (Str×List Nat)},z∉m.map (·.1)->m.lookup z=none
 | [],_=>rfl
 |p::m,h=>by
  rw[Dl,C9]at h;have h1:(z==p.1)=false:=beq_eq_false_iff_ne.mpr fun e=>h (.inl e);rw[List.lookup_cons,h1];exact jY fun q=>h (.inr q)
theorem w9{R:RC}{H:Hp}{t:Nat}{a b:Addr}{v:RV}{p:TR}{Q:VK}{E:XK}(hb:H b=some (.tup (ik p)))(h4:t<4)(ra:gj R H t a v)(r1:1<=p.2.1)(r6:p.2.1<=6)(c1:1<=p.2.2.1)(c6:p.2.2.1<=6)(k16:p.2.2.2<=16)(k1:1<=p.2.2.2)(vc:1<=v.c)(vc9:v.c<=9)(vt:0<=v.t)(q:∀l H',H l=none->dc H H' l (cv (t,v) p.2.1 p.2.2.1 p.2.2.2)->ax H H'->Q (.ref l) H') :
  ∃o,o∈jh R/\∃a_1,V.ref a=V.ref a_1/\∃dx fs,H a_1=some (.ins o.1 dx fs)/\fs.lookup (Str.ofString "part_rows")=none/\∃xs,bv K H b xs/\∃v1,ki xs 1=some v1/\∃xs,bv K H b xs/\∃v2,ki xs 2=some v2/\∃xs,bv K H b xs/\∃v3,ki xs 3=some v3/\o.2 [.ref a,v1,v2,v3] H Q E:=by
 obtain⟨o,ho,dx,fs,e1,e2,e3⟩:=vj (E:=E) h4 ra r1 r6 c1 c6 k16 k1 vc vc9 vt q;exact⟨o,ho,a,rfl,dx,fs,e1,e2,_,bv.of hb,_,rfl,_,bv.of hb,_,rfl,_,bv.of hb,_,rfl,e3⟩
noncomputable abbrev bz:Stmt:=fG 32 3
theorem kY:av ["self","row","numbers","size","steps","number","rows","many"] ["self","row"] (ai bz):=by walk_at "c"
theorem lR{R:RC}{f CG CT C_NoName:Addr}{fd:FuncData}{n:Nat}{t1:Tok}(F:di K "reckoned" "TreeRows.reckoned" bz f fd)(nb:NB mg)(m_MOST:mg "MOST"=some (.int 6 t1))(ct:fK K CT)(nt:al K CT "grammar"/\al K CT "steps"/\al K CT "totals")
  (c_fewest:gW P w K mg base bY 1 "fewest" ["size"] (gY K)) (cm_numbers_of:d_ P w K mg base (bZ P w) 1 CG "numbers_of" ["self","name"] (bM R CG C_NoName)) (cm_rule:d_ P w K mg base bY 1 CG "rule" ["self","k"] (dy R CG)) (cp_part_rows:qi P w K mg base bY 3 "part_rows" (jh R))
  (cm_many_together:d_ P w K mg base (bZ P w) (4*n+5) CT "many_together" ["self","rows"] (cr R CG CT n)) :
  aO P w K mg base (bZ P w) (4*n+6) f fd ["self","row"] (dP R CG CT C_NoName (n+1)):=by
 have sc:=kY;walk_at "x"
 ·obtain⟨a,dx,g,dg,d1,d2,b,sg,st,as,rs,m,p,rfl,_⟩:=h;rfl
 ·obtain⟨a,dx,g,dg,d1,d2,b,sg,st,as,rs,m,p,rfl,te,hb,cs⟩:=h
  have hu:=hr.units;refine⟨_,(ag (ay (i:=2) sc.nd rfl (Or.inl rfl) (fB cm_numbers_of (hr.mono (by omega)) (bF fun _ _ _ h=>h) (bg (ak 0) rfl) (aa (az aq (ak 1) ae (fun _ _=>rfl)) ad)))
   (ag (ay (i:=3) sc.nd rfl (Or.inl rfl) (lO xp (ak 1) (km ae) (km ae)))
   (ag (bK (PW.pt (pJ (aD (aN.m0 jt) (aQ (uT rfl) rfl nb.max yt (aa (ak 3) ad)) (cV (v:=.int 6) rfl m_MOST ⟨_,rfl⟩) (aS _)) (lA (aD (aN.m0 sR) (az aq (ak 1) ae (fun _ _=>rfl)) (aI (CX:=bZ P w) c_fewest.lift (hr.mono (by omega)) rfl bd (aa (ak 3) ad)) (aS _)))))
   (aj (aA (bJ ad)))
   aM)
   (ag (ay (i:=4) sc.nd rfl (Or.inl rfl) (bJ ad))
   (ag (bj PassesOwn.leaving rfl (cB (ak 2)) (aC (i:=5) sc.nd rfl (Or.inl rfl))
   (aj (bj PassesOwn.leaving rfl (cB (xh cp_part_rows (hr.mono (by omega)) bo (fB cm_rule (hr.mono (by omega)) bo (bg (ak 0) rfl) (aa (ak 5) ad)) (aa (az aq (ak 1) ae (fun _ _=>rfl)) (aa (az aq (ak 1) ae (fun _ _=>rfl)) (aa (az aq (ak 1) ae (fun _ _=>rfl)) ad))))) (aC (i:=6) sc.nd rfl (Or.inl rfl))
   (ag (ay (i:=7) sc.nd rfl (Or.inl rfl) (fB cm_many_together (hr.mono (by omega)) (bF fun _ _ _ h=>h) (ak 0) (aa (ak 6) ad)))
   (aj (bK (aD (aN.m0 jt) (ak 7) ae (aS _))
   (aj (cQ (mR PySem.F.plainAttrs_list PySem.F.slot_list_append PySem.F.type_list_append gN (ak 4) (aa (aE (aa (ak 5) (aa (ak 6) (aa (ak 7) ad)))) ad))))
   aM))))))
   (aj (aA (ak 4)))))))),?_⟩
  walk_at "n";obtain⟨lk,pn_,tt,hga,_⟩:=id te.gr;refine⟨CT,dx,_,te.at_,ct.cl,nt.1,_,rfl,g,rfl,dg,_,hga,rfl,_,bv.of hb,_,rfl,g,dg,sg,st,as,rs,tx p.1,rfl,te.gr,?_,?_⟩
  rotate_left
  ·intro hnone
   rcases cs with⟨dp,_⟩ | ⟨_,nn,ex⟩
   ·obtain⟨y,hy,e⟩:=Dy.mp dp.nm
    rw[<- e,(sK hy).1]at hnone;cases hnone
   ·exact ex
  intro ns hns l1 H1 hl1 hL1 s1;rcases cs with⟨dp,_,pn,q⟩ | ⟨_,nn,ex⟩
  rotate_left
  ·rw[jY nn]at hns
   cases hns
  obtain⟨y,hy,ey⟩:=Dy.mp dp.nm;have hns':ns=br (tx p.1) rs:=by
   have:=(sK hy).1;rw[ey,hns]at this;exact Option.some.inj this
  subst hns';have hix:∀i∈br (tx p.1) rs,_:=fun i hi=>m5 hi;have hixl:=uW (tx p.1) rs;have m6:=te.m6;have dr1:=dp.r1;have drm:=dp.rm;have dc1:=dp.c1;have dcm:=dp.cm;have dk:=dp.k16;refine h1 _ _ ?_;walk_at "nc";refine⟨_,bv.of (s1 _ _ hb),fun ps H2 hps s2=>h1 _ _ ?_⟩;clear h1;have hps:bv K H2 ps [V.int (p.2.1:Int),V.int (p.2.2.1:Int)]:=hps;have s02:=s1.trans s2;walk_at "n";refine⟨_,_,hps,?_⟩;rw[if_neg (by split<;>omega)];refine⟨_,bv.of (s02 _ _ hb),_,rfl,ps,p.2.1,p.2.2.1,rfl,hps,by omega,by omega,_,rfl,_,rfl,?_⟩
  by_cases hlow:p.2.2.2<fw p.2.1 p.2.2.1
  ·rw[if_pos hlow]
   exact⟨Dh _,fun l hl=>q l [] _ (cn.of (s02.trans (af hl))) (te.up (s02.trans (af hl))).mm (bO.nil ac) (ol hlow).symm (Dh _)⟩
  rw[if_neg hlow];refine h1 _ _ ?_;clear h1;have k1:1<=p.2.2.2:=by have:=cX dr1 dc1;omega
  walk_at "n";refine⟨Dh _,fun ls hls=>h1 _ _ ?_⟩;clear h1;have fls:H ls=none:=s02.free hls;have nl1:l1≠ls:=fun e=>by rw[<- e,s2 _ _ hL1]at hls;cases hls
  have s03:=s02.trans (af (o:=.lst []) hls);have e3:ar H2 ls (.lst []) ls=some (.lst []):=ac;have hL3:=af (o:=.lst []) hls _ _ (s2 _ _ hL1);generalize ar H2 ls (.lst [])=H3 at s03 e3 hL3 ⊢;have cstep:=sI te.gc (p:=p) dk;rw[if_neg (by omega)]at cstep;have isum:=sO (fun q=>((cv q p.2.1 p.2.2.1 p.2.2.2).map fun ps=>aL (CN rs) ps).sum) p.1 _ rs rfl;rw[<- cstep]at isum;generalize hS:(fun q:Nat×RV=>((cv q p.2.1 p.2.2.1 p.2.2.2).map fun ps=>aL (CN rs) ps).sum)=S at isum;walk_at "n";refine⟨⟨_,bp.of hL3⟩,?_⟩;refine cH (xs:=qF (br (tx p.1) rs)) (fun i σ H'=>cn d1 d2 H H'/\i<=(br (tx p.1) rs).length/\gu st rs m H' d1 d2/\H' l1=some (.lst (qF (br (tx p.1) rs)))/\(∃ms,bO H' ls ms/\ms.sum=(((br (tx p.1) rs).take i).map fun j=>(rs[j]?.map S).getD 0).sum/\ms.length<=75*i)/\∃x y z,σ=[some (V.ref a),some (V.ref b),some (V.ref l1),some (V.ref ps),some (V.ref ls),x,y,z]) ⟨.of s03,Dh _,(te.up s03).mm,hL3,⟨[],bO.nil e3,rfl,Dh _⟩,_,_,_,rfl⟩ (fun i σ H' _ h=>bp.of h.2.2.2.1) ?_ ?_
  ·rintro i x σ H4 hx ⟨sd,hi,mm,hL4,⟨ms,hst,hsum,hml⟩,x1,y1,z1,rfl⟩
   have hlt:i<(br (tx p.1) rs).length:=by have:=(CM.mp hx).1;rw[qF,CP]at this;exact this
   rw[qF,CS,mk hlt]at hx;cases hx;obtain⟨qr,hqr,hqn⟩:=hix _ (CZ hlt);have hsn:(((br (tx p.1) rs).take (i+1)).map fun j=>(rs[j]?.map S).getD 0).sum=(((br (tx p.1) rs).take i).map fun j=>(rs[j]?.map S).getD 0).sum+S qr:=by
    rw[List.take_add_one,mk hlt,C6,List.sum_append];simp[hqr]
   generalize(br (tx p.1) rs)[i]'hlt=num at hqr;have te4:=te.next sd mm;obtain⟨lk4,pn4,tt4,hg4,hk4,hR4,_⟩:=id te4.gr;have hbn:num<as.length:=by rw[hR4.1];exact(CM.mp hqr).1
   have hqm:qr∈rs:=CU hqr;obtain⟨q4,qc,qc9⟩:=te.gc qr hqm;have hra:=hR4.2 num _ qr (mk hbn) hqr;have hb4:=(te.kp sd).tup hb;walk_at "wp";refine⟨CT,dx,_,te4.at_,ct.cl,nt.1,_,rfl,g,rfl,dg,_,hg4,rfl,g,dg,sg,st,as,rs,num,as[num],rfl,te4.gr,mk hbn,?_⟩;refine w9 hb4 q4 hra dr1 (by omega) dc1 (by omega) dk k1 qc qc9 (te.gt qr hqm) fun l2 H5 hl2 hT5 s5=>?_;have hSq:S qr=((cv qr p.2.1 p.2.2.1 p.2.2.2).map fun ps=>aL (CN rs) ps).sum:=by rw[<- hS]
   have hprl:=rS q4 qc dr1 dc1 (by omega:p.2.1<=6) (by omega:p.2.2.1<=6) dk;have hpc:∀ps∈cv qr p.2.1 p.2.2.1 p.2.2.2,(∀p'∈ps,tN st rs m p'/\0<n/\p'.2.2.2<(n:Int))/\ps.length<=2/\∀p1 p2,ps=[p1,p2]->p1.2.2.2<=7\/p2.2.2.2<=7:=fun ps hps=>by
    refine⟨fun p' hp'=>?_,?_⟩
    ·obtain⟨d',lt'⟩:=dp.part te.gc hqm k1 hps hp'
     exact⟨d',by push_cast at pn;omega,by push_cast at pn;omega⟩
    ·rcases dj q4 dr1 dc1 hps with rfl | ⟨p',rfl,_⟩ | ⟨_,z,f,sz,f1,f2,rfl⟩
     ·exact⟨by simp,fun p1 p2 e=>by cases e⟩
     ·exact⟨by simp,fun p1 p2 e=>by cases e⟩
     ·refine⟨by simp,fun p1 p2 e=>?_⟩
      cases e;show f<=7\/p.2.2.2-qr.2.c-f<=7;omega
   have hTT:=hT5;change dc H4 H5 l2 (cv qr p.2.1 p.2.2.1 p.2.2.2) at hTT;clear hT5;obtain⟨rw_,hrw,hrl,hre⟩:=hTT;generalize cv qr p.2.1 p.2.2.1 p.2.2.2=pss at hSq hprl hpc hrl hre;have hls4:∃xs,H4 ls=some (.lst xs):=let ⟨ts,h,_⟩:=hst;⟨_,h⟩
   have nls:l2≠ls:=fun e=>by obtain⟨xs,h⟩:=hls4;rw[<- e,hl2]at h;cases h
   refine⟨l2,rfl,⟨_,bp.of hrw⟩,?_⟩;refine cH (xs:=rw_.map V.ref) (fun j σ H'=>cn d1 d2 H H'/\j<=rw_.length/\gu st rs m H' d1 d2/\H' l1=some (.lst (qF (br (tx p.1) rs)))/\H' l2=some (.lst (rw_.map V.ref))/\(∀(i:Nat) a ps,rw_[i]?=some a->pss[i]?=some ps->pj H' a ps)/\(∃ms',bO H' ls ms'/\ms'.sum=ms.sum+((pss.take j).map fun ps=>aL (CN rs) ps).sum/\ms'.length<=75*i+j)/\∃y z,σ=[some (V.ref a),some (V.ref b),some (V.ref l1),some (V.ref ps),some (V.ref ls),some (V.int (num:Int)),y,z]) ⟨sd.trans (.of s5),Dh _,(te4.up s5).mm,s5 _ _ hL4,hrw,fun i a ps e1 e2=>(hre i a ps e1 e2).2,⟨ms,hst.kp (.of s5),by simp,hml⟩,_,_,rfl⟩ (fun j σ H' _ h=>bp.of h.2.2.2.2.1) ?_ ?_
   ·rintro j x σ H6 hx ⟨sd6,hj,mm6,hL6,hr6,hre6,⟨ms6,hst6,hsum6,hml6⟩,y2,z2,rfl⟩
    have hlt6:j<rw_.length:=by have:=(CM.mp hx).1;rwa [CP]at this
    rw[CS,mk hlt6]at hx;cases hx;have hpj:pss[j]?=some (pss[j]'(by omega)):=mk (by omega);have hTr:=hre6 j _ _ (mk hlt6) hpj;obtain⟨pc1,pc2,pc3⟩:=hpc _ (CZ (show j<pss.length by omega));have hfr:=fun i a ps e1 e2=>(hre i a ps e1 e2).1;have te6:=te.next sd6 mm6;have hsn6:((pss.take (j+1)).map fun ps=>aL (CN rs) ps).sum=((pss.take j).map fun ps=>aL (CN rs) ps).sum+aL (CN rs) (pss[j]'(by omega)):=by
     rw[List.take_add_one,hpj,C6,List.sum_append];simp
    walk_at "n";refine⟨dx,_,te6.at_,rfl,a,dx,g,dg,d1,d2,_,sg,st,as,rs,m,_,rfl,te6,hTr,pc1,pc2,pc3,fun H7 sd7 mm7=>h1 _ _ ?_⟩;clear h1;generalize aL (CN rs) (pss[j]'(by omega))=many at hsn6;have kp7:=te6.kp sd7;have hst7:=hst6.kp kp7;walk_at "wp"
    by_cases h0:0<many
    ·rw[if_pos (by omega)]
     obtain⟨xs7,hx7⟩:∃xs,H7 ls=some (.lst xs):=let ⟨ts,h,_⟩:=hst7;⟨_,h⟩
     have hxl:=hst7.len hx7;have n24:=te.n24;refine⟨.inl ⟨rfl,_,bp.of hx7⟩,am (by decide),fun p1 hp1=>?_⟩;have t1:=af (o:=.tup [V.int (num:Int),V.ref rw_[j],V.int (many:Int)]) hp1;have e1:ar H7 p1 (.tup [V.int (num:Int),V.ref rw_[j],V.int (many:Int)]) p1=some (.tup [V.int (num:Int),V.ref rw_[j],V.int (many:Int)]):=ac;generalize ar H7 p1 (.tup [V.int (num:Int),V.ref rw_[j],V.int (many:Int)])=H8 at t1 e1 ⊢;have hx8:=t1 _ _ hx7;obtain⟨m1,m2,hm1,hm2,hmm⟩:=mm7;have nd1:d1≠ls:=fun e=>by rw[e,hx7]at hm1;cases hm1
     have nd2:d2≠ls:=fun e=>by rw[e,hx7]at hm2;cases hm2
     refine⟨_,hx8,by rw[hxl];exact bh (by omega),?_,hlt6,⟨m1,m2,by rw[ah nd1];exact t1 _ _ hm1,by rw[ah nd2];exact t1 _ _ hm2,hmm⟩,by rw[ah nl1];exact t1 _ _ (kp7.lst hL6),by rw[ah nls];exact t1 _ _ (kp7.lst hr6),fun i a ps x1 x2=>(((hre6 i a ps x1 x2).kp kp7).up t1).put ?_ ⟨_,hx8⟩,ms6++[many],(hst7.kp (.of t1)).app hx8 e1,?_,?_⟩
     ·intro x o n1 n2 e
      rw[ah (fun z=>by rw[z,fls]at e;cases e)];exact t1 _ _ (sd7 x o n1 n2 (sd6 x o n1 n2 e))
     ·intro z
      have hz:=(hfr i a ps x1 x2).1;obtain⟨xs,h⟩:=hls4;rw[z,h]at hz;cases hz
     ·rw[List.sum_append,hsum6,hsn6];simp;omega
     ·rw[Df];simp;omega
    ·rw[if_neg (by omega)]
     refine⟨sd6.trans sd7,hlt6,mm7,kp7.lst hL6,kp7.lst hr6,fun i a ps x1 x2=>(hre6 i a ps x1 x2).kp kp7,ms6,hst7,?_,by omega⟩;rw[hsum6,hsn6];omega
   ·rintro σ H6 ⟨sd6,_,mm6,hL6,hr6,hre6,⟨ms6,hst6,hsum6,hml6⟩,y2,z2,rfl⟩
    refine⟨sd6,hlt,mm6,hL6,⟨ms6,hst6,?_,?_⟩,_,_,_,rfl⟩
    ·rw[hsum6,hsn,hsum,hSq,CP,hrl,Ds]
    ·rw[CP]at hml6;omega
  ·rintro σ H4 ⟨sd,_,mm,_,⟨ms,hst,hsum,hml⟩,x1,y1,z1,rfl⟩
   refine h1 _ _ ?_;walk_at "wp";have hl':(qF (br (tx p.1) rs)).length=(br (tx p.1) rs).length:=by rw[qF,CP]
   rw[hl',Ds]at hsum;have n24:=te.n24;rw[hl']at hml;exact q ls ms H4 sd mm hst (by rw[hsum];exact isum) (by omega)
theorem uw{zs:List Str}{z:Str}{k:List bS}(h:(Sum.inr z::k)∈uN zs):z∈zs:=by
 unfold uN at h;obtain⟨y,hy,h⟩:=List.mem_flatMap.mp h;obtain⟨r,_,h⟩:=List.mem_flatMap.mp h;obtain⟨c,_,h⟩:=List.mem_flatMap.mp h;obtain⟨j,_,e⟩:=Dy.mp h;have:=(List.cons.inj e).1;cases this;exact hy
theorem mj.bad{st:List Nat}{rs:List (Nat×RV)}{m:Nat}{m1 m2:List (List bS×V)}{p:TR}(h:mj st rs m m1 m2)(hn:tx p.1∉(aB (tx st) rs).map (·.1)):bf m1 (bI p)=none:=by
 cases e:bf m1 (bI p) with
 |none=>rfl
 |some v=>exact absurd (uw (h.k1 _ (xM e))) hn
theorem gU{kvs:List (List bS×V)}{k:List bS}{v:V}(hn:(kvs.map (·.1)).Nodup):((bL kvs k v).map (·.1)).Nodup/\∀x,x∈(bL kvs k v).map (·.1)->x=k\/x∈kvs.map (·.1):=by
 cases e:bf kvs k with
 |none=>exact⟨w8 v hn e,fun x hx=>by
   rw[kA v e,C6,C7]at hx;rcases hx with h | h
   ·exact .inr h
   ·exact .inl (by simpa using h)⟩
 |some u=>
  have e2:(bL kvs k v).map (·.1)=kvs.map (·.1):=by
   unfold bL;have hh:(kvs.any fun kv=>decide (kv.1=k))=true:=by rw[dl,e];rfl
   rw[if_pos hh,C8];refine List.map_congr_left fun kv _=>?_;show(if kv.1=k then(kv.1,v) else kv).1=kv.1
   split<;>rfl
  rw[e2];exact⟨hn,fun x hx=>.inr hx⟩
theorem mj.put{st:List Nat}{rs:List (Nat×RV)}{m:Nat}{m1 m2:List (List bS×V)}{p:TR}{v:V}(h:mj st rs m m1 m2)(d:tN st rs m p)(h6:m<=6):mj st rs m (bL m1 (bI p) v) (bL m2 (bI p) (.int (CN rs p:Nat))):=by
 have hm:=vO d h6;refine⟨(gU h.n1).1,(gU h.n2).1,fun k hk=>?_,fun k hk=>?_,fun p' hp'=>?_⟩
 ·rcases(gU h.n1).2 k hk with e | e
  ·rw[e];exact hm
  ·exact h.k1 k e
 ·rcases(gU h.n2).2 k hk with e | e
  ·rw[e];exact hm
  ·exact h.k2 k e
 ·rw[ju]at hp' ⊢
  by_cases e:bI p'=bI p
  ·rw[if_pos e,qA e]
  ·rw[if_neg e]at hp' ⊢
   exact h.ok p' hp'
theorem p_:∀ms:List Nat,(ms.map fun(x:Nat)=>(x:Int)).sum=((ms.sum:Nat):Int)
 | []=>rfl
 |x::ms=>by rw[Dl,List.sum_cons,List.sum_cons,p_ ms];push_cast;rfl
noncomputable abbrev bB:Stmt:=fG 32 2
theorem la:av ["self","row","steps"] ["self","row"] (ai bB):=by walk_at "c"
theorem le{R:RC}{f CG CT C_NoName:Addr}{fd:FuncData}{n:Nat}(F:di K "steps_of" "TreeRows.steps_of" bB f fd)(nb:NB mg)(nbsum:mg "sum"=none)(ct:fK K CT)(nt:al K CT "grammar"/\al K CT "steps"/\al K CT "totals")
  (cm_reckoned:d_ P w K mg base (bZ P w) (4*n+6) CT "reckoned" ["self","row"] (dP R CG CT C_NoName (n+1))) :
  aO P w K mg base (bZ P w) (4*n+7) f fd ["self","row"] (dI R CG CT C_NoName (n+1)):=by
 have sc:=la;walk_at "x"
 ·obtain⟨a,dx,g,dg,d1,d2,b,sg,st,as,rs,m,p,rfl,_⟩:=h;rfl
 ·obtain⟨a,dx,g,dg,d1,d2,b,sg,st,as,rs,m,p,rfl,te,hb,cs⟩:=h
  have hu:=hr.units;refine⟨_,(ag (bK (vR (mD (Dw (DA (by decide:1<=64) _) hu) (ak 1) (bg (ak 0) rfl)) (by with_unfolding_all rfl))
   (ag (ay (i:=2) sc.nd rfl (Or.inl rfl) (fB cm_reckoned (hr.mono (by omega)) (bF fun _ _ _ h=>h) (ak 0) (aa (ak 1) ad)))
   (ag (oN (Dw (DA (by decide:1<=64) _) hu) (bg (ak 0) rfl) (ak 1) (ak 2) rfl)
   (aj (oN (Dw (DA (by decide:1<=64) _) hu) (bg (ak 0) rfl) (ak 1) (aQ (ud rfl) rfl nbsum yF (aa (fF ["number","rows","many"] [] rfl (bG.of (by kernel_rfl)) (by kernel_rfl) (cB (ak 2))
    (fun _ _ _ _=>(xS (K:=K) (n:=3) rfl rfl (cT (aC (i:=0) (by show(["number","rows","many"]:List Str).Nodup;decide +kernel) rfl (Or.inl rfl)) (cT (aC (i:=1) (by show(["number","rows","many"]:List Str).Nodup;decide +kernel) rfl (Or.inl rfl)) (cT (aC (i:=2) (by show(["number","rows","many"]:List Str).Nodup;decide +kernel) rfl (Or.inl rfl)) ky))))) (fun _ _ _ _=>dA) (fun _ _ _ _=>(ak 2))) ad)) rfl))))
   aM)
   (aj (aA (om (Dw (DA (by decide:1<=64) _) hu) (bg (ak 0) rfl) (ak 1) (fun _ _=>rfl))))),?_⟩
  obtain⟨m1,m2,hm1,hm2,hmm⟩:=id te.mm;have hbk:H b=some (.tup ((bI p).map kV)):=hb;refine ao fun N1 h1=>?_;refine wm fun tb1 tb2 ee1 ee2=>?_;walk_at "wp";refine⟨CT,dx,_,te.at_,ct.cl,nt.2.1,_,rfl,d1,rfl,bf m1 (bI p),dN.t hm1 hbk,?_⟩;have fin:∀H',(∃v,dN H' d1 (V.ref b) (some v))->cn d1 d2 H H'->gu st rs m H' d1 d2->tN st rs m p->(∃m2,H' d2=some (.dT m2)/\bf m2 (bI p)=some (.int (CN rs p:Nat)))->∀x,N1 [some (V.ref a),some (V.ref b),x] H':=fun H' ⟨v,hv⟩ sd mm dp hm2 x=>by
   refine h1 _ _ ?_;walk_at "wp";refine⟨CT,dx,_,(te.kp sd).ins te.at_,ct.cl,nt.2.1,_,rfl,d1,rfl,v,hv,?_⟩;rcases cs with⟨_,_,_,q⟩ | ⟨_,nn,_⟩
   ·exact q v H' sd mm hm2
   ·exact absurd dp.nm nn
  cases hv:bf m1 (bI p) with
  |some v=>
   rw[if_neg (by simp)];rw[ee2];rcases cs with⟨dp,n0,pn,q⟩ | ⟨_,nn,ex⟩
   ·walk_at "wp"
    refine fin H ⟨v,by rw[<- hv];exact dN.t hm1 hbk⟩ (fun _ _ _ _ e=>e) te.mm dp ⟨m2,hm2,hmm.ok p (by rw[hv];rfl)⟩ _
   ·rw[hmm.bad nn]at hv;cases hv
  |none=>
   rw[if_pos (by simp)];rw[ee1];walk_at "o";refine⟨dx,_,te.at_,rfl,a,dx,g,dg,d1,d2,b,sg,st,as,rs,m,p,rfl,te,hb,?_⟩;rcases cs with⟨dp,n0,pn,q⟩ | ⟨_,nn,ex⟩
   rotate_left
   ·exact .inr ⟨Nat.succ_pos _,nn,ex⟩
   refine .inl ⟨dp,n0,pn,fun l ms H1 sd1 mm1 hst hsum hml=>h2 _ _ ?_⟩;clear h2;have te1:=te.next sd1 mm1;obtain⟨m1',m2',hm1',hm2',hmm'⟩:=id mm1;have kp1:=te.kp sd1;have hb1:H1 b=some (.tup ((bI p).map kV)):=kp1.tup hb;have hln:=hmm'.len te.nz;walk_at "o";refine⟨CT,dx,_,te1.at_,ct.cl,nt.2.1,_,rfl,d1,rfl,_,sf.t hm1' hb1 hln.1,h2 _ _ ?_⟩;clear h2;have kp2:Kp H1 (ar H1 d1 (.dT (bL m1' (bI p) (V.ref l)))):=Kp.put hm1';have e21:ar H1 d1 (.dT (bL m1' (bI p) (V.ref l))) d1=some (.dT (bL m1' (bI p) (V.ref l))):=ac;have e22:ar H1 d1 (.dT (bL m1' (bI p) (V.ref l))) d2=some (.dT m2'):=by rw[ah te.ne.symm];exact hm2'
   have sd2:cn d1 d2 H (ar H1 d1 (.dT (bL m1' (bI p) (V.ref l)))):=sd1.trans .put1;generalize ar H1 d1 (.dT (bL m1' (bI p) (V.ref l)))=H2 at kp2 e21 e22 sd2 ⊢;have hst2:=hst.kp kp2;obtain⟨ts,hts,htl,hte⟩:=hst2;have hat2:=kp2.ins te1.at_;have hb2:=kp2.tup hb1;walk_at "wp";have hz1:(ts.zip ms).map (·.1)=ts:=List.map_fst_zip (by omega);have hz2:(ts.zip ms).map (·.2)=ms:=List.map_snd_zip (by omega);have hzr:(ts.zip ms).map (fun z=>V.ref z.1)=ts.map V.ref:=by rw[<- congrArg (List.map V.ref) hz1,C8];rfl
   refine⟨⟨_,bp.of hts⟩,?_⟩;refine kU (as:=ts.zip ms) (emb:=fun z=>V.ref z.1) (f:=fun z=>some (V.int (z.2:Nat))) (fun σ=>∃x y z,σ=[x,y,z]) ⟨_,_,_,rfl⟩ (fun H' s'=>bp.of (by rw[hzr];exact s' _ _ hts)) (by rw[List.length_zip];omega) ?_ ?_
   ·rintro i z hz σ H' N1' N0 ⟨x,y,w,rfl⟩ sm k1 k0
    have h1:ts[i]?=some z.1/\ms[i]?=some z.2:=List.getElem?_zip_eq_some.mp hz;obtain⟨u,v,e⟩:=hte i z.1 z.2 h1.1 h1.2;walk_at "wp";exact⟨_,bv.of (sm _ _ e),rfl,_,_,rfl,_,_,rfl,_,_,rfl,rfl,k1 _ _ _ rfl sm ⟨_,_,_,rfl⟩⟩
   intro H3 s3 lc hlc;rw[ot];have emap:(ts.zip ms).map (fun z=>V.int (z.2:Nat))=(ms.map fun(x:Nat)=>(x:Int)).map V.int:=by
    conv=>rhs;rw[<- hz2]
    rw[C8,C8];rfl
   rw[emap];have s4:=s3.trans (af (o:=.lst ((ms.map fun(x:Nat)=>(x:Int)).map V.int)) hlc);have e4:ar H3 lc (.lst ((ms.map fun(x:Nat)=>(x:Int)).map V.int)) lc=some (.lst ((ms.map fun(x:Nat)=>(x:Int)).map V.int)):=ac;generalize ar H3 lc (.lst ((ms.map fun(x:Nat)=>(x:Int)).map V.int))=H4 at s4 e4 ⊢;refine⟨_,bp.of e4,CT,dx,_,s4 _ _ hat2,ct.cl,nt.2.2,_,rfl,d2,rfl,_,sf.t (s4 _ _ e22) (s4 _ _ hb2) hln.2,?_⟩;rw[p_,hsum];have nb2:b≠d2:=fun e=>by rw[e,e22]at hb2;cases hb2
   refine fin _ ⟨V.ref l,?_⟩ ((sd2.trans (.of s4)).trans .put2) ⟨_,_,?_,ac,hmm'.put (v:=V.ref l) dp te.m6⟩ dp ⟨_,ac,by rw[ju,if_pos rfl]⟩ _
   ·have:=dN.t (H:=ar H4 d2 (.dT (bL m2' (bI p) (V.int (CN rs p:Nat))))) (a:=d1) (b:=b) (kvs:=bL m1' (bI p) (V.ref l)) (k:=bI p) (by rw[ah te.ne];exact s4 _ _ e21) (by rw[ah nb2];exact s4 _ _ hb2)
    rw[ju,if_pos rfl]at this;exact this
   ·rw[ah te.ne];exact s4 _ _ e21
noncomputable abbrev bt:Stmt:=fG 32 1
theorem iI:av ["self","row"] ["self","row"] (ai bt):=by walk_at "c"
theorem mn{R:RC}{f CG CT C_NoName:Addr}{fd:FuncData}{n:Nat}(F:di K "many_in" "TreeRows.many_in" bt f fd)(nb:NB mg)(ct:fK K CT)(nt:al K CT "grammar"/\al K CT "steps"/\al K CT "totals")
  (cm_steps_of:d_ P w K mg base (bZ P w) (4*n+7) CT "steps_of" ["self","row"] (dI R CG CT C_NoName (n+1))) :
  aO P w K mg base (bZ P w) (4*n+8) f fd ["self","row"] (bC R CG CT C_NoName (n+1)):=by
 have sc:=iI;walk_at "x"
 ·obtain⟨a,dx,g,dg,d1,d2,b,sg,st,as,rs,m,p,rfl,_⟩:=h;rfl
 ·obtain⟨a,dx,g,dg,d1,d2,b,sg,st,as,rs,m,p,rfl,te,hb,cs⟩:=h
  have hu:=hr.units;refine⟨_,(ag (cQ (fB cm_steps_of (hr.mono (by omega)) (bF fun _ _ _ h=>h) (ak 0) (aa (ak 1) ad)))
   (aj (aA (om (Dw (DA (by decide:1<=64) _) hu) (bg (ak 0) rfl) (ak 1) (fun _ _=>rfl))))),?_⟩
  walk_at "n";refine⟨dx,_,te.at_,rfl,a,dx,g,dg,d1,d2,b,sg,st,as,rs,m,p,rfl,te,hb,?_⟩;rcases cs with⟨dp,n0,pn,q⟩ | ⟨_,nn,ex⟩
  rotate_left
  ·exact .inr ⟨Nat.succ_pos _,nn,ex⟩
  refine .inl ⟨dp,n0,pn,fun v H1 sd1 mm1 ⟨m2,hm2,hv⟩=>h1 _ _ ?_⟩;walk_at "wp";refine⟨CT,dx,_,(te.kp sd1).ins te.at_,ct.cl,nt.2.2,_,rfl,d2,rfl,_,?_,q H1 sd1 mm1⟩;have:=dN.t (k:=bI p) hm2 ((te.kp sd1).tup hb);rw[hv]at this;exact this
theorem uo{R:RC}{f CG CT C_NoName:Addr}{fd:FuncData}(F:di K "many_in" "TreeRows.many_in" bt f fd):aO P w K mg base (bZ P w) 4 f fd ["self","row"] (bC R CG CT C_NoName 0):=by
 have no:∀{vs:List V} {H:Hp} {Q:VK} {E:XK},¬ bC R CG CT C_NoName 0 vs H Q E:=fun h=>by
  obtain⟨a,dx,g,dg,d1,d2,b,sg,st,as,rs,m,p,_,_,_,⟨_,h0,_⟩ | ⟨h0,_⟩⟩:=h<;>exact absurd h0 (by omega)
 exact F.okX (k:=3) (sp:=bC R CG CT C_NoName 0) iI (fun vs H Q E h=>absurd h no) (fun cdv A outer s H vs Q E hr h=>absurd h no)
theorem j6{R:RC}{CG CT C_NoName f1 f2 f3 f4:Addr}{fd1 fd2 fd3 fd4:FuncData}{t1:Tok}(F1:di K "many_in" "TreeRows.many_in" bt f1 fd1)(F2:di K "steps_of" "TreeRows.steps_of" bB f2 fd2)(F3:di K "reckoned" "TreeRows.reckoned" bz f3 fd3)(F4:di K "many_together" "TreeRows.many_together" aR f4 fd4)
  (nb:NB mg) (nbsum:mg "sum"=none) (m_MOST:mg "MOST"=some (.int 6 t1)) (ct:fK K CT) (nt:al K CT "grammar"/\al K CT "steps"/\al K CT "totals") (me1:dW K CT "many_in" f1) (me2:dW K CT "steps_of" f2) (me3:dW K CT "reckoned" f3) (me4:dW K CT "many_together" f4)
  (b1:cL K fd1 ["self","row"] []) (b2:cL K fd2 ["self","row"] []) (b3:cL K fd3 ["self","row"] []) (b4:cL K fd4 ["self","rows"] [])
  (c_fewest:gW P w K mg base bY 1 "fewest" ["size"] (gY K)) (cm_numbers_of:d_ P w K mg base (bZ P w) 1 CG "numbers_of" ["self","name"] (bM R CG C_NoName)) (cm_rule:d_ P w K mg base bY 1 CG "rule" ["self","k"] (dy R CG)) (cp_part_rows:qi P w K mg base bY 3 "part_rows" (jh R)) :
  ∀n,d_ P w K mg base (bZ P w) (4*n+4) CT "many_in" ["self","row"] (bC R CG CT C_NoName n)
 |0=>⟨f1,fd1,uo F1,ct.cl,me1,b1⟩
 |n+1=>by
  have ih:=j6 F1 F2 F3 F4 nb nbsum m_MOST ct nt me1 me2 me3 me4 b1 b2 b3 b4 c_fewest cm_numbers_of cm_rule cp_part_rows n;have c4:d_ P w K mg base (bZ P w) (4*n+5) CT "many_together" ["self","rows"] (cr R CG CT n):=⟨f4,fd4,ia F4 nb ih,ct.cl,me4,b4⟩;have c3:d_ P w K mg base (bZ P w) (4*n+6) CT "reckoned" ["self","row"] (dP R CG CT C_NoName (n+1)):=⟨f3,fd3,lR F3 nb m_MOST ct nt c_fewest cm_numbers_of cm_rule cp_part_rows c4,ct.cl,me3,b3⟩;have c2:d_ P w K mg base (bZ P w) (4*n+7) CT "steps_of" ["self","row"] (dI R CG CT C_NoName (n+1)):=⟨f2,fd2,le F2 nb nbsum ct nt c3,ct.cl,me2,b2⟩;exact⟨f1,fd1,mn F1 nb ct nt c2,ct.cl,me1,b1⟩
noncomputable abbrev eG:Stmt:=lW 33
structure v9(st:List Nat)(rs:List (Nat×RV))(m:Nat):Prop where
 gc:gw rs
 gt:∀q∈rs,0<=q.2.t
 sm:∀p:TR,p.2.1<=m->p.2.2.1<=m->p.2.2.2<=7->CN rs p<2 ^ 64
 m6:m<=6
 n24:rs.length<=24
 nz:(aB (tx st) rs).length<=100
noncomputable def dJ(R:RC)(CG CN_:Addr):Sp:=fun vs H Q E=>∃(g dg:Addr) (sg st:List Nat) (as:List Addr) (rs:List (Nat×RV)) (m:Nat) (p:TR),vs=[.ref g,.str (tx p.1),.int (p.2.1:Int),.int (p.2.2.1:Int),.int p.2.2.2]/\e_ R H CG dg g sg st as rs/\v9 st rs m /\
 ((tN st rs m p/\∀H',ax H H'->Q (.int (CN rs p:Nat)) H')\/(tx p.1∉(aB (tx st) rs).map (·.1)/\∀H',ax H H'->E (.ref CN_) none H'))
theorem lF:av ["grammar","name","rows","columns","cost"] ["grammar","name","rows","columns","cost"] (ai eG):=by walk_at "c"
theorem kK{R:RC}{f CG CT C_NoName:Addr}{fd:FuncData}(F:di K "count_trees" "count_trees" eG f fd)(nb:NB mg)(ct:fK K CT)(nt:al K CT "grammar"/\al K CT "steps"/\al K CT "totals")
  (ck_TreeRows:jO P w K mg base bY 1 "TreeRows" CT ["self","grammar"] (jb K)) (cm_many_in:d_ P w K mg base (bZ P w) 72 CT "many_in" ["self","row"] (bC R CG CT C_NoName 17)) :
  aO P w K mg base (bZ P w) 73 f fd ["grammar","name","rows","columns","cost"] (dJ R CG C_NoName):=by
 have sc:=lF;walk_at "x"
 ·obtain⟨g,dg,sg,st,as,rs,m,p,rfl,_⟩:=h;rfl
 ·obtain⟨g,dg,sg,st,as,rs,m,p,rfl,gr,ok,cs⟩:=h
  have hu:=hr.units;refine⟨_,(aj (aA (fB cm_many_in (hr.mono (by decide)) (bF fun _ _ _ h=>h) (gZ ck_TreeRows (hr.mono (by decide)) rfl bo (aa (ak 0) ad)) (aa (aE (aa (ak 1) (aa (ak 2) (aa (ak 3) (aa (ak 4) ad))))) ad)))),?_⟩;walk_at "wp";intro x dx hx hdx hne;have sm1:ax H (ar (ar H dx (.own x)) x (.ins CT dx [])):=(af hdx).trans (af (by rw[ah (Ne.symm hne)];exact hx));refine⟨x,CT,dx,g,rfl,ac,ct.cl,nt,fun d1 d2 H2 f1 f2 n12 ex ed1 ed2 sx=>⟨rfl,dx,_,ex,rfl,am (by decide),fun b hb=>?_⟩⟩;have s2:ax H H2:=fun y u e=>sx y u (au e hx) (sm1 y u e);have s3:=af (o:=.tup (ik p)) hb;have s03:=s2.trans s3;have te:jQ R CG CT (ar H2 b (.tup (ik p))) x dx g dg d1 d2 sg st as rs m:=⟨s3 _ _ ex,n12,gr.up s03,ok.gc,ok.gt,ok.sm,ok.m6,ok.n24,ok.nz,[],[],s3 _ _ ed1,s3 _ _ ed2,⟨List.nodup_nil,List.nodup_nil,(fun k h=>nomatch h),(fun k h=>nomatch h),(fun p h=>by cases h)⟩⟩;refine⟨x,dx,g,dg,d1,d2,b,sg,st,as,rs,m,p,rfl,te,ac,?_⟩;rcases cs with⟨dp,q⟩ | ⟨nn,ex'⟩
  ·exact .inl ⟨dp,by decide,by have:=dp.k16;omega,fun H4 sd mm=>q H4 fun y u e=>sd y u (fun z=>by rw[z,sm1.free f1]at e;cases e) (fun z=>by rw[z,sm1.free f2]at e;cases e) (s03 y u e)⟩
  ·exact .inr ⟨by decide,nn,ex' _ s03⟩
noncomputable abbrev jJ:Stmt:=lW 44
noncomputable def kC(K:W.Frag):Sp:=fun vs H Q _=>∃(a:Addr) (ns:List Int) (b m:Nat),vs=[.ref a,.int (b:Int),.int (m:Int)]/\bp K H a (ns.map V.int)/\b<=100/\1<=m/\m<=100/\∀(l:Addr) (cs:List Int) (H':Hp),H l=none->H' l=some (.lst (cs.map V.int))->1<=cs.length->cs.length<=m->ax H H'->Q (.ref l) H'
theorem rQ:av ["_law_script","_law_begin","_law_most","_law_many"] ["_law_script","_law_begin","_law_most"] (ai jJ):=by walk_at "c"
theorem qI{f:Addr}{fd:FuncData}(F:di K "_law_cells" "_law_cells" jJ f fd)(nb:NB mg)(zta:gW P w K mg base bY 1 "_law_cell" ["_law_script","_law_k"] (jU K)):aO P w K mg base bY 2 f fd ["_law_script","_law_begin","_law_most"] (kC K):=by
 have sc:=rQ;walk_at "f"
 ·obtain⟨a,ns,b,m,rfl,_⟩:=h;rfl
 ·obtain⟨a,ns,b,m,rfl,ha,hb,hm1,hm,q⟩:=h
  refine⟨_,(ag (ay (i:=3) sc.nd rfl (Or.inl rfl) (ap (aN.m0 cE) (ak 2) (ap (aN.m1 aT) (ap (aN.m1 aV) (aI zta (hr.mono (by decide)) rfl bo (aa (ak 0) (aw ad))) (ak 2)) ae)))
   (aj (aA (fF ["_law_k"] [0] rfl (bG.of (by kernel_rfl)) (by kernel_rfl) (b9 rfl nb.range (aa (ak 1) (aa (ap (aN.m0 bw) (ak 1) (ak 3)) ad)))
    (fun _ _ _ _=>(aC (i:=0) (by show(["_law_k","_law_script"]:List Str).Nodup;decide +kernel) rfl (Or.inl rfl))) (fun _ _ _ _=>dA) (fun _ _ _ _=>(aI zta (hr.mono (by decide)) rfl bo (aa (ak 1) (aa (ak 0) ad)))))))),?_⟩
  walk_at "n";refine⟨a,ns,62,rfl,ha,by omega,fun c=>⟨_,rfl,by omega,h1 _ _ ?_⟩⟩;clear h1;obtain⟨n,hn⟩:∃n:Nat,(m:Int)-c%(m:Int)/2=(n:Int):=⟨((m:Int)-c%(m:Int)/2).toNat,by have:=DC c (b:=(m:Int)) (by omega);have:=DD c (b:=(m:Int)) (by omega);omega⟩;have hn2:1<=n/\n<=m:=by have:=DC c (b:=(m:Int)) (by omega);have:=DD c (b:=(m:Int)) (by omega);omega
  rw[hn];walk_at "wp";refine⟨by omega,by omega,by omega,by omega,?_⟩;rw[show((b:Int)+(n:Int)-(b:Int)).toNat=n by omega];refine fu (fun i acc σ H'=>ax H H'/\i<=n/\(∃cs:List Int,acc=cs.map V.int/\cs.length=i)/\∃z,σ=[z,some (V.ref a)]) ⟨fun _ _ e=>e,Dh _,⟨[],rfl,rfl⟩,_,rfl⟩ ?_ (fun i acc σ H' h=>h.2.1) ?_ ?_
  ·rintro i acc σ H' ⟨_,hi,⟨cs,rfl,hc⟩,_⟩
   rw[CP,hc];exact bh (by omega)
  ·rintro i acc σ H' hi ⟨sm,_,⟨cs,rfl,hc⟩,z,rfl⟩
   walk_at "wp";exact⟨a,ns,b+i,by simp,sm.seq ha,by omega,fun c=>⟨sm,hi,⟨cs++[c],by simp,by simp[hc]⟩⟩⟩
  rintro acc σ H4 ⟨s4,_,⟨cs,rfl,hc⟩,_⟩;intro l hl;exact q l cs _ (s4.free hl) ac (by omega) (by omega) (s4.trans (af hl))
noncomputable abbrev jP:Stmt:=lW 50
noncomputable def kR:Sp:=fun vs H Q _=>∃(c d:Int) (b:Addr) (p:fY) (sg:List Nat),vs=[.int c,.str (tx sg),.ref b,.int d]/\1<=d/\d<=9/\H b=some (.lst (aW p))/\p.length=4/\(∀r∈p,cw r=true)/\c7 sg=true /\
 ∀t r H',sN p sg r->H' t=some (.tup (og r))->ax H H'->Q (.ref t) H'
theorem rB:av ["_law_cell_here","_law_signs_here","_law_names_here","_law_dear","_law_kind","_law_name","_law_cost","_law_one","_law_rest"] ["_law_cell_here","_law_signs_here","_law_names_here","_law_dear"] (ai jP):=by walk_at "c"
theorem qX{f:Addr}{fd:FuncData}(F:di K "_law_drawn" "_law_drawn" jP f fd)(nb:NB mg):aO P w K mg base bY 1 f fd ["_law_cell_here","_law_signs_here","_law_names_here","_law_dear"] kR:=by
 have sc:=rB;walk_at "f"
 ·obtain⟨c,d,b,p,sg,rfl,_⟩:=h;rfl
 ·obtain⟨c,d,b,p,sg,rfl,d1,d9,hb,hp,hpn,hsg,q⟩:=h
  refine⟨_,(ag (ay (i:=4) sc.nd rfl (Or.inl rfl) (ap (aN.m1 aV) (ak 0) ae))
   (ag (ay (i:=5) sc.nd rfl (Or.inl rfl) (az cP (ak 2) (ap (aN.m1 aV) (ap (aN.m1 aT) (ak 0) ae) ae) (fun _ _=>rfl)))
   (ag (ay (i:=6) sc.nd rfl (Or.inl rfl) (ap (aN.m0 bw) ae (ap (aN.m1 aV) (ap (aN.m1 aT) (ak 0) ae) (ak 3))))
   (ag (ay (i:=7) sc.nd rfl (Or.inl rfl) (az cP (ak 2) (ap (aN.m1 aV) (ap (aN.m1 aT) (ap (aN.m1 aT) (ak 0) ae) (ak 3)) ae) (fun _ _=>rfl)))
   (ag (ay (i:=8) sc.nd rfl (Or.inl rfl) (ap (aN.m1 aT) (ap (aN.m1 aT) (ak 0) ae) (ak 3)))
   (ag (bK (aD eR (ak 4) ae (aS _))
   (aj (aA (aE (aa (ak 5) (aa (ak 6) (aw (aa (az nh (ak 1) (ap (aN.m1 aV) (ak 8) (aQ cR rfl nb.len dn (aa (ak 1) ad))) (fun _ _=>rfl)) (bc ad))))))))
   aM)
   (ag (bK (aD eR (ak 4) ae (aS _))
   (aj (aA (aE (aa (ak 5) (aa (ak 6) (aw (aa (ak 7) (aa (ap (aN.m1 aV) (ak 8) ae) ad))))))))
   aM)
   (aj (aA (aE (aa (ak 5) (aa (ak 6) (aa (ak 4) (aa (ak 7) (aa (az cP (ak 2) (ap (aN.m1 aV) (ak 8) ae) (fun _ _=>rfl)) ad))))))))))))))),?_⟩
  have hsl:=i8 hsg;have pick:∀x:Int,∃z∈p,ki (aW p) (x%4)=some (V.str (tx z)):=fun x=>by
   obtain⟨j,hj⟩:∃j:Nat,x%4=(j:Int):=⟨_,(DE (DC _ (by omega))).symm⟩;have:x%4<4:=DD _ (by omega);exact⟨p[j]'(by omega),CZ _,by rw[hj];exact c8 (jI (by omega))⟩
  have spick:∀x:Int,∃c∈sg,ki (tx sg).cps.toList (x%(sg.length:Int))=some c:=fun x=>by
   rw[kl];exact ye (DC _ (by omega)) (DD _ (by omega))
  have hsz:(tx sg).length<=sizeLine:=by rw[aY];exact am (by omega)
  obtain⟨z1,hz1,p1⟩:=pick (c/4);obtain⟨z2,hz2,p2⟩:=pick (c/16/d);obtain⟨z3,hz3,p3⟩:=pick (c/64/d);obtain⟨ch,hch,pc⟩:=spick (c/64/d);have t0:0<=c/64/d%8:=DC _ (by omega);have t7:c/64/d%8<8:=DD _ (by omega);have c0:0<=c/16%d:=DC _ (by omega);have c9:c/16%d<d:=DD _ (by omega);have gd:∀k,k<4->sN p sg (k,⟨z1,1+c/16%d,z2,z3,[ch],c/64/d%8⟩):=fun k hk=>by
   have g:RV.good ⟨z1,1+c/16%d,z2,z3,[ch],c/64/d%8⟩:=⟨hpn _ hz1,by show 1<=1+c/16%d;omega,by show 1+c/16%d<=9;omega,hpn _ hz2,hpn _ hz3,xj hsg hch,t0,by show c/64/d%8<=7;omega⟩;exact⟨⟨hk,g,g.small⟩,hz1,hz2,hz3,ch,hch,rfl⟩
  walk_at "n";refine h1 _ _ ?_;walk_at "nc";refine⟨_,bp.of hb,_,p1,h1 _ _ ?_⟩;walk_at "nc";refine⟨by omega,h1 _ _ ?_⟩;walk_at "nc";refine⟨by omega,by omega,_,bp.of hb,_,p2,h1 _ _ ?_⟩;walk_at "nc";refine⟨by omega,by omega,h1 _ _ ?_⟩;clear h1;walk_at "wp";have k4:0<=c%4/\c%4<4:=⟨DC _ (by omega),DD _ (by omega)⟩
  by_cases k0:c%4=0
  ·rw[if_pos k0]
   rw[aY];have hs2:sg.length<=sizeLine:=am (by omega);refine⟨hs2,by omega,hs2,ch,pc,am (by decide),fun t ht=>?_⟩;exact q t _ _ (gd 0 (by omega)) ac (af ht)
  ·rw[if_neg k0]
   by_cases k3:c%4=3
   ·rw[if_pos k3]
    exact⟨am (by decide),fun t ht=>q t _ _ (gd 3 (by omega)) ac (af ht)⟩
   ·rw[if_neg k3]
    refine⟨_,bp.of hb,_,p3,am (by decide),fun t ht=>?_⟩;have k12:c%4=1\/c%4=2:=by omega
    rcases k12 with e | e
    ·refine q t _ _ (gd 1 (by omega)) ?_ (af ht)
     rw[ac,e];rfl
    ·refine q t _ _ (gd 2 (by omega)) ?_ (af ht)
     rw[ac,e];rfl
noncomputable abbrev gI:Stmt:=lW 49
noncomputable def jg(R:RC)(CG:Addr):Sp:=fun vs H Q _=>∃(l:Addr) (sg st:List Nat) (ts:List Addr) (rs:List (Nat×RV)),vs=[.str (tx sg),.str (tx st),.ref l]/\iX H l ts rs/\(∀r∈rs,j0 r)/\rs.length<=24/\sg.length<=100/\st.length<=100/\fk sg st rs=none/\∀b db as H',e_ R H' CG db b sg st as rs->ax H H'->Q (.ref b) H'
theorem nG:av ["_law_signs_here","_law_start","_law_rules"] ["_law_signs_here","_law_start","_law_rules"] (ai gI):=by walk_at "c"
theorem oY{R:RC}{f CG zba:Addr}{fd:FuncData}(F:di K "_law_grammar" "_law_grammar" gI f fd)(nb:NB mg)(gk:AN K CG)(zRd:gW P w K mg base bY 6 "_law_rule" ["_law_rule_here"] (jR R))(zic:jO P w K mg base (bZ P w) 4 "Grammar" CG ["self","signs","start","rules"] (fD K R zba)):aO P w K mg base bY 7 f fd ["_law_signs_here","_law_start","_law_rules"] (jg R CG):=by
 have sc:=nG;walk_at "f"
 ·obtain⟨l,sg,st,ts,rs,rfl,_⟩:=h;rfl
 ·obtain⟨l,sg,st,ts,rs,rfl,o,hg,hn,hsg,hst,g0,q⟩:=h
  refine⟨_,(aj (aA (gZ (CX:=bZ P w) zic (hr.mono (by decide)) rfl bd (aa (pv 0) (aa (pv 1) (aa (fF ["_law_rule_here"] [] rfl (bG.of (by kernel_rfl)) (by kernel_rfl) (cB (pv 2))
    (fun _ _ _ _=>(aC (i:=0) (by show(["_law_rule_here"]:List Str).Nodup;decide +kernel) rfl (Or.inl rfl))) (fun _ _ _ _=>dA) (fun _ _ _ _=>(aI zRd (hr.mono (by decide)) rfl bo (aa (pv 0) ad)))) ad)))))),?_⟩
  walk_at "wp";refine⟨⟨_,bp.of o.1⟩,qW o hg (by omega) fun as H2 s2 hA lr hlr x dx hx hdx hne=>?_⟩;have s3:ax H2 (ar H2 lr (.lst (as.map V.ref))):=af hlr;have e3:ar H2 lr (.lst (as.map V.ref)) lr=some (.lst (as.map V.ref)):=ac;generalize ar H2 lr (.lst (as.map V.ref))=H3 at s3 e3 hx hdx ⊢;have sm4:ax H3 (ar (ar H3 dx (.own x)) x (.ins CG dx [])):=(af hdx).trans (af (by rw[ah (Ne.symm hne)];exact hx));refine⟨x,CG,dx,lr,sg,st,as,rs,rfl,ac,gk.cl.cl,gk.na,by omega,by omega,sm4 _ _ e3,(hA.up s3).up sm4,fun r hr=>(hg r hr).k4,by omega,(fun _ H4 lk pn t sx gA _ _ _=>⟨rfl,?_⟩),fun y hy=>nomatch hy.symm.trans g0⟩;exact q x dx _ H4 gA.f ((s2.trans s3).trans fun b u e=>sx b u (au e hx) (sm4 b u e))
noncomputable def dG(kvs:List (List bS×V))(g:TR->Nat):Prop:=∀p:TR,(bf kvs (bI p)).getD (.int 0)=.int (g p:Nat)
theorem dG.nil:dG [] fun _=>0:=fun _=>rfl
theorem dG.put{kvs:List (List bS×V)}{g:TR->Nat}(h:dG kvs g)(p:TR)(x:Nat):dG (bL kvs (bI p) (.int (x:Nat))) fun p'=>if p'=p then x else g p':=fun p'=>by
 show _=V.int ((if p'=p then x else g p':Nat):Int);rw[ju]
 by_cases e:p'=p
 ·rw[if_pos (by rw[e]),if_pos e];rfl
 ·rw[if_neg (fun z=>e (qA z)),if_neg e];exact h p'
theorem dG.get{kvs:List (List bS×V)}{g:TR->Nat}{H:Hp}{d b:Addr}{p:TR}{Q:VK}(h:dG kvs g)(hd:H d=some (.dT kvs))(hb:H b=some (.tup (ik p)))(q:Q (.int (g p:Nat)) H):∃o,dN H d (V.ref b) o/\Q (o.getD (.int 0)) H:=
 ⟨bf kvs (bI p),dN.t hd hb,by rw[h p];exact q⟩
section
variable {X:Cx}
noncomputable def zE:List V->Hp->VK->Prop:=fun xs H Q=>∃b,xs=[.bl b]/\Q (.int (if b=true then 1 else 0)) H
theorem pk:eY X (.type "int") zE:=by
 intro pins s σ H xs us Q I r h;obtain⟨b,rfl,q⟩:=h;obtain⟨u,rfl,ru⟩:=qp r;obtain rfl:u=Value.bool b:=ru;exact PySem.call_int_bool ⟨.int _,H,I.tok _,⟨_,rfl⟩,q⟩
end
noncomputable def lM(g:TR->Nat)(q:Nat×RV)(r c:Nat)(left:Int):Nat:=a_ g q.2.o1 q.2.o2 (if q.1=1 then bQ r c else bR r c) left
noncomputable abbrev jD:Stmt:=lW 51
noncomputable def kJ:Sp:=fun vs H Q _=>∃(d t z_:Addr) (kvs:List (List bS×V)) (g:TR->Nat) (q_:Nat×RV) (r c:Nat) (left:Int),vs=[.ref d,.ref t,.ref z_,.int left]/\H d=some (.dT kvs)/\dG kvs g/\H t=some (.tup (og q_))/\(q_.1=1\/q_.1=2)/\H z_=some (.tup [.int (r:Int),.int (c:Int)])/\1<=r/\r<=3/\1<=c/\c<=3/\left<=15/\-100<=left /\
 (∀p:TR,p.2.1<=3->p.2.2.1<=3->p.2.2.2<=7->p.2.2.2<left->g p<2 ^ 64)/\∀H',ax H H'->Q (.int (lM g q_ r c left:Nat)) H'
theorem rF:av ["_law_counts_here","_law_rule_here","_law_size","_law_left","_law_total","_law_at","_law_cost","_law_one","_law_other"] ["_law_counts_here","_law_rule_here","_law_size","_law_left"] (ai jD):=by walk_at "c"
theorem qN{f:Addr}{fd:FuncData}(F:di K "_law_pairs" "_law_pairs" jD f fd)(nb:NB mg):aO P w K mg base bY 1 f fd ["_law_counts_here","_law_rule_here","_law_size","_law_left"] kJ:=by
 have sc:=rF;walk_at "f"
 ·obtain⟨d,t,z_,kvs,g,q_,r,c,left,rfl,_⟩:=h;rfl
 ·obtain⟨d,t,z_,kvs,g,q_,r,c,left,rfl,hd,hG,ht,hk,hz,r1,r3,c1,c3,l15,lm,hbd,q⟩:=h
  have hu:=hr.units;refine⟨_,(ag (ay (i:=4) sc.nd rfl (Or.inl rfl) ae)
   (ag (bj PassesOwn.never rfl (b9 rfl nb.range (aw (aa (az aq (ak 2) (ap (aN.m0 cE) ae (az aq (ak 1) ae (fun _ _=>rfl))) (fun _ _=>rfl)) ad))) (aC (i:=5) sc.nd rfl (Or.inl rfl))
   (aj (bj PassesOwn.never rfl (b9 rfl nb.range (aw (aa (ak 3) ad))) (aC (i:=6) sc.nd rfl (Or.inl rfl))
   (ag (bK (aD eR (az aq (ak 1) ae (fun _ _=>rfl)) ae (aS _))
   (ag (ay (i:=7) sc.nd rfl (Or.inl rfl) (aE (aa (az aq (ak 1) ae (fun _ _=>rfl)) (aa (az aq (ak 2) ae (fun _ _=>rfl)) (aa (ak 5) (aa (ak 6) ad))))))
   (aj (ay (i:=8) sc.nd rfl (Or.inl rfl) (aE (aa (az aq (ak 1) ae (fun _ _=>rfl)) (aa (az aq (ak 2) ae (fun _ _=>rfl)) (aa (ap (aN.m0 cE) (az aq (ak 2) ae (fun _ _=>rfl)) (ak 5)) (aa (ap (aN.m0 cE) (ak 3) (ak 6)) ad))))))))
   (ag (ay (i:=7) sc.nd rfl (Or.inl rfl) (aE (aa (az aq (ak 1) ae (fun _ _=>rfl)) (aa (ak 5) (aa (az aq (ak 2) ae (fun _ _=>rfl)) (aa (ak 6) ad))))))
   (aj (ay (i:=8) sc.nd rfl (Or.inl rfl) (aE (aa (az aq (ak 1) ae (fun _ _=>rfl)) (aa (ap (aN.m0 cE) (az aq (ak 2) ae (fun _ _=>rfl)) (ak 5)) (aa (az aq (ak 2) ae (fun _ _=>rfl)) (aa (ap (aN.m0 cE) (ak 3) (ak 6)) ad)))))))))
   (aj (ay (i:=4) sc.nd rfl (Or.inl rfl) (ap (aN.m0 bw) (ak 4) (ap (aN.m1 cY) (dU (Dw (DA (by decide:1<=64) _) hu) (ak 0) (ak 7) ae ⟨rfl,rfl,rfl,rfl⟩) (dU (Dw (DA (by decide:1<=64) _) hu) (ak 0) (ak 8) ae ⟨rfl,rfl,rfl,rfl⟩)))))))))
   (aj (aA (ak 4))))),?_⟩
  rcases hk with hk | hk
  ·obtain⟨t_,v⟩:=q_
   cases(show t_=1 from hk);have sqt:bv K H t [.str (tx v.n),.int v.c,.int 1,.str (tx v.o1),.str (tx v.o2)]:=bv.of ht;walk_at "n";refine h1 _ _ ?_;walk_at "nc";refine⟨_,sqt,_,rfl,_,rfl,_,bv.of hz,_,rfl,_,rfl,by omega,by omega,by omega,?_⟩;rw[show(((c:Nat):Int)-1).toNat=c-1 by omega];refine bN (fun i σ H'=>ax H H'/\∃x y z w,σ=[some (V.ref d),some (V.ref t),some (V.ref z_),some (V.int left),some (V.int (a_ g v.o1 v.o2 ((bQ r c).take i) left:Nat)),x,y,z,w]) ?_ ?_ ?_
   ·exact⟨fun _ _ e=>e,_,_,_,_,rfl⟩
   ·rintro i σ H1 hi ⟨s1,x1,y1,z1,w1,rfl⟩
    have hz0:(bQ r c)[i]?=some ((r,1+i),(r,c-(1+i))):=mE hi;have hsn:a_ g v.o1 v.o2 ((bQ r c).take (i+1)) left=a_ g v.o1 v.o2 ((bQ r c).take i) left+fT (fun x=>g (v.o1,r,1+i,x)*g (v.o2,r,c-(1+i),left-x)) 1 (left-1).toNat:=by
     unfold a_;rw[List.take_add_one,hz0,C6,List.sum_append];simp
    walk_at "wp";refine⟨by omega,by omega,by omega,?_⟩;refine bN (fun j σ H'=>ax H H'/\∃y z w,σ=[some (V.ref d),some (V.ref t),some (V.ref z_),some (V.int left),some (V.int ((a_ g v.o1 v.o2 ((bQ r c).take i) left+fT (fun x=>g (v.o1,r,1+i,x)*g (v.o2,r,c-(1+i),left-x)) 1 j:Nat):Int)),some (V.int (1+(i:Int))),y,z,w]) ?_ ?_ ?_
    ·exact⟨s1,_,_,_,by rw[jF];rfl⟩
    ·rintro j σ H2 hj ⟨s2,y2,z2,w2,rfl⟩
     walk_at "o";refine⟨_,bv.of (s2 _ _ ht),_,rfl,rfl,?_⟩;rw[if_pos rfl];refine⟨_,bv.of (s2 _ _ ht),_,rfl,_,bv.of (s2 _ _ hz),_,rfl,am (by decide),fun p1 hp1=>?_⟩;have t1:=af (o:=.tup [V.str (tx v.o1),V.int (r:Int),V.int (1+(i:Int)),V.int (1+(j:Int))]) hp1;refine⟨_,bv.of (t1 _ _ (s2 _ _ ht)),_,rfl,_,bv.of (t1 _ _ (s2 _ _ hz)),_,rfl,_,bv.of (t1 _ _ (s2 _ _ hz)),_,rfl,_,rfl,am (by decide),fun p2 hp2=>h2 _ _ ?_⟩;clear h2;have t2:=af (o:=.tup [V.str (tx v.o2),V.int (r:Int),V.int ((c:Int)-(1+(i:Int))),V.int (left-(1+(j:Int)))]) hp2;have e1:ar (ar H2 p1 (.tup [V.str (tx v.o1),V.int (r:Int),V.int (1+(i:Int)),V.int (1+(j:Int))])) p2 (.tup [V.str (tx v.o2),V.int (r:Int),V.int ((c:Int)-(1+(i:Int))),V.int (left-(1+(j:Int)))]) p1=some (.tup (ik (v.o1,r,1+i,1+(j:Int)))):=by
      refine t2 _ _ ?_;rw[ac,show(1+(i:Int))=((1+i:Nat):Int) by push_cast;rfl];rfl
     have e2:ar (ar H2 p1 (.tup [V.str (tx v.o1),V.int (r:Int),V.int (1+(i:Int)),V.int (1+(j:Int))])) p2 (.tup [V.str (tx v.o2),V.int (r:Int),V.int ((c:Int)-(1+(i:Int))),V.int (left-(1+(j:Int)))]) p2=some (.tup (ik (v.o2,r,c-(1+i),left-(1+(j:Int))))):=by
      rw[ac,show((c:Int)-(1+(i:Int)))=((c-(1+i):Nat):Int) by omega];rfl
     have t12:=t1.trans t2;generalize ar (ar H2 p1 (.tup [V.str (tx v.o1),V.int (r:Int),V.int (1+(i:Int)),V.int (1+(j:Int))])) p2 (.tup [V.str (tx v.o2),V.int (r:Int),V.int ((c:Int)-(1+(i:Int))),V.int (left-(1+(j:Int)))])=A2 at t12 e1 e2 ⊢;have hd2:=t12 _ _ (s2 _ _ hd);walk_at "wp";have isd:zd A2 d:=.inr ⟨kvs,.inl hd2⟩;refine⟨isd,_,dN.t (k:=bI (v.o1,r,1+i,1+(j:Int))) hd2 e1,isd,_,dN.t (k:=bI (v.o2,r,c-(1+i),left-(1+(j:Int)))) hd2 e2,_,hG _,_,hG _,?_,s2.trans t12,?_⟩
     ·by_cases h7:(j:Int)<=6
      ·left
       have:=hbd (v.o1,r,1+i,1+(j:Int)) (by show r<=3;omega) (by show 1+i<=3;omega) (by show 1+(j:Int)<=7;omega) (by show 1+(j:Int)<left;omega);omega
      ·right
       have:=hbd (v.o2,r,c-(1+i),left-(1+(j:Int))) (by show r<=3;omega) (by show c-(1+i)<=3;omega) (by show left-(1+(j:Int))<=7;omega) (by show left-(1+(j:Int))<left;omega);omega
     ·rw[eX,<- Nat.add_assoc]
      push_cast
      rfl
    ·rintro σ H2 ⟨s2,y2,z2,w2,rfl⟩
     exact⟨s2,_,_,_,_,by rw[hsn]⟩
   ·rintro σ H1 ⟨s1,x1,y1,z1,w1,rfl⟩
    refine h1 _ _ ?_;walk_at "wp";rw[List.take_of_length_le (by rw[dS];omega)];have e0:lM g (1,v) r c left=a_ g v.o1 v.o2 (bQ r c) left:=rfl;rw[<- e0];exact q H1 s1
  ·obtain⟨t_,v⟩:=q_
   cases(show t_=2 from hk);have sqt:bv K H t [.str (tx v.n),.int v.c,.int 2,.str (tx v.o1),.str (tx v.o2)]:=bv.of ht;walk_at "n";refine h1 _ _ ?_;walk_at "nc";refine⟨_,sqt,_,rfl,_,rfl,_,bv.of hz,_,rfl,_,rfl,by omega,by omega,by omega,?_⟩;rw[show(((r:Nat):Int)-1).toNat=r-1 by omega];refine bN (fun i σ H'=>ax H H'/\∃x y z w,σ=[some (V.ref d),some (V.ref t),some (V.ref z_),some (V.int left),some (V.int (a_ g v.o1 v.o2 ((bR r c).take i) left:Nat)),x,y,z,w]) ?_ ?_ ?_
   ·exact⟨fun _ _ e=>e,_,_,_,_,rfl⟩
   ·rintro i σ H1 hi ⟨s1,x1,y1,z1,w1,rfl⟩
    have hz0:(bR r c)[i]?=some ((1+i,c),(r-(1+i),c)):=mJ hi;have hsn:a_ g v.o1 v.o2 ((bR r c).take (i+1)) left=a_ g v.o1 v.o2 ((bR r c).take i) left+fT (fun x=>g (v.o1,1+i,c,x)*g (v.o2,r-(1+i),c,left-x)) 1 (left-1).toNat:=by
     unfold a_;rw[List.take_add_one,hz0,C6,List.sum_append];simp
    walk_at "wp";refine⟨by omega,by omega,by omega,?_⟩;refine bN (fun j σ H'=>ax H H'/\∃y z w,σ=[some (V.ref d),some (V.ref t),some (V.ref z_),some (V.int left),some (V.int ((a_ g v.o1 v.o2 ((bR r c).take i) left+fT (fun x=>g (v.o1,1+i,c,x)*g (v.o2,r-(1+i),c,left-x)) 1 j:Nat):Int)),some (V.int (1+(i:Int))),y,z,w]) ?_ ?_ ?_
    ·exact⟨s1,_,_,_,by rw[jF];rfl⟩
    ·rintro j σ H2 hj ⟨s2,y2,z2,w2,rfl⟩
     walk_at "o";refine⟨_,bv.of (s2 _ _ ht),_,rfl,rfl,?_⟩;rw[if_neg (by decide)];refine⟨_,bv.of (s2 _ _ ht),_,rfl,_,bv.of (s2 _ _ hz),_,rfl,am (by decide),fun p1 hp1=>?_⟩;have t1:=af (o:=.tup [V.str (tx v.o1),V.int (1+(i:Int)),V.int (c:Int),V.int (1+(j:Int))]) hp1;refine⟨_,bv.of (t1 _ _ (s2 _ _ ht)),_,rfl,_,bv.of (t1 _ _ (s2 _ _ hz)),_,rfl,_,rfl,_,bv.of (t1 _ _ (s2 _ _ hz)),_,rfl,am (by decide),fun p2 hp2=>h2 _ _ ?_⟩;clear h2;have t2:=af (o:=.tup [V.str (tx v.o2),V.int ((r:Int)-(1+(i:Int))),V.int (c:Int),V.int (left-(1+(j:Int)))]) hp2;have e1:ar (ar H2 p1 (.tup [V.str (tx v.o1),V.int (1+(i:Int)),V.int (c:Int),V.int (1+(j:Int))])) p2 (.tup [V.str (tx v.o2),V.int ((r:Int)-(1+(i:Int))),V.int (c:Int),V.int (left-(1+(j:Int)))]) p1=some (.tup (ik (v.o1,1+i,c,1+(j:Int)))):=by
      refine t2 _ _ ?_;rw[ac,show(1+(i:Int))=((1+i:Nat):Int) by push_cast;rfl];rfl
     have e2:ar (ar H2 p1 (.tup [V.str (tx v.o1),V.int (1+(i:Int)),V.int (c:Int),V.int (1+(j:Int))])) p2 (.tup [V.str (tx v.o2),V.int ((r:Int)-(1+(i:Int))),V.int (c:Int),V.int (left-(1+(j:Int)))]) p2=some (.tup (ik (v.o2,r-(1+i),c,left-(1+(j:Int))))):=by
      rw[ac,show((r:Int)-(1+(i:Int)))=((r-(1+i):Nat):Int) by omega];rfl
     have t12:=t1.trans t2;generalize ar (ar H2 p1 (.tup [V.str (tx v.o1),V.int (1+(i:Int)),V.int (c:Int),V.int (1+(j:Int))])) p2 (.tup [V.str (tx v.o2),V.int ((r:Int)-(1+(i:Int))),V.int (c:Int),V.int (left-(1+(j:Int)))])=A2 at t12 e1 e2 ⊢;have hd2:=t12 _ _ (s2 _ _ hd);walk_at "wp";have isd:zd A2 d:=.inr ⟨kvs,.inl hd2⟩;refine⟨isd,_,dN.t (k:=bI (v.o1,1+i,c,1+(j:Int))) hd2 e1,isd,_,dN.t (k:=bI (v.o2,r-(1+i),c,left-(1+(j:Int)))) hd2 e2,_,hG _,_,hG _,?_,s2.trans t12,?_⟩
     ·by_cases h7:(j:Int)<=6
      ·left
       have:=hbd (v.o1,1+i,c,1+(j:Int)) (by show 1+i<=3;omega) (by show c<=3;omega) (by show 1+(j:Int)<=7;omega) (by show 1+(j:Int)<left;omega);omega
      ·right
       have:=hbd (v.o2,r-(1+i),c,left-(1+(j:Int))) (by show r-(1+i)<=3;omega) (by show c<=3;omega) (by show left-(1+(j:Int))<=7;omega) (by show left-(1+(j:Int))<left;omega);omega
     ·rw[eX,<- Nat.add_assoc]
      push_cast
      rfl
    ·rintro σ H2 ⟨s2,y2,z2,w2,rfl⟩
     exact⟨s2,_,_,_,_,by rw[hsn]⟩
   ·rintro σ H1 ⟨s1,x1,y1,z1,w1,rfl⟩
    refine h1 _ _ ?_;walk_at "wp";rw[List.take_of_length_le (by rw[dO];omega)];have e0:lM g (2,v) r c left=a_ g v.o1 v.o2 (bR r c) left:=rfl;rw[<- e0];exact q H1 s1
noncomputable abbrev kZ:Stmt:=lW 52
noncomputable def mV:Sp:=fun vs H Q _=>∃(d t z_:Addr) (kvs:List (List bS×V)) (g:TR->Nat) (q_:Nat×RV) (r c:Nat) (k:Int),vs=[.ref d,.ref t,.ref z_,.int k]/\H d=some (.dT kvs)/\dG kvs g/\H t=some (.tup (og q_))/\j0 q_/\H z_=some (.tup [.int (r:Int),.int (c:Int)])/\1<=r/\r<=3/\1<=c/\c<=3/\k<=16/\1<=k /\
 (∀p:TR,p.2.1<=3->p.2.2.1<=3->p.2.2.2<=7->p.2.2.2<k->g p<2 ^ 64)/\∀H',ax H H'->Q (.int (b0 g q_ r c k:Nat)) H'
theorem ur:av ["_law_counts_here","_law_rule_here","_law_size","_law_cost","_law_left"] ["_law_counts_here","_law_rule_here","_law_size","_law_cost"] (ai kZ):=by walk_at "c"
theorem zF{a b d e:Int}:vE [V.int a,V.int b] [V.int d,V.int e]=decide (a=d/\b=e):=by
 have e0:vE [V.int a,V.int b] [V.int d,V.int e]=(((a==d)&&((b==e)&&true))&&true):=rfl;rw[e0]
 by_cases h1:a=d<;>by_cases h2:b=e<;>simp[h1,h2]
theorem tI{f:Addr}{fd:FuncData}(F:di K "_law_more" "_law_more" kZ f fd)(nb:NB mg)(zqd:gW P w K mg base bY 1 "_law_pairs" ["_law_counts_here","_law_rule_here","_law_size","_law_left"] kJ):aO P w K mg base bY 2 f fd ["_law_counts_here","_law_rule_here","_law_size","_law_cost"] mV:=by
 have sc:=ur;walk_at "f"
 ·obtain⟨d,t,z_,kvs,g,q_,r,c,k,rfl,_⟩:=h;rfl
 ·obtain⟨d,t,z_,kvs,g,⟨t_,v⟩,r,c,k,rfl,hd,hG,ht,gq,hz,r1,r3,c1,c3,k16,k1,hbd,q⟩:=h
  have hu:=hr.units;have g1:1<=v.c:=gq.good.c1;have g9:v.c<=9:=gq.good.c9;have isd:∀H',ax H H'->zd H' d:=fun H' s=>.inr ⟨kvs,.inl (s _ _ hd)⟩;refine⟨_,(ag (ay (i:=4) sc.nd rfl (Or.inl rfl) (ap (aN.m0 cE) (ak 3) (az aq (ak 1) ae (fun _ _=>rfl))))
   (ag (bK (aD eR (az aq (ak 1) ae (fun _ _=>rfl)) ae (aS _))
   (aj (aA (gR pk rfl nb.int wP (aa (iO (ku eR (ak 4) ae (aS _)) (k8 (ku (vQ hu) (ak 2) (aE (aw (aw ad))) (aS _)))) ad))))
   aM)
   (ag (bK (PW.pt (qT (aD eR (az aq (ak 1) ae (fun _ _=>rfl)) ae (aS _)) (nW (aD eR (ap (aN.m1 aV) (az aq (ak 1) ae (fun _ _=>rfl)) ae) ae (aS _)))))
   (aj (aA (dU (Dw (DA (by decide:1<=64) _) hu) (ak 0) (aE (aa (az aq (ak 1) ae (fun _ _=>rfl)) (aa (az aq (ak 2) ae (fun _ _=>rfl)) (aa (az aq (ak 2) ae (fun _ _=>rfl)) (aa (ak 4) ad))))) ae ⟨rfl,rfl,rfl,rfl⟩)))
   aM)
   (ag (bK (aD eR (az aq (ak 1) ae (fun _ _=>rfl)) ae (aS _))
   (aj (aA (dU (Dw (DA (by decide:1<=64) _) hu) (ak 0) (aE (aa (az aq (ak 1) ae (fun _ _=>rfl)) (aa (az aq (ak 2) ae (fun _ _=>rfl)) (aa (az aq (ak 2) ae (fun _ _=>rfl)) (aa (ak 4) ad))))) ae ⟨rfl,rfl,rfl,rfl⟩)))
   aM)
   (aj (aA (aI zqd (hr.mono (by decide)) rfl bo (aa (ak 0) (aa (ak 1) (aa (ak 2) (aa (ak 4) ad))))))))))),?_⟩
  walk_at "n";have c1':ki (og (t_,v)) 1=some (V.int v.c):=by
   have:t_=0\/t_=1\/t_=2\/t_=3:=by have:=gq.k4;simp at this;omega
   rcases this with rfl | rfl | rfl | rfl<;>rfl
  refine⟨_,bv.of ht,_,c1',_,rfl,h1 _ _ ?_⟩;clear h1;walk_at "wp";rcases jr gq.k4 with e | e | e | e
  ·cases(show t_=0 from e)
   refine⟨_,bv.of ht,_,rfl,rfl,?_⟩;rw[if_pos rfl];have em:b0 g (0,v) r c k=if k-v.c=0/\r=1/\c=1 then 1 else 0:=rfl
   rw[em]at q
   by_cases hl:k-v.c=0
   ·rw[if_pos hl]
    refine⟨am (by decide),fun p hp=>⟨_,bv.of (af hp _ _ hz),_,bv.of ac,rfl,rfl,_,rfl,?_⟩⟩;rw[zF]
    by_cases h1:r=1/\c=1
    ·rw[if_pos ⟨hl,h1⟩]at q
     rw[if_pos (by simp;omega)];exact q _ (af hp)
    ·rw[if_neg (fun z=>h1 z.2)]at q
     rw[if_neg (by simp;omega)];exact q _ (af hp)
   ·rw[if_neg hl]
    rw[if_neg (fun z=>hl z.1)]at q;exact⟨_,rfl,q _ fun _ _ e=>e⟩
  ·cases(show t_=1 from e)
   refine⟨_,bv.of ht,_,rfl,rfl,?_⟩;rw[if_neg (by decide)];refine⟨_,bv.of ht,_,rfl,rfl,?_⟩;rw[if_neg (by decide)];refine⟨_,bv.of ht,_,rfl,rfl,?_⟩;rw[if_neg (by decide)];exact⟨d,t,z_,kvs,g,(1,v),r,c,k-v.c,rfl,hd,hG,ht,.inl rfl,hz,r1,r3,c1,c3,by omega,by omega,fun p a b c d=>hbd p a b c (by omega),q⟩
  ·cases(show t_=2 from e)
   refine⟨_,bv.of ht,_,rfl,rfl,?_⟩;rw[if_neg (by decide)];refine⟨_,bv.of ht,_,rfl,rfl,?_⟩;rw[if_neg (by decide)];refine⟨_,bv.of ht,_,rfl,rfl,?_⟩;rw[if_neg (by decide)];exact⟨d,t,z_,kvs,g,(2,v),r,c,k-v.c,rfl,hd,hG,ht,.inr rfl,hz,r1,r3,c1,c3,by omega,by omega,fun p a b c d=>hbd p a b c (by omega),q⟩
  ·cases(show t_=3 from e)
   refine⟨_,bv.of ht,_,rfl,rfl,?_⟩;rw[if_neg (by decide)];refine⟨_,bv.of ht,_,rfl,rfl,?_⟩;rw[if_pos rfl];refine⟨_,bv.of ht,_,rfl,_,rfl,?_⟩;have em:b0 g (3,v) r c k=g (v.o1,if v.t%2=1 then c else r,if v.t%2=1 then r else c,k-v.c):=rfl;rw[em]at q
   by_cases h2:v.t%2=1
   ·rw[if_pos h2]
    rw[if_pos h2,if_pos h2]at q;refine⟨isd _ fun _ _ e=>e,_,bv.of ht,_,rfl,_,bv.of hz,_,rfl,_,bv.of hz,_,rfl,am (by decide),fun p hp=>?_⟩;exact hG.get (p:=(v.o1,c,r,k-v.c)) (af hp _ _ hd) ac (q _ (af hp))
   ·rw[if_neg h2]
    rw[if_neg h2,if_neg h2]at q;refine⟨_,bv.of ht,_,rfl,rfl,?_⟩;rw[if_pos rfl];refine⟨isd _ fun _ _ e=>e,_,bv.of ht,_,rfl,_,bv.of hz,_,rfl,_,bv.of hz,_,rfl,am (by decide),fun p hp=>?_⟩;exact hG.get (p:=(v.o1,r,c,k-v.c)) (af hp _ _ hd) ac (q _ (af hp))
noncomputable def eQ(p:TR):Int:=(p.2.2.2*3+((p.2.1:Int)-1))*3+((p.2.2.1:Int)-1)
noncomputable def mU(p:TR):Prop:=1<=p.2.1/\p.2.1<=3/\1<=p.2.2.1/\p.2.2.1<=3
instance (p:TR):Decidable (mU p):=by unfold mU;infer_instance
noncomputable def lw(rs:List (Nat×RV))(g:TR->Nat)(T:Int):Prop:=∀p,g p=if mU p/\eQ p<T then CN rs p else 0
noncomputable def su(rs:List (Nat×RV))(g:TR->Nat)(T:Int)(n:Nat):Prop:=∀p,g p=if mU p/\eQ p<T then CN rs p else if mU p/\eQ p=T then((cz p.1 (rs.take n)).map fun q=>b0 (CN rs) q p.2.1 p.2.2.1 p.2.2.2).sum else 0
theorem wl{p:TR}{r c:Nat}{k:Int}(h:mU p)(hr:1<=r)(hr3:r<=3)(hc:1<=c)(hc3:c<=3)(e:eQ p=(k*3+((r:Int)-1))*3+((c:Int)-1)):p.2.1=r/\p.2.2.1=c/\p.2.2.2=k:=by
 unfold eQ at e;obtain⟨h1,h2,h3,h4⟩:=h;omega
theorem wb{p:TR}{r c:Nat}{k:Int}(h:mU p)(hr:1<=r)(hc:1<=c)(e:p.2.2.2<k):eQ p<(k*3+((r:Int)-1))*3+((c:Int)-1):=by
 unfold eQ;obtain⟨h1,h2,h3,h4⟩:=h;omega
theorem iG{f g:TR->Nat}{o1 o2:List Nat}{szs:List ((Nat×Nat)×(Nat×Nat))}{left k:Int}{r c:Nat}(hr3:r<=3)(hc3:c<=3)(hs:∀z∈szs,qQ r c z)(hk:left<k)(h:∀p,mU p->p.2.2.2<k->f p=g p):a_ f o1 o2 szs left=a_ g o1 o2 szs left:=by
 unfold a_
 congr 1
 refine List.map_congr_left fun z hz=>?_;have so:=hs z hz;have ma:=so.ma;have mb:=so.mb;have md:=so.md;have me:=so.me;unfold fT
 congr 1
 refine List.map_congr_left fun j hj=>?_;rw[List.mem_range]at hj;have e1:=h (o1,z.1.1,z.1.2,1+(j:Int)) ⟨so.a,by show z.1.1<=3;omega,so.b,by show z.1.2<=3;omega⟩ (by show 1+(j:Int)<k;omega);have e2:=h (o2,z.2.1,z.2.2,left-(1+(j:Int))) ⟨so.d,by show z.2.1<=3;omega,so.e,by show z.2.2<=3;omega⟩ (by show left-(1+(j:Int))<k;omega);show f (o1,z.1.1,z.1.2,1+(j:Int))*f (o2,z.2.1,z.2.2,left-(1+(j:Int)))=g (o1,z.1.1,z.1.2,1+(j:Int))*g (o2,z.2.1,z.2.2,left-(1+(j:Int)));rw[e1,e2]
theorem nu{f g:TR->Nat}{q:Nat×RV}{r c:Nat}{k:Int}(h4:q.1<4)(hq:1<=q.2.c)(hr:1<=r)(hc:1<=c)(hr3:r<=3)(hc3:c<=3)(h:∀p,mU p->p.2.2.2<k->f p=g p):b0 f q r c k=b0 g q r c k:=by
 obtain⟨t,v⟩:=q;simp only at hq;have:t=0\/t=1\/t=2\/t=3:=by simp at h4;omega
 rcases this with rfl | rfl | rfl | rfl
 ·rfl
 ·exact iG hr3 hc3 (fun z hz=>dD hr hz) (by show k-v.c<k;omega) h
 ·exact iG hr3 hc3 (fun z hz=>dC hc hz) (by show k-v.c<k;omega) h
 ·refine h _ ?_ (by show k-v.c<k;omega)
  unfold mU
  by_cases e:v.t%2=1
  ·simp only[e,if_true];omega
  ·simp only[e,if_false];omega
theorem lw.start(rs:List (Nat×RV)):lw rs (fun _=>0) 9:=fun p=>by
 by_cases h:mU p/\eQ p<9
 ·rw[if_pos h]
  obtain⟨⟨h1,h2,h3,h4⟩,h5⟩:=h;unfold eQ at h5;exact(ni (by omega)).symm
 ·rw[if_neg h]
theorem lw.begin{rs:List (Nat×RV)}{g:TR->Nat}{T:Int}(h:lw rs g T):su rs g T 0:=fun p=>by
 rw[h p]
 by_cases e:mU p/\eQ p<T
 ·rw[if_pos e,if_pos e]
 ·rw[if_neg e,if_neg e]
  split<;>rfl
theorem su.step{rs:List (Nat×RV)}{g:TR->Nat}{n:Nat}{q:Nat×RV}{r c:Nat}{k:Int}(gc:gw rs)(h:su rs g ((k*3+((r:Int)-1))*3+((c:Int)-1)) n)(hq:rs[n]?=some q)(hr:1<=r)(hr3:r<=3)(hc:1<=c)(hc3:c<=3) :
  su rs (fun p=>if p=(q.2.n,r,c,k) then g (q.2.n,r,c,k)+b0 g q r c k else g p) ((k*3+((r:Int)-1))*3+((c:Int)-1)) (n+1):=fun p=>by
 obtain⟨q4,qc,_⟩:=gc q (CU hq);have em:b0 g q r c k=b0 (CN rs) q r c k:=nu q4 qc hr hc hr3 hc3 fun p' i' l'=>by rw[h p',if_pos ⟨i',wb i' hr hc l'⟩]
 have et:cz p.1 (rs.take (n+1))=cz p.1 (rs.take n)++if q.2.n=p.1 then[q] else[]:=by
  unfold cz;rw[List.take_add_one,hq,List.filter_append]
  congr 1
  by_cases e:q.2.n=p.1
  ·simp[e]
  ·simp[e]
 show(if p=(q.2.n,r,c,k) then g (q.2.n,r,c,k)+b0 g q r c k else g p)=_
 by_cases ep:p=(q.2.n,r,c,k)
 ·have ir:mU (q.2.n,r,c,k):=⟨hr,hr3,hc,hc3⟩
  rw[if_pos ep,em,et,h (q.2.n,r,c,k)];subst ep;have np:¬ (eQ (q.2.n,r,c,k)<(k*3+((r:Int)-1))*3+((c:Int)-1)):=by unfold eQ;simp
  have ps:eQ (q.2.n,r,c,k)=(k*3+((r:Int)-1))*3+((c:Int)-1):=rfl;rw[if_neg (fun z=>np z.2),if_pos ⟨ir,ps⟩,if_neg (fun z=>np z.2),if_pos ⟨ir,ps⟩,if_pos rfl,C6,List.sum_append];simp
 ·rw[if_neg ep,h p]
  by_cases e1:mU p/\eQ p<(k*3+((r:Int)-1))*3+((c:Int)-1)
  ·rw[if_pos e1,if_pos e1]
  ·rw[if_neg e1,if_neg e1]
   by_cases e2:mU p/\eQ p=(k*3+((r:Int)-1))*3+((c:Int)-1)
   ·rw[if_pos e2,if_pos e2,et]
    obtain⟨x1,x2,x3⟩:=wl e2.1 hr hr3 hc hc3 e2.2;have hn:q.2.n≠p.1:=fun e=>ep (by
     obtain⟨a,b,c',d⟩:=p;simp only at x1 x2 x3 e;rw[<- e,x1,x2,x3])
    rw[if_neg hn,Dq]
   ·rw[if_neg e2,if_neg e2]
theorem su.done{rs:List (Nat×RV)}{g:TR->Nat}{r c:Nat}{k:Int}(gc:gw rs)(h:su rs g ((k*3+((r:Int)-1))*3+((c:Int)-1)) rs.length)(hr:1<=r)(hr3:r<=3)(hc:1<=c)(hc3:c<=3)(hk:k<=16):lw rs g ((k*3+((r:Int)-1))*3+((c:Int)-1)+1):=fun p=>by
 rw[h p,Ds]
 by_cases e1:mU p/\eQ p<(k*3+((r:Int)-1))*3+((c:Int)-1)
 ·rw[if_pos e1,if_pos ⟨e1.1,by omega⟩]
 ·rw[if_neg e1]
  by_cases e2:mU p/\eQ p=(k*3+((r:Int)-1))*3+((c:Int)-1)
  ·rw[if_pos e2,if_pos ⟨e2.1,by omega⟩]
   obtain⟨x1,x2,x3⟩:=wl e2.1 hr hr3 hc hc3 e2.2;obtain⟨a,b,c',d⟩:=p;simp only at x1 x2 x3;subst x1 x2 x3;exact(ym gc hr hc (by omega) (by omega) hk).symm
  ·rw[if_neg e2,if_neg (fun z=>by
    by_cases z2:eQ p<(k*3+((r:Int)-1))*3+((c:Int)-1)
    ·exact e1 ⟨z.1,z2⟩
    ·exact e2 ⟨z.1,by have:=z.2;omega⟩)]
theorem lw.all{rs:List (Nat×RV)}{g:TR->Nat}(h:lw rs g 153){p:TR}(hp:mU p)(hk:p.2.2.2<=16):g p=CN rs p:=by
 have hl:eQ p<153:=by
  unfold eQ;obtain⟨h1,h2,h3,h4⟩:=hp;omega
 rw[h p,if_pos ⟨hp,hl⟩]
noncomputable abbrev iS:Stmt:=lW 53
noncomputable def j3:Sp:=fun vs H Q _=>∃(l:Addr) (ts:List Addr) (rs:List (Nat×RV)),vs=[.ref l]/\iX H l ts rs/\(∀r∈rs,j0 r)/\rs.length<=8 /\
 ∀d kvs g H',H d=none->H' d=some (.dT kvs)->dG kvs g->(∀p:TR,mU p->p.2.2.2<=16->g p=CN rs p)->ax H H'->Q (.ref d) H'
theorem pG:av ["_law_rules","_law_counts_here","_law_cost","_law_rows","_law_columns","_law_rule_here","_law_key"] ["_law_rules"] (ai iS):=by walk_at "c"
theorem pC{rs:List (Nat×RV)}(h:∀r∈rs,j0 r):gw rs:=fun q hq=>⟨(h q hq).k4,(h q hq).good.c1,(h q hq).good.c9⟩
theorem pS{f:Addr}{fd:FuncData}(F:di K "_law_counts" "_law_counts" iS f fd)(nb:NB mg)(zSd:gW P w K mg base bY 2 "_law_more" ["_law_counts_here","_law_rule_here","_law_size","_law_cost"] mV):aO P w K mg base bY 3 f fd ["_law_rules"] j3:=by
 have sc:=pG;walk_at "f"
 ·obtain⟨l,ts,rs,rfl,_⟩:=h;rfl
 ·obtain⟨l,ts,rs,rfl,hR,hg,h8,q⟩:=h
  have hu:=hr.units;have gc:=pC hg;refine⟨_,(ag (ay (i:=1) sc.nd rfl (Or.inl rfl) lB)
   (ag (bj PassesOwn.never rfl (b9 rfl nb.range (aw (aw ad))) (aC (i:=2) sc.nd rfl (Or.inl rfl))
   (aj (bj PassesOwn.never rfl (b9 rfl nb.range (aw (aw ad))) (aC (i:=3) sc.nd rfl (Or.inl rfl))
   (aj (bj PassesOwn.never rfl (b9 rfl nb.range (aw (aw ad))) (aC (i:=4) sc.nd rfl (Or.inl rfl))
   (aj (bj PassesOwn.never rfl (cB (ak 0)) (aC (i:=5) sc.nd rfl (Or.inl rfl))
   (ag (ay (i:=6) sc.nd rfl (Or.inl rfl) (aE (aa (az aq (ak 5) ae (fun _ _=>rfl)) (aa (ak 3) (aa (ak 4) (aa (ak 2) ad))))))
   (aj (oN (Dw (DA (by decide:1<=64) _) hu) (ak 1) (ak 6) (ap (aN.m0 bw) (dU (Dw (DA (by decide:1<=64) _) hu) (ak 1) (ak 6) ae ⟨rfl,rfl,rfl,rfl⟩) (aI zSd (hr.mono (by decide)) rfl bo (aa (ak 1) (aa (ak 5) (aa (aE (aa (ak 3) (aa (ak 4) ad))) (aa (ak 2) ad)))))) rfl))))))))))
   (aj (aA (ak 1))))),?_⟩
  walk_at "n";intro d hd;refine h1 _ _ ?_;clear h1;have s1:=af (o:=.dT []) hd;have e1:ar H d (.dT []) d=some (.dT []):=ac;generalize ar H d (.dT [])=H1 at s1 e1 ⊢;walk_at "n";refine⟨by decide,by decide,?_⟩;refine bN (fun i σ H'=>ax H H'/\(∃kvs g,H' d=some (.dT kvs)/\dG kvs g/\lw rs g (9+9*(i:Int))/\kvs.length<=72*i)/\∃x y z u v,σ=[some (V.ref l),some (V.ref d),x,y,z,u,v]) ⟨s1,⟨[],_,e1,dG.nil,by simpa using lw.start rs,Dh _⟩,_,_,_,_,_,rfl⟩ ?_ ?_
  ·rintro i σ H2 hi ⟨s2,⟨kvs,g,hd2,hG,hC,hkl⟩,x1,x2,x3,x4,x5,rfl⟩
   have hi:i<16:=hi;walk_at "wp";refine⟨by decide,by decide,?_⟩;refine bN (fun j σ H'=>ax H H'/\(∃kvs g,H' d=some (.dT kvs)/\dG kvs g/\lw rs g (9+9*(i:Int)+3*(j:Int))/\kvs.length<=72*i+24*j)/\∃y z u v,σ=[some (V.ref l),some (V.ref d),some (V.int (1+(i:Int))),y,z,u,v]) ⟨s2,⟨kvs,g,hd2,hG,by simpa using hC,hkl⟩,_,_,_,_,rfl⟩ ?_ ?_
   ·rintro j σ H3 hj ⟨s3,⟨kvs,g,hd3,hG,hC,hkl⟩,x2,x3,x4,x5,rfl⟩
    have hj:j<3:=hj;walk_at "wp";refine⟨by decide,by decide,?_⟩;refine bN (fun m σ H'=>ax H H'/\(∃kvs g,H' d=some (.dT kvs)/\dG kvs g/\lw rs g (9+9*(i:Int)+3*(j:Int)+(m:Int))/\kvs.length<=72*i+24*j+8*m)/\∃z u v,σ=[some (V.ref l),some (V.ref d),some (V.int (1+(i:Int))),some (V.int (1+(j:Int))),z,u,v]) ⟨s3,⟨kvs,g,hd3,hG,by simpa using hC,hkl⟩,_,_,_,rfl⟩ ?_ ?_
    ·rintro m σ H4 hm ⟨s4,⟨kvs,g,hd4,hG,hC,hkl⟩,x3,x4,x5,rfl⟩
     have hm:m<3:=hm;have eT:9+9*(i:Int)+3*(j:Int)+(m:Int)=((1+(i:Int))*3+(((1+j:Nat):Int)-1))*3+(((1+m:Nat):Int)-1):=by push_cast;omega
     rw[eT]at hC;have hR4:=hR.up s4;walk_at "wp";refine⟨⟨_,bp.of hR4.1⟩,?_⟩;refine cH (xs:=ts.map V.ref) (fun n σ H'=>ax H H'/\n<=ts.length/\(∃kvs g,H' d=some (.dT kvs)/\dG kvs g/\su rs g (((1+(i:Int))*3+(((1+j:Nat):Int)-1))*3+(((1+m:Nat):Int)-1)) n/\kvs.length<=72*i+24*j+8*m+n)/\∃u v,σ=[some (V.ref l),some (V.ref d),some (V.int (1+(i:Int))),some (V.int (1+(j:Int))),some (V.int (1+(m:Int))),u,v]) ⟨s4,Dh _,⟨kvs,g,hd4,hG,hC.begin,hkl⟩,_,_,rfl⟩ (fun n σ H' _ h=>bp.of (h.1 _ _ hR.1)) ?_ ?_
     ·rintro n x σ H5 hx ⟨s5,hn,⟨kvs,g,hd5,hG,hC,hkl⟩,x4,x5,rfl⟩
      have hlt:n<ts.length:=by have:=(CM.mp hx).1;rwa [CP]at this
      rw[CS,mk hlt]at hx;cases hx;have hlr:=hR.2.1;have hq:rs[n]?=some (rs[n]'(by omega)):=mk (by omega);have ht:=s5 _ _ (hR.2.2 n _ _ (mk hlt) hq);have hgq:=hg _ (CZ (show n<rs.length by omega));have hst:=hC.step gc hq (by omega) (by omega) (by omega) (by omega);generalize rs[n]'(by omega)=qq at hq ht hgq hst;have at0:ki (og qq) 0=some (V.str (tx qq.2.n)):=by
       obtain⟨t_,v⟩:=qq;have:t_=0\/t_=1\/t_=2\/t_=3:=by have:=hgq.k4;simp at this;omega
       rcases this with rfl | rfl | rfl | rfl<;>rfl
      walk_at "o";refine⟨_,bv.of ht,_,at0,am (by decide),fun p hp=>h2 _ _ ?_⟩;clear h2;have s6:=s5.trans (af (o:=.tup [V.str (tx qq.2.n),V.int (1+(j:Int)),V.int (1+(m:Int)),V.int (1+(i:Int))]) hp);have e6:ar H5 p (.tup [V.str (tx qq.2.n),V.int (1+(j:Int)),V.int (1+(m:Int)),V.int (1+(i:Int))]) p=some (.tup (ik (qq.2.n,1+j,1+m,1+(i:Int)))):=by
       rw[ac,show(1+(j:Int))=((1+j:Nat):Int) by push_cast;rfl,show(1+(m:Int))=((1+m:Nat):Int) by push_cast;rfl];rfl
      have hd6:=af (o:=.tup [V.str (tx qq.2.n),V.int (1+(j:Int)),V.int (1+(m:Int)),V.int (1+(i:Int))]) hp _ _ hd5;have ht6:=af (o:=.tup [V.str (tx qq.2.n),V.int (1+(j:Int)),V.int (1+(m:Int)),V.int (1+(i:Int))]) hp _ _ ht;generalize ar H5 p (.tup [V.str (tx qq.2.n),V.int (1+(j:Int)),V.int (1+(m:Int)),V.int (1+(i:Int))])=H6 at s6 e6 hd6 ht6 ⊢;walk_at "wp";refine⟨.inr ⟨kvs,.inl hd6⟩,_,dN.t (k:=bI (qq.2.n,1+j,1+m,1+(i:Int))) hd6 e6,am (by decide),fun p2 hp2=>?_⟩;have t7:=af (o:=.tup [V.int (1+(j:Int)),V.int (1+(m:Int))]) hp2;refine⟨d,ts[n],p2,kvs,g,qq,1+j,1+m,1+(i:Int),rfl,t7 _ _ hd6,hG,t7 _ _ ht6,hgq,?_,by omega,by omega,by omega,by omega,by omega,by omega,?_,fun H8 s8=>?_⟩
      ·rw[ac,show(1+(j:Int))=((1+j:Nat):Int) by push_cast;rfl,show(1+(m:Int))=((1+m:Nat):Int) by push_cast;rfl]
      ·intro p' a b c' d'
       rw[hC p']
       by_cases ir:mU p'
       ·rw[if_pos ⟨ir,wb ir (by omega) (by omega) d'⟩]
        have:=rZ gc h8 17 p' a b (by omega);exact Dw (Dm this (Nat.pow_le_pow_right (by decide) (by omega:8*p'.2.2.2.toNat<=56))) (by decide)
       ·rw[if_neg (fun z=>ir z.1),if_neg (fun z=>ir z.1)];decide
      ·refine⟨_,hG _,_,rfl,?_⟩
       rw[show((g (qq.2.n,1+j,1+m,1+(i:Int)):Nat):Int)+((b0 g qq (1+j) (1+m) (1+(i:Int)):Nat):Int)=((g (qq.2.n,1+j,1+m,1+(i:Int))+b0 g qq (1+j) (1+m) (1+(i:Int)):Nat):Int) by push_cast;rfl];have hlp:=df kvs (bI (qq.2.n,1+j,1+m,1+(i:Int))) (V.int ((g (qq.2.n,1+j,1+m,1+(i:Int))+b0 g qq (1+j) (1+m) (1+(i:Int)):Nat):Int));exact⟨_,sf.t (k:=bI (qq.2.n,1+j,1+m,1+(i:Int))) ((t7.trans s8) _ _ hd6) ((t7.trans s8) _ _ e6) (bh (by omega)),gP ((s6.trans t7).trans s8) hd,hlt,_,ac,_,hG.put _ _,hst,by omega⟩
     ·rintro σ H5 ⟨s5,_,⟨kvs,g,hd5,hG,hC,hkl⟩,x4,x5,rfl⟩
      rw[CP,hR.2.1]at hC hkl;refine⟨s5,⟨kvs,hd5,g,hG,?_,by omega⟩,_,_,_,rfl⟩;have:=hC.done gc (by omega) (by omega) (by omega) (by omega) (by omega);rw[<- eT]at this;rw[show 9+9*(i:Int)+3*(j:Int)+((m+1:Nat):Int)=9+9*(i:Int)+3*(j:Int)+(m:Int)+1 by push_cast;omega];exact this
    ·rintro σ H4 ⟨s4,⟨kvs,g,hd4,hG,hC,hkl⟩,x3,x4,x5,rfl⟩
     refine⟨s4,⟨kvs,hd4,g,hG,?_,?_⟩,_,_,_,_,rfl⟩
     ·rw[show 9+9*(i:Int)+3*((j+1:Nat):Int)=9+9*(i:Int)+3*(j:Int)+((3:Nat):Int) by push_cast;omega]
      exact hC
     ·have:kvs.length<=72*i+24*j+8*3:=hkl
      omega
   ·rintro σ H3 ⟨s3,⟨kvs,g,hd3,hG,hC,hkl⟩,x2,x3,x4,x5,rfl⟩
    refine⟨s3,⟨kvs,hd3,g,hG,?_,?_⟩,_,_,_,_,_,rfl⟩
    ·rw[show 9+9*((i+1:Nat):Int)=9+9*(i:Int)+3*((3:Nat):Int) by push_cast;omega]
     exact hC
    ·have:kvs.length<=72*i+24*3:=hkl
     omega
  ·rintro σ H2 ⟨s2,⟨kvs,g,hd2,hG,hC,hkl⟩,x1,x2,x3,x4,x5,rfl⟩
   refine h1 _ _ ?_;walk_at "wp";exact q d kvs g H2 hd hd2 hG (fun p hp hk=>hC.all hp hk) s2
noncomputable abbrev gB:Stmt:=lW 54
noncomputable def jw(R:RC)(CG:Addr):Sp:=fun vs H Q _=>∃(g dg:Addr) (sg st:List Nat) (as:List Addr) (rs:List (Nat×RV)) (m:Nat) (z:List Nat),vs=[.ref g,.str (tx z)]/\e_ R H CG dg g sg st as rs/\v9 st rs m/\tx z∉(aB (tx st) rs).map (·.1)/\∀H',ax H H'->Q (.bl true) H'
theorem oz:av ["_law_grammar_here","_law_name","_law_error","e"] ["_law_grammar_here","_law_name"] (ai gB):=by walk_at "c"
theorem nR{R:RC}{f CG C_NoName C_QuiltError C_NoNumber:Addr}{fd:FuncData}{bmD:List Value}{nD:String}(F:di K "_law_no_name" "_law_no_name" gB f fd)(nb:NB mg)
  (m_NoName:mg "NoName"=some (.ref C_NoName)) (m_QuiltError:mg "QuiltError"=some (.ref C_QuiltError)) (m_NoNumber:mg "NoNumber"=some (.ref C_NoNumber))
  (xo_QuiltError:kc K C_QuiltError bmD nD) (hbase:bmD.contains (.type "BaseException")=true) {bmN:List Value} {nN:String} (xo_NoName:kc K C_NoName bmN nN) (und:sA K C_NoName C_QuiltError) (xt:W.XTy K C_NoName)
  (k1:W.kitOne K (.ref C_NoName) (.ref C_NoName)=some true) (k2:W.kitOne K (.ref C_NoName) (.type "ValueError")=some true) (k3:W.kitOne K (.ref C_NoName) (.ref C_NoNumber)=some false)
  (c_count_trees:gW P w K mg base (bZ P w) 73 "count_trees" ["grammar","name","rows","columns","cost"] (dJ R CG C_NoName)):aO P w K mg base bY 74 f fd ["_law_grammar_here","_law_name"] (jw R CG):=by
 have sc:=oz;walk_at "f"
 ·obtain⟨g,dg,sg,st,as,rs,m,z,rfl,_⟩:=h;rfl
 ·obtain⟨g,dg,sg,st,as,rs,m,z,rfl,gr,ok,nn,q⟩:=h
  refine⟨_,(ag (ay (i:=2) sc.nd rfl (Or.inl rfl) yI)
   (ag (rf (i:=3) sc.nd rfl rfl (yx c_count_trees (hr.mono (by decide)) rfl (aa (ak 0) (aa (ak 1) (aw (aw (aw ad)))))) rfl rfl rfl m_QuiltError xo_QuiltError hbase (fun ea=>(aj (ay (i:=2) sc.nd rfl (Or.inl rfl) (ak 3)))))
   (aj (aA (iO (aQ cW rfl nb.isinstance bX (aa (ak 2) (aa (cV (v:=.ref _) rfl m_NoName rfl) ad))) (iO (aQ cW rfl nb.isinstance bX (aa (ak 2) (aa (o8 (v:=.ty "ValueError") rfl nb.ValueError l8 rfl) ad))) (k8 (wB (aQ cW rfl nb.isinstance bX (aa (ak 2) (aa (cV (v:=.ref _) rfl m_NoNumber rfl) ad))))))))))),?_⟩
  walk_at "wp";refine⟨g,dg,sg,st,as,rs,m,(z,1,1,1),rfl,gr,ok,.inr ⟨nn,fun H1 s1=>⟨C_NoName,rfl,_,_,xo_NoName,und,fun ea hea=>?_⟩⟩⟩;have ex:ar H1 ea (xo ea (.ref C_NoName) none) ea=some (xo ea (.ref C_NoName) none):=ac;have m2:ax H1 (ar H1 ea (xo ea (.ref C_NoName) none)):=af hea;generalize ar H1 ea (xo ea (.ref C_NoName) none)=H2 at ex m2 ⊢;have xr:zo H2 ea C_NoName:=.inl ex;refine .inr (.inl ⟨ea,C_NoName,_,true,rfl,rfl,xr,xt,k1,true,rfl,?_⟩);rw[if_pos rfl];refine .inr (.inl ⟨ea,C_NoName,_,true,rfl,rfl,xr,xt,k2,true,rfl,?_⟩);rw[if_pos rfl];refine .inr (.inl ⟨ea,C_NoName,_,false,rfl,rfl,xr,xt,k3,false,rfl,?_⟩);exact q _ (s1.trans m2)
theorem pW{q:Nat×RV}(h4:q.1<4):ki (og q) 0=some (V.str (tx q.2.n)):=by
 obtain⟨t_,v⟩:=q;have:t_=0\/t_=1\/t_=2\/t_=3:=by simp at h4;omega
 rcases this with rfl | rfl | rfl | rfl<;>rfl
theorem lU{α β:Type}(pr:α->Bool)(g:α->β):∀l:List α,l.filterMap (fun z=>if pr z=true then some (g z) else none)=(l.filter pr).map g
 | []=>rfl
 |x::l=>by
  rw[List.filterMap_cons,List.filter_cons];cases e:pr x
  ·simp[lU pr g l]
  ·simp[lU pr g l]
theorem ug(p:fY):(aW p).all fO=true:=by
 have e0:aW p=(p.map tx).map V.str:=by unfold aW;rw[C8];rfl
 rw[e0];exact tT _
noncomputable def ka:List (List Nat):=[[81],[81,81],[81,81,81],[81,81,81,81],[90,81]]
theorem va:[V.str (Str.ofString "Q"),V.str (Str.ofString "QQ"),V.str (Str.ofString "QQQ"),V.str (Str.ofString "QQQQ"),V.str (Str.ofString "ZQ")]=ka.map fun z=>V.str (tx z):=by
 have h1:Str.ofString "Q"=tx [81]:=by decide +kernel
 have h2:Str.ofString "QQ"=tx [81,81]:=by decide +kernel
 have h3:Str.ofString "QQQ"=tx [81,81,81]:=by decide +kernel
 have h4:Str.ofString "QQQQ"=tx [81,81,81,81]:=by decide +kernel
 have h5:Str.ofString "ZQ"=tx [90,81]:=by decide +kernel
 rw[h1,h2,h3,h4,h5];rfl
theorem wd{p:fY}(hp:p.length=4):∃z0 zr,ka.filter (fun z=>decide (z∉p))=z0::zr:=by
 cases e:ka.filter (fun z=>decide (z∉p)) with
 |cons z zr=>exact⟨z,zr,rfl⟩
 |nil=>
  exfalso;have hs:∀x∈ka,x∈p:=fun x hx=>by
   have:=List.filter_eq_nil_iff.mp e x hx
   simpa using this
  have:=jv (l:=ka) (L:=p) (by decide) hs;rw[hp]at this;exact absurd this (by decide)
noncomputable abbrev mx:Stmt:=lW 55
noncomputable def nr(K:W.Frag):Sp:=fun vs H Q _=>∃(a:Addr) (ns:List Int),vs=[.ref a]/\bp K H a (ns.map V.int)/\∀H',Q (.bl true) H'
theorem yT:av ["_law_script","_law_signs_here","_law_names_here","_law_dear","_law_rules","_law_way","_law_grammar_here","_law_name","_law_rows","_law_columns","_law_counts_here","_law_cost","_law_found","_law_rule_here"] ["_law_script"] (ai mx):=by walk_at "c"
theorem yg{R:RC}{f CG C_NoName:Addr}{fd:FuncData}(F:di K "law" "law" mx f fd)(nb:NB mg)(zta:gW P w K mg base bY 1 "_law_cell" ["_law_script","_law_k"] (jU K))(zrd:gW P w K mg base bY 2 "_law_cells" ["_law_script","_law_begin","_law_most"] (kC K))(zsd:gW P w K mg base bY 1 "_law_whole" ["_law_x"] lH)(ztd:gW P w K mg base bY 1 "_law_signs" ["_law_cell_here","_law_most"] kG)(zud:gW P w K mg base bY 1 "_law_names" ["_law_cell_here"] ly)
  (zvd:gW P w K mg base bY 1 "_law_drawn" ["_law_cell_here","_law_signs_here","_law_names_here","_law_dear"] kR) (ztb:gW P w K mg base bY 7 "_law_grammar" ["_law_signs_here","_law_start","_law_rules"] (jg R CG)) (zjc:gW P w K mg base bY 3 "_law_counts" ["_law_rules"] j3) (c_count_trees:gW P w K mg base (bZ P w) 73 "count_trees" ["grammar","name","rows","columns","cost"] (dJ R CG C_NoName)) (zub:gW P w K mg base bY 74 "_law_no_name" ["_law_grammar_here","_law_name"] (jw R CG)):aO P w K mg base bY 75 f fd ["_law_script"] (nr K):=by
 have sc:=yT;walk_at "f"
 ·obtain⟨a,ns,rfl,_⟩:=h;rfl
 ·obtain⟨a,ns,rfl,ha,q⟩:=h
  have hu:=hr.units;refine⟨_,(ag (ay (i:=1) sc.nd rfl (Or.inr rfl) (aI ztd (hr.mono (by decide)) rfl bo (aa (aI zta (hr.mono (by decide)) rfl bo (aa (ak 0) (aw ad))) (aw ad))))
   (ag (ay (i:=2) sc.nd rfl (Or.inr rfl) (aI zud (hr.mono (by decide)) rfl bo (aa (aI zta (hr.mono (by decide)) rfl bo (aa (ak 0) (aw ad))) ad)))
   (ag (ay (i:=3) sc.nd rfl (Or.inr rfl) (az cP (bJ (aw (aw (aw ad)))) (ap (aN.m1 aV) (ap (aN.m1 aT) (aI zta (hr.mono (by decide)) rfl bo (aa (ak 0) (aw ad))) ae) ae) (fun _ _=>rfl)))
   (ag (iY (i:=4) ["_law_cell_here"] [1,2,3] sc.nd rfl (Or.inl rfl) rfl  rfl (bG.of (by kernel_rfl)) (by kernel_rfl) (cB (aI zrd (hr.mono (by decide)) rfl bo (aa (ak 0) (aw (aw ad)))))
    (fun _ _ _ _=>(aC (i:=0) (by show(["_law_cell_here","_law_signs_here","_law_names_here","_law_dear"]:List Str).Nodup;decide +kernel) rfl (Or.inl rfl))) (fun _ _ _ _=>dA) (fun _ _ _ _=>(aI zvd (hr.mono (by decide)) rfl bo (aa (ak 0) (aa (ak 1) (aa (ak 2) (aa (ak 3) ad)))))))
   (ag (ay (i:=5) sc.nd rfl (Or.inl rfl) (ap (aN.m1 aV) (aI zta (hr.mono (by decide)) rfl bo (aa (ak 0) (aw ad))) ae))
   (ag (ay (i:=6) sc.nd rfl (Or.inl rfl) (aI ztb (hr.mono (by decide)) rfl bo (aa (ak 1) (aa (az cP (ak 2) ae (fun _ _=>rfl)) (aa (ak 4) ad)))))
   (ag (ay (i:=7) sc.nd rfl (Or.inl rfl) (az cP (ak 2) ae (fun _ _=>rfl)))
   (ag (bK (PW.pt (qT (aD (aN.m0 jt) (ap (aN.m1 aV) (ak 5) ae) ae (aS _)) (nW (aD (aN.m0 jt) (aQ eW rfl nb.len dn (aa (ak 4) ad)) ae (aS _)))))
   (aj (ay (i:=7) sc.nd rfl (Or.inl rfl) (az aq (az cP (ak 4) (ap (aN.m1 aV) (ap (aN.m1 aT) (aI zta (hr.mono (by decide)) rfl bo (aa (ak 0) (aw ad))) ae) (aQ eW rfl nb.len dn (aa (ak 4) ad))) (fun _ _=>rfl)) ae (fun _ _=>rfl))))
   aM)
   (ag (ay (i:=8) sc.nd rfl (Or.inl rfl) (ap (aN.m0 bw) ae (ap (aN.m1 aV) (ap (aN.m1 aT) (ak 5) ae) ae)))
   (ag (ay (i:=9) sc.nd rfl (Or.inl rfl) (ap (aN.m0 bw) ae (ap (aN.m1 aT) (ak 5) ae)))
   (ag (ay (i:=10) sc.nd rfl (Or.inl rfl) (aI zjc (hr.mono (by decide)) rfl bo (aa (ak 4) ad)))
   (ag (bj PassesOwn.never rfl (uJ rfl nb.range (aa (ap (aN.m0 bw) ae (ap (aN.m1 aV) (ap (aN.m1 aT) (aI zta (hr.mono (by decide)) rfl bo (aa (ak 0) (aw ad))) ae) ae)) (aw (aw ad)))) (aC (i:=11) sc.nd rfl (Or.inl rfl))
   (ag (ay (i:=12) sc.nd rfl (Or.inl rfl) (aI (CX:=bZ P w) c_count_trees (hr.mono (by decide)) rfl bd (aa (ak 6) (aa (ak 7) (aa (ak 8) (aa (ak 9) (aa (ak 11) ad)))))))
   (aj (bK (PW.pt (pJ (kE (m_ (aI zsd (hr.mono (by decide)) rfl bo (aa (ak 12) ad)) fun _=>rfl)) (lA (aD vC (ak 12) (dU (Dw (DA (by decide:1<=64) _) hu) (ak 10) (aE (aa (ak 7) (aa (ak 8) (aa (ak 9) (aa (ak 11) ad))))) ae ⟨rfl,rfl,rfl,rfl⟩) (aS _)))))
   (aj (aA yc))
   aM))))
   (ag (ay (i:=11) sc.nd rfl (Or.inl rfl) (ap (aN.m0 bw) ae (ap (aN.m1 aV) (ap (aN.m1 aT) (aI zta (hr.mono (by decide)) rfl bo (aa (ak 0) (aw ad))) ae) ae)))
   (ag (bj PassesOwn.never rfl (cB (ak 4)) (aC (i:=13) sc.nd rfl (Or.inl rfl))
   (aj (bK (aD vC (aI (CX:=bZ P w) c_count_trees (hr.mono (by decide)) rfl bd (aa (ak 6) (aa (az aq (ak 13) ae (fun _ _=>rfl)) (aa (ak 8) (aa (ak 9) (aa (ak 11) ad)))))) (dU (Dw (DA (by decide:1<=64) _) hu) (ak 10) (aE (aa (az aq (ak 13) ae (fun _ _=>rfl)) (aa (ak 8) (aa (ak 9) (aa (ak 11) ad))))) ae ⟨rfl,rfl,rfl,rfl⟩) (aS _))
   (aj (aA yc))
   aM)))
   (aj (aA (aI zub (hr.mono (by decide)) rfl bo (aa (ak 6) (aa (az cP (fF ["_law_one"] [2] rfl (bG.of (by kernel_rfl)) (by kernel_rfl) (cB (bJ (bc (bc (bc (bc (bc ad)))))))
    (fun _ _ _ _=>(aC (i:=0) (by show(["_law_one","_law_names_here"]:List Str).Nodup;decide +kernel) rfl (Or.inl rfl))) (fun _ _ _ _=>(xw (aD (l_ (K:=K) rfl) (ak 0) (ak 1) (by with_unfolding_all rfl)))) (fun _ _ _ _=>(ak 0))) ae (fun _ _=>rfl)) ad))))))))))))))))))),?_⟩
  walk_at "n";refine⟨a,ns,0,rfl,ha,by omega,fun c0=>⟨c0,rfl,fun sg H1 hsg s1=>h1 _ _ ?_⟩⟩;walk_at "nc";refine⟨a,ns,1,rfl,s1.seq ha,by omega,fun c1=>⟨c1,rfl,fun b p H2 hb0 hb hp hpn s2=>h1 _ _ ?_⟩⟩;clear h1;have s02:=s1.trans s2;walk_at "n";refine⟨am (by decide),fun p0 hp0=>⟨a,ns,2,rfl,(s02.trans (af hp0)).seq ha,by omega,fun c2=>⟨_,rfl,_,bp.of ac,?_⟩⟩⟩;obtain⟨de,hde,d1,d9⟩:∃de:Int,ki [V.int 3,V.int 9,V.int 1] (c2/1024%3)=some (V.int de)/\1<=de/\de<=9:=by
   have:c2/1024%3=0\/c2/1024%3=1\/c2/1024%3=2:=by omega
   rcases this with e | e | e<;>rw[e]
   ·exact⟨3,rfl,by decide,by decide⟩
   ·exact⟨9,rfl,by decide,by decide⟩
   ·exact⟨1,rfl,by decide,by decide⟩
  refine⟨_,hde,h1 _ _ ?_⟩;clear h1;have s03:=s02.trans (af (o:=.lst [V.int 3,V.int 9,V.int 1]) hp0);have hb3:=af (o:=.lst [V.int 3,V.int 9,V.int 1]) hp0 _ _ hb;generalize ar H2 p0 (.lst [V.int 3,V.int 9,V.int 1])=H3 at s03 hb3 ⊢;walk_at "n";refine⟨a,ns,3,8,rfl,s03.seq ha,by omega,by omega,by omega,fun lc cs H4 hlc0 hlc cs1 cs8 s4=>⟨lc,rfl,⟨_,bp.of hlc⟩,?_⟩⟩;refine jM (xs:=cs.map V.int) (fun i acc σ H'=>ax H4 H'/\i<=cs.length/\(∃(ts:List Addr) (rs:List (Nat×RV)),acc=ts.map V.ref/\ts.length=i/\rs.length=i/\(∀(i:Nat) t r,ts[i]?=some t->rs[i]?=some r->H' t=some (.tup (og r)))/\∀r∈rs,sN p sg r)/\∃z,σ=[z,some (V.str (tx sg)),some (V.ref b),some (V.int de)]) ⟨fun _ _ e=>e,Dh _,⟨[],[],rfl,rfl,rfl,(fun i t r e=>by simp at e),(fun r h=>nomatch h)⟩,_,rfl⟩ ?_ ?_ ?_ ?_ ?_
  ·rintro i acc σ H' ⟨_,hi,⟨ts,rs,rfl,hl,_⟩,_⟩
   rw[CP,hl];exact bh (by omega)
  ·rintro i acc σ H' ⟨_,hi,_⟩
   rw[CP];exact hi
  ·rintro i acc σ H' ⟨sm,_⟩
   exact bp.of (sm _ _ hlc)
  ·rintro i x acc σ H' hx ⟨sm,hi,⟨ts,rs,rfl,hl,hl2,hat,hro⟩,z,rfl⟩
   have hlt:i<cs.length:=by have:=(CM.mp hx).1;rwa [CP]at this
   rw[CS,mk hlt]at hx;cases hx;walk_at "wp";refine⟨_,de,b,p,sg,rfl,d1,d9,sm _ _ (s4 _ _ hb3),hp,hpn,hsg,fun t r H5 ro ht s5=>?_⟩;refine⟨sm.trans s5,hlt,ts++[t],by rw[C6];rfl,by rw[Df,hl];rfl,rs++[r],by rw[Df,hl2];rfl,fun j t' r' e1 e2=>?_,fun r' hr'=>?_⟩
   ·by_cases hj:j<ts.length
    ·rw[Dd hj]at e1
     rw[Dd (by omega)]at e2;exact s5 _ _ (hat j t' r' e1 e2)
    ·have hj2:j=ts.length:=by
      have:=(CM.mp e1).1;simp at this;omega
     subst hj2;rw[Dc (Dg _),Nat.sub_self]at e1;rw[hl,<- hl2,Dc (Dg _),Nat.sub_self]at e2;cases e1;cases e2
     exact ht
   ·rcases C7.mp hr' with h | h
    ·exact hro r' h
    ·rw[CQ.mp h];exact ro
  rintro acc σ H5 ⟨s5,_,⟨ts,rs,rfl,hl,hl2,hat,hro⟩,z,rfl⟩ lr hlr;refine h1 _ _ ?_;clear h1;rw[CP]at hl hl2;have t6:=af (o:=.lst (ts.map V.ref)) hlr;have hRows:iX (ar H5 lr (.lst (ts.map V.ref))) lr ts rs:=⟨ac,by omega,fun i t r e1 e2=>t6 _ _ (hat i t r e1 e2)⟩;have s06:=((s03.trans s4).trans s5).trans t6;have hb6:=t6 _ _ (s5 _ _ (s4 _ _ hb3));generalize ar H5 lr (.lst (ts.map V.ref))=H6 at hRows s06 hb6 ⊢;walk_at "n";refine⟨a,ns,2,rfl,s06.seq ha,by omega,fun c3=>⟨_,rfl,h1 _ _ ?_⟩⟩;clear h1;obtain⟨wy,hwy⟩:∃n:Nat,c3%36=(n:Int):=⟨(c3%36).toNat,by omega⟩;have hwy2:wy<36:=by omega
  rw[hwy];walk_at "n";have hpl:0<p.length:=by omega
  have hp0:p[0]?=some (p[0]'hpl):=mk hpl;have hstp:p[0]'hpl∈p:=CZ hpl;generalize p[0]'hpl=st at hp0 hstp;have hstn:=gM (hpn _ hstp);have hsl:=i8 hsg;have at0:ki (aW p) 0=some (V.str (tx st)):=(show ki _ ((0:Nat):Int)=_ from c8 (by unfold aW;rw[CS,hp0];rfl));refine⟨_,bp.of hb6,_,at0,lr,sg,st,ts,rs,rfl,hRows,fun r hr=>(hro r hr).good,by omega,by omega,by omega,mO hsg hstp hpn (by omega) (by omega) hro,fun gr gd ga H7 g7 s7=>h1 _ _ ?_⟩;clear h1;have s07:=s06.trans s7;have hb7:=s7 _ _ hb6;have hR7:=hRows.up s7;have hgood:∀r∈rs,j0 r:=fun r hr=>(hro r hr).good;have gc:=pC hgood;have kst:tx st∈(aB (tx st) rs).map (·.1):=(gm _ _ _).mpr (.inl rfl);have krs:∀r∈rs,tx r.2.n∈(aB (tx st) rs).map (·.1):=fun r hr=>(gm _ _ _).mpr (.inr ⟨(tx r.2.n,(aJ r.1 r.2).map tx),by unfold ya;exact List.mem_map_of_mem (f:=fun r:Nat×RV=>(tx r.2.n,(aJ r.1 r.2).map tx)) hr,.inl rfl⟩);walk_at "n";refine⟨_,bp.of hb7,_,at0,h1 _ _ ?_⟩;clear h1;refine ao fun N1 h1=>?_;refine wm fun tb1 tb2 ee1 ee2=>?_;walk_at "wp";have key:∀z:List Nat,tx z∈(aB (tx st) rs).map (·.1)->N1 [some (V.ref a),some (V.str (tx sg)),some (V.ref b),some (V.int de),some (V.ref lr),some (V.int (wy:Int)),some (V.ref gr),some (V.str (tx z)),none,none,none,none,none,none] H7:=by
   intro z hz;refine h1 _ _ ?_;clear h1 ee1 ee2 tb1 tb2;walk_at "n";refine h1 _ _ ?_;clear h1;obtain⟨rr,hrr⟩:∃n:Nat,1+(wy:Int)/4%3=(n:Int):=⟨1+wy/4%3,by omega⟩;have rr1:1<=rr/\rr<=3:=by omega
   rw[hrr];walk_at "n";refine h1 _ _ ?_;clear h1;obtain⟨cc,hcc⟩:∃n:Nat,1+(wy:Int)/12=(n:Int):=⟨1+wy/12,by omega⟩;have cc1:1<=cc/\cc<=3:=by omega
   rw[hcc];walk_at "n";refine⟨lr,ts,rs,rfl,hR7,hgood,by omega,fun d kvs g H8 hd0 hd hG hgc s8=>h1 _ _ ?_⟩;clear h1;have s08:=s07.trans s8;have hR8:=hR7.up s8;have g8:=g7.up s8;have cok:v9 st rs 3:=⟨gc,fun q hq=>(hgood q hq).good.t0,fun p a b c=>Dw (Dm (rZ gc (by omega) 17 p a b (by omega)) (Nat.pow_le_pow_right (by decide) (by omega:8*p.2.2.2.toNat<=56))) (by decide),by decide,by omega,?nz⟩
   case nz=>
    have:=mO hsg hstp hpn (by omega) (by omega) hro;unfold fk at this
    split at this
    ·cases this
    ·split at this
     ·cases this
     ·omega
   have dom:∀(z:List Nat) (k:Int),tx z∈(aB (tx st) rs).map (·.1)->1<=k->k<=16->tN st rs 3 (z,rr,cc,k):=fun z k hz h1 h2=>⟨hz,rr1.1,rr1.2,cc1.1,cc1.2,by show -8<=k;omega,h2⟩;have gcn:∀(z:List Nat) (k:Int),k<=16->g (z,rr,cc,k)=CN rs (z,rr,cc,k):=fun z k hk=>hgc _ ⟨rr1.1,rr1.2,cc1.1,cc1.2⟩ hk;have hb8:=s8 _ _ hb7;walk_at "n";refine⟨a,ns,2,rfl,s08.seq ha,by omega,fun c5=>⟨_,rfl,by omega,by omega,by decide,by decide,?_⟩⟩;obtain⟨lo,hlo,lo1,lo2⟩:∃lo:Int,1+c5/512%2=lo/\1<=lo/\lo<=2:=⟨_,rfl,by omega,by omega⟩;rw[hlo];refine pA (fun i σ H'=>ax H8 H'/\∃x y w,σ=[some (V.ref a),some (V.str (tx sg)),some (V.ref b),some (V.int de),some (V.ref lr),some (V.int (wy:Int)),some (V.ref gr),some (V.str (tx z)),some (V.int (rr:Int)),some (V.int (cc:Int)),some (V.ref d),x,y,w]) ⟨fun _ _ e=>e,_,_,_,rfl⟩ ?_ ?_
   ·rintro i σ H9 hi ⟨s9,x,y,w,rfl⟩
    have hk1:1<=lo+(i:Int)*2:=by omega
    have hk2:lo+(i:Int)*2<=16:=by omega
    generalize lo+(i:Int)*2=k at hk1 hk2;walk_at "o";refine⟨gr,gd,sg,st,ga,rs,3,(z,rr,cc,k),rfl,g8.up s9,cok,.inl ⟨dom z k hz hk1 hk2,fun H10 s10=>h2 _ _ ?_⟩⟩;clear h2;have hd10:=s10 _ _ (s9 _ _ hd);walk_at "wp";refine⟨_,rfl,true,rfl,?_⟩;rw[if_neg (by decide)];refine⟨.inr ⟨kvs,.inl hd10⟩,am (by decide),fun p hp=>⟨_,dN.t (k:=bI (z,rr,cc,k)) (af hp _ _ hd10) ac,?_⟩⟩;rw[hG (z,rr,cc,k),gcn z k hk2];refine⟨rfl,?_⟩;rw[if_neg (fun h=>h rfl)];exact(s9.trans s10).trans (af hp)
   ·rintro σ H9 ⟨s9,x,y,w,rfl⟩
    refine h1 _ _ ?_;walk_at "nc";refine⟨a,ns,2,rfl,(s08.trans s9).seq ha,by omega,fun c6=>⟨_,rfl,h1 _ _ ?_⟩⟩;clear h1;have k1:1<=1+c6/4096%16:=by omega
    have k2:1+c6/4096%16<=16:=by omega
    generalize 1+c6/4096%16=k at k1 k2;walk_at "n";refine⟨⟨_,bp.of (s9 _ _ hR8.1)⟩,?_⟩;refine cH (xs:=ts.map V.ref) (fun n σ H'=>ax H8 H'/\∃y w,σ=[some (V.ref a),some (V.str (tx sg)),some (V.ref b),some (V.int de),some (V.ref lr),some (V.int (wy:Int)),some (V.ref gr),some (V.str (tx z)),some (V.int (rr:Int)),some (V.int (cc:Int)),some (V.ref d),some (V.int k),y,w]) ⟨s9,_,_,rfl⟩ (fun n σ H' _ h=>bp.of (h.1 _ _ hR8.1)) ?_ ?_
    ·rintro n x σ H10 hx ⟨s10,y',w',rfl⟩
     have hlt:n<ts.length:=by have:=(CM.mp hx).1;rwa [CP]at this
     rw[CS,mk hlt]at hx;cases hx;have e2:rs[n]?=some (rs[n]'(by omega)):=mk (by omega);have ht:=s10 _ _ (hR8.2.2 n _ _ (mk hlt) e2);have hm:=CU e2;have at0r:=pW (hgood _ hm).k4;generalize rs[n]'(by omega)=qq at e2 ht hm at0r;walk_at "wp";have hd10:=s10 _ _ hd;refine⟨_,bv.of ht,_,at0r,gr,gd,sg,st,ga,rs,3,(qq.2.n,rr,cc,k),rfl,g8.up s10,cok,.inl ⟨dom _ k (krs _ hm) k1 k2,fun H11 s11=>⟨.inr ⟨kvs,.inl (s11 _ _ hd10)⟩,_,bv.of (s11 _ _ ht),_,at0r,am (by decide),fun p hp=>⟨_,dN.t (k:=bI (qq.2.n,rr,cc,k)) (af hp _ _ (s11 _ _ hd10)) ac,?_⟩⟩⟩⟩;rw[hG (qq.2.n,rr,cc,k),gcn _ k k2];refine⟨rfl,?_⟩;rw[if_neg (fun h=>h rfl)];exact(s10.trans s11).trans (af hp)
    ·rintro σ H10 ⟨s10,y',w',rfl⟩
     refine h1 _ _ ?_;clear h1;walk_at "wp";obtain⟨z0,zr,hz0⟩:=wd hp;have hz0m:z0∉p:=by
      have:z0∈ka.filter (fun z=>decide (z∉p)):=by rw[hz0];exact List.mem_cons_self
      simpa using(List.mem_filter.mp this).2
     have nn:tx z0∉(aB (tx st) rs).map (·.1):=fun hh=>by
      rcases(gm _ _ _).mp hh with e | ⟨r,hr,e⟩
      ·exact hz0m (by rw[jA e];exact hstp)
      ·unfold ya at hr
       obtain⟨q,hq,rfl⟩:=Dy.mp hr;have ro:=hro q hq;rcases e with e | e
       ·exact hz0m (by rw[jA e];exact ro.n)
       ·obtain⟨y,hy,e⟩:=Dy.mp e
        have hyp:y∈p:=by
         have h4:=ro.good.k4;obtain⟨t_,v⟩:=q;have o1:=ro.o1;have o2:=ro.o2;have:t_=0\/t_=1\/t_=2\/t_=3:=by simp at h4;omega
         rcases this with rfl | rfl | rfl | rfl
         ·simp[aJ]at hy
         ·rcases(show y=v.o1\/y=v.o2 by simpa[aJ]using hy) with rfl | rfl
          ·exact o1
          ·exact o2
         ·rcases(show y=v.o1\/y=v.o2 by simpa[aJ]using hy) with rfl | rfl
          ·exact o1
          ·exact o2
         ·rw[show y=v.o1 by simpa[aJ]using hy];exact o1
        exact hz0m (by rw[<- jA e];exact hyp)
     refine⟨am (by decide),fun pc hpc=>?_⟩;have s11:=af (o:=.lst [V.str (Str.ofString "Q"),V.str (Str.ofString "QQ"),V.str (Str.ofString "QQQ"),V.str (Str.ofString "QQQQ"),V.str (Str.ofString "ZQ")]) hpc;have e11:ar H10 pc (.lst [V.str (Str.ofString "Q"),V.str (Str.ofString "QQ"),V.str (Str.ofString "QQQ"),V.str (Str.ofString "QQQQ"),V.str (Str.ofString "ZQ")]) pc=some (.lst (ka.map fun z=>V.str (tx z))):=by rw[ac,va]
     generalize ar H10 pc (.lst [V.str (Str.ofString "Q"),V.str (Str.ofString "QQ"),V.str (Str.ofString "QQQ"),V.str (Str.ofString "QQQQ"),V.str (Str.ofString "ZQ")])=H11 at s11 e11 ⊢;have hb11:=s11 _ _ (s10 _ _ hb8);refine⟨⟨_,bp.of e11⟩,?_⟩;refine kU (as:=ka) (emb:=fun z=>V.str (tx z)) (f:=fun z=>if decide (z∉p)=true then some (V.str (tx z)) else none) (fun σ=>∃x,σ=[x,some (V.ref b)]) ⟨_,rfl⟩ (fun H' s'=>bp.of (s' _ _ e11)) (by decide) ?_ ?_
     ·rintro i x hx σ H' M1 M0 ⟨y,rfl⟩ s' k1' k0'
      walk_at "wp";have hin:zq (V.str (tx x)) (aW p)=decide (x∈p):=by
       have e0:aW p=(p.map tx).map V.str:=by unfold aW;rw[C8];rfl
       rw[e0,qx]
       by_cases hxp:x∈p
       ·rw[decide_eq_true hxp,decide_eq_true (List.mem_map_of_mem hxp)]
       ·rw[decide_eq_false hxp,decide_eq_false (fun h=>by obtain⟨y,hy,e⟩:=Dy.mp h;exact hxp (by rw[<- jA e];exact hy))]
      refine⟨b,_,rfl,.inl (bp.of (s' _ _ hb11)),rfl,ug p,_,rfl,?_⟩;rw[hin]
      by_cases hxp:x∈p
      ·rw[decide_eq_true hxp,if_neg (by decide)]
       exact k0' _ _ (by rw[if_neg (by simpa using hxp)]) s' ⟨_,rfl⟩
      ·rw[decide_eq_false hxp,if_pos (by decide)]
       exact k1' _ _ _ (by rw[if_pos (by simpa using hxp)]) s' ⟨_,rfl⟩
     ·intro H12 s12 lq hlq
      rw[lU,hz0];have s13:=((s10.trans s11).trans s12).trans (af (o:=.lst ((z0::zr).map fun z=>V.str (tx z))) hlq);exact⟨_,bp.of ac,_,(show ki ((z0::zr).map fun z=>V.str (tx z)) ((0:Nat):Int)=some (V.str (tx z0)) from c8 rfl),gr,gd,sg,st,ga,rs,3,z0,rfl,g8.up s13,cok,nn,fun H14 s14=>q H14⟩
  by_cases h4:0<(wy:Int)%4
  ·rw[if_pos h4]
   refine⟨_,bp.of hR7.1,?_⟩;rw[if_pos (by rw[CP];omega),ee1];walk_at "wp";refine⟨a,ns,2,rfl,s07.seq ha,by omega,fun c4=>⟨_,rfl,_,bp.of hR7.1,?_⟩⟩;rw[CP];obtain⟨j,hj⟩:∃j:Nat,c4/36%(ts.length:Int)=(j:Int):=⟨_,(DE (DC _ (by omega))).symm⟩;have hj2:j<ts.length:=by have:=DD (c4/36) (b:=(ts.length:Int)) (by omega);omega
   have e1:ts[j]?=some (ts[j]'hj2):=mk hj2;have e2:rs[j]?=some (rs[j]'(by omega)):=mk (by omega);have ht:=hR7.2.2 j _ _ e1 e2;have hm:=CU e2;have at0r:=pW (hgood _ hm).k4;exact⟨by omega,_,bp.of hR7.1,_,by rw[hj];exact c8 (by rw[CS,e1];rfl),_,rfl,_,bv.of ht,_,at0r,key _ (krs _ hm)⟩
  ·rw[if_neg h4,ee2]
   walk_at "wp";exact key st kst
end
noncomputable def FK(K:W.Frag)(x:Str)(st:Stmt)(f:Addr):Prop:=W.nsIn K mainGlobals x=some (some (.ref f))/\∃oc od osl kV doc pm an cdv ct,K.lookup f=some ⟨oc,od,.func (W.fnOf x x (aK st) (aF st) (ai st) .none kV doc pm an cdv ct),osl⟩/\W.codeIn K cdv x=true/\W.keepIn K (.ref f)=true
theorem fk_mk{K:W.Frag}{x:Str}{st:Stmt}{f:Addr}{oc:Value}{od an:Option Addr}{osl:Array (Option Value)}{kV doc pm cdv ct:Value}(a:W.nsIn K mainGlobals x=some (some (.ref f)))(l:K.lookup f=some ⟨oc,od,.func (W.fnOf x x (aK st) (aF st) (ai st) .none kV doc pm an cdv ct),osl⟩)(c:W.codeIn K cdv x=true)(k:W.keepIn K (.ref f)=true):FK K x st f:=⟨a,oc,od,osl,kV,doc,pm,an,cdv,ct,l,c,k⟩
theorem FK.cal{K:W.Frag}{x:Str}{st:Stmt}{f:Addr}{h base:Heap}{mg:Str->Option Value}{P:Program}{w:World}{CX:iz}{k:Nat}{ps:List Str}{sp:Sp}(q:FK K x st f)(X:K.In h)(G:h.Ns mainGlobals mg)
  (ok:∀fd,di K x x st f fd->mg x=some (.ref f)->W.keepIn K (.ref f)=true->cL K fd ps []->aO P w K mg base CX k f fd ps sp)
  (hb:∀(kV doc pm:Value) (an:Option Addr) (cdv ct:Value) (us:List Value),us.length=ps.length->bindArgs (W.fnOf x x (aK st) (aF st) (ai st) .none kV doc pm an cdv ct) ⟨us,[]⟩=pure (ps.zip us)):gW P w K mg base CX k x ps sp:=by
 obtain⟨a,oc,od,osl,kV,doc,pm,an,cdv,ct,l,c,kk⟩:=q;have F:=bx l c kk;have b:=F.binds hb;exact⟨_,_,ok _ F (W.mg_of X G a) kk b,W.mg_of X G a,kk,b⟩
local macro_rules | `(tactic| walk_at "b1")=>`(tactic| exact fun _ _ _ _ _ _ us hl=>match us,hl with | [_],_=>rfl)
local macro_rules | `(tactic| walk_at "b2")=>`(tactic| exact fun _ _ _ _ _ _ us hl=>match us,hl with | [_,_],_=>rfl)
local macro_rules | `(tactic| walk_at "b3")=>`(tactic| exact fun _ _ _ _ _ _ us hl=>match us,hl with | [_,_,_],_=>rfl)
local macro_rules | `(tactic| walk_at "b4")=>`(tactic| exact fun _ _ _ _ _ _ us hl=>match us,hl with | [_,_,_,_],_=>rfl)
local macro_rules | `(tactic| walk_at "b5")=>`(tactic| exact fun _ _ _ _ _ _ us hl=>match us,hl with | [_,_,_,_,_],_=>rfl)
theorem all_mk{l:W.OpenLaw}{w:World}{K:W.Frag}{h:Heap}{mg:Str->Option Value}{fa f1 f2 f3 f4 f5 f6 f7 f8 f9 f10 f11 f12 f13 f14 f15 f16 f17 f18 f19 f20 f21:Addr}(X:K.In h)(G:h.Ns mainGlobals mg)(B5:mg "law"=some (.ref fa))
  (a1:FK K "only_of" jy f1) (a2:FK K "is_name" jL f2) (a3:FK K "are_signs" gx f3) (a4:FK K "check_made_of" dm f4) (a5:FK K "numbers_by_name" cU f5) (a6:FK K "fewest" k_ f6) (a7:FK K "paired_rows" eu f7) (a8:FK K "count_trees" eG f8) (a9:FK K "_law_cell" kM f9) (A7:FK K "_law_cells" jJ f10) (B0:FK K "_law_whole" jz f11) (Cf:FK K "_law_signs" jB f12) (CH:FK K "_law_names" jW f13) (BC:FK K "_law_rule" ll f14) (BI:FK K "_law_grammar" gI f15) (AV:FK K "_law_drawn" jP f16) (Bf:FK K "_law_pairs" jD f17) (BD:FK K "_law_more" kZ f18) (CD:FK K "_law_counts" iS f19) (B':FK K "_law_no_name" gB f20) (Cq:FK K "law" mx f21)
  {C_QuiltError zfa C_NoName zba zDa C_Rule zya zea zra zaa zka zca zna zda zsa zia zoa zja zla zpa zga zva zAa zqa C_TreeRows f_TreeRows___init__ f_TreeRows_many_in f_TreeRows_steps_of f_TreeRows_reckoned f_TreeRows_many_together C_NoNumber:Addr} {tkCAPITALS tkSMALLS tkLONGEST_NAME tkMOST_SIGNS tkMOST_RULES tkMOST_NAMES tkMOST:Tok} {ddQuiltError ddNoRule ddNoName ddNoGrammar odINoGrammar anINoGrammar zWd zXd zVc zWc zGb zHb zkc zlc zXc zYc zDe zEe zmc znc zvb zwb zIb zJb zoc zpc zwd zxd zqe zre zqc zrc odTreeRows___init__ anTreeRows___init__ odTreeRows_many_in anTreeRows_many_in odTreeRows_steps_of anTreeRows_steps_of odTreeRows_reckoned anTreeRows_reckoned odTreeRows_many_together anTreeRows_many_together:Option Addr} {cdQuiltError zDf cdNoName zxa:ClassData} {slQuiltError zEf slNoName zUe slINoGrammar zYd zZc zKb zsc zad zFe ztc zxb zLb zuc zyd zse zvc slTreeRows___init__ slTreeRows_many_in slTreeRows_steps_of slTreeRows_reckoned slTreeRows_many_together:Array (Option Value)} {ocINoGrammar kVINoGrammar dcINoGrammar pmINoGrammar cdINoGrammar ctINoGrammar zZd zae zbe zce zob zde zbd zcd zdd zed zbb zfd zMb zNb zOb zPb zIa zQb zwc zxc zyc zzc zNa zAc zgd zhd zid zjd zcb zkd zGe zHe zIe zJe zzd zKe zBc zCc zDc zEc zOa zFc zyb zzb zAb zBb zEa zCb zRb zSb zTb zUb zJa zVb zGc zHc zIc zJc zPa zKc zAd zBd zCd zDd zhb zEd zte zue zve zwe zWb zxe zLc zMc zNc zOc zQa zPc ocTreeRows___init__ kVTreeRows___init__ dcTreeRows___init__ pmTreeRows___init__ cdTreeRows___init__ ctTreeRows___init__ ocTreeRows_many_in kVTreeRows_many_in dcTreeRows_many_in pmTreeRows_many_in cdTreeRows_many_in ctTreeRows_many_in ocTreeRows_steps_of kVTreeRows_steps_of dcTreeRows_steps_of pmTreeRows_steps_of cdTreeRows_steps_of ctTreeRows_steps_of ocTreeRows_reckoned kVTreeRows_reckoned dcTreeRows_reckoned pmTreeRows_reckoned cdTreeRows_reckoned ctTreeRows_reckoned ocTreeRows_many_together kVTreeRows_many_together dcTreeRows_many_together pmTreeRows_many_together cdTreeRows_many_together ctTreeRows_many_together:Value}  (qm:W.nsIn K mainGlobals "QuiltError"=some (some (.ref C_QuiltError))) (n8:K.lookup C_QuiltError=some ⟨.type "type",ddQuiltError,.cls cdQuiltError,slQuiltError⟩) (jj:W.excIn K C_QuiltError [.type "ValueError",.type "Exception",.type "BaseException",.type "object"] "ValueError.__new__"=true) (mi:W.findIn K (.ref C_QuiltError) "__getattribute__"=some (some (.builtin "BaseException.__getattribute__"))) (mr:W.findIn K (.ref C_QuiltError) "__getattr__"=some none) (l5:W.mroIn K C_QuiltError (.type "BaseException")=some true) (mq:W.mroIn K C_QuiltError (.type "object")=some true) (mf:W.findIn K (.ref C_QuiltError) "__class__"=some (some (.builtin "object.__class__"))) (wS:W.specialIn K (.builtin "object.__class__") "__get__"=some (some (.builtin "getset_descriptor.__get__"))) (wR:W.takesIn K (.builtin "object.__class__")=some true) (wW:W.nsIn K mainGlobals "NoRule"=some (some (.ref zfa))) (wC:K.lookup zfa=some ⟨.type "type",ddNoRule,.cls zDf,zEf⟩) (qw:W.excIn K zfa [.type "ValueError",.type "Exception",.type "BaseException",.type "object"] "ValueError.__new__"=true) (tL:W.findIn K (.ref zfa) "__getattribute__"=some (some (.builtin "BaseException.__getattribute__"))) (uY:W.findIn K (.ref zfa) "__getattr__"=some none) (tS:W.mroIn K zfa (.type "BaseException")=some true) (uG:W.mroIn K zfa (.type "object")=some true) (tE:W.findIn K (.ref zfa) "__class__"=some (some (.builtin "object.__class__"))) (w6:W.nsIn K mainGlobals "NoName"=some (some (.ref C_NoName))) (pN:K.lookup C_NoName=some ⟨.type "type",ddNoName,.cls cdNoName,slNoName⟩) (pK:W.excIn K C_NoName [.type "ValueError",.type "Exception",.type "BaseException",.type "object"] "ValueError.__new__"=true) (uL:W.findIn K (.ref C_NoName) "__getattribute__"=some (some (.builtin "BaseException.__getattribute__"))) (uu:W.findIn K (.ref C_NoName) "__getattr__"=some none) (tM:W.mroIn K C_NoName (.type "BaseException")=some true) (uK:W.mroIn K C_NoName (.type "object")=some true) (tG:W.findIn K (.ref C_NoName) "__class__"=some (some (.builtin "object.__class__"))) (iE:cdNoName.mro.contains (.ref C_QuiltError)=true) (q9:W.nsIn K mainGlobals "NoGrammar"=some (some (.ref zba))) (gK:K.lookup zba=some ⟨.type "type",ddNoGrammar,.cls zxa,zUe⟩) (pf:W.excOut K zba [.type "ValueError",.type "Exception",.type "BaseException",.type "object"] "ValueError.__new__"=true) (o7:W.findIn K (.ref zba) "__getattribute__"=some (some (.builtin "BaseException.__getattribute__"))) (oV:W.findIn K (.ref zba) "__getattr__"=some none) (oQ:W.mroIn K zba (.type "BaseException")=some true) (nE:W.mroIn K zba (.type "object")=some true) (nw:W.findIn K (.ref zba) "__class__"=some (some (.builtin "object.__class__"))) (ph:W.findIn K (.ref zba) "__init__"=some (some (.ref zDa))) (nO:W.typeIn K (.ref zDa)=some (.type "function")) (oG:K.lookup zDa=some ⟨ocINoGrammar,odINoGrammar,.func (W.fnOf "__init__" "NoGrammar.__init__" (aK g_) (aF g_) (ai g_) .none kVINoGrammar dcINoGrammar pmINoGrammar anINoGrammar cdINoGrammar ctINoGrammar),slINoGrammar⟩) (o0:W.codeIn K cdINoGrammar "NoGrammar.__init__"=true) (oF:W.keepIn K (.ref zDa)=true) (nj:W.findIn K (.ref zba) "__setattr__"=some (some (.builtin "object.__setattr__"))) (nv:W.strip zxa.mro=[.type "ValueError",.type "Exception",.type "BaseException",.type "object"]) (jp:zxa.hasDict=true) (oR:zxa.mro.contains (.type "object")=true) (oh:zxa.mro.isEmpty=false) (pe:W.findIn K (.ref zba) "why"=some none) (Bq:zxa.mro.contains (.ref zba)=true) (ut:W.nsIn K mainGlobals "CAPITALS"=some (some (.str "ABCDEFGHIJKLMNOPQRSTUVWXYZ" tkCAPITALS))) (xL:W.nsIn K mainGlobals "SMALLS"=some (some (.str "abcdefghijklmnopqrstuvwxyz" tkSMALLS))) (l3:W.nsIn K mainGlobals "LONGEST_NAME"=some (some (.int 4 tkLONGEST_NAME))) (zi:W.nsIn K mainGlobals "Rule"=some (some (.ref C_Rule))) (yk:W.specialIn K (.ref C_Rule) "__getattribute__"=some (some (.builtin "type.__getattribute__"))) (yf:W.readsIn K C_Rule (.type "type")=true) (kg:W.findCls K (.ref C_Rule) (.type "type") "__init__"=some (.val (.ref zya))) (kb:K.lookup zya=some ⟨zZd,zWd,.func (W.fnOf "__init__" "Rule.__init__" (aK cN) (aF cN) (ai cN) .none zae zbe zce zXd zob zde),zYd⟩) (ke:W.codeIn K zob "Rule.__init__"=true) (AD:W.keepIn K (.ref zya)=true) (uZ:W.isFn K (.ref zya)=true) (tP:W.nsIn K mainGlobals "CellRule"=some (some (.ref zea))) (Bc:W.plainGet K zea Str.empty=true) (A5:W.hasDictIn K zea=true) (BQ:W.plainOver K zea=true) (Cd:W.findIn K (.ref zea) "__setattr__"=some (some (.builtin "object.__setattr__"))) (AQ:W.findIn K (.ref zea) "__class__"=some (some (.builtin "object.__class__"))) (Bm:W.mroIn K zea (.type "object")=some true) (BF:W.findIn K (.ref zea) "name"=some none) (Cp:W.findIn K (.ref zea) "cost"=some none) (AY:W.findIn K (.ref zea) "part_names"=some none) (Bd:W.findIn K (.ref zea) "sign"=some none) (rO:W.makesIn K zea=true) (rT:W.findIn K (.ref zea) "__init__"=some (some (.ref zra))) (ic:K.lookup zra=some ⟨zbd,zVc,.func (W.fnOf "__init__" "CellRule.__init__" (aK cI) (aF cI) (ai cI) .none zcd zdd zed zWc zbb zfd),zZc⟩) (iq:W.codeIn K zbb "CellRule.__init__"=true) (B8:W.keepIn K (.ref zra)=true) (hU:W.isFn K (.ref zra)=true) (qH:W.keepIn K (.ref zea)=true) (BM:W.kitOne K (.ref zea) (.ref C_Rule)=some true) (AM:W.kitOne K (.ref zea) (.ref zea)=some true) (py:W.nsIn K mainGlobals "BesideRule"=some (some (.ref zaa))) (Bl:W.plainGet K zaa Str.empty=true) (Bj:W.hasDictIn K zaa=true) (CC:W.plainOver K zaa=true) (B7:W.findIn K (.ref zaa) "__setattr__"=some (some (.builtin "object.__setattr__"))) (Cc:W.findIn K (.ref zaa) "__class__"=some (some (.builtin "object.__class__"))) (Cl:W.mroIn K zaa (.type "object")=some true) (A0:W.findIn K (.ref zaa) "name"=some none) (Bk:W.findIn K (.ref zaa) "cost"=some none) (Bv:W.findIn K (.ref zaa) "part_names"=some none) (Cw:W.findIn K (.ref zaa) "one"=some none) (CB:W.findIn K (.ref zaa) "other"=some none) (nk:W.makesIn K zaa=true) (ow:W.findIn K (.ref zaa) "__init__"=some (some (.ref zka))) (fS:K.lookup zka=some ⟨zMb,zGb,.func (W.fnOf "__init__" "BesideRule.__init__" (aK bW) (aF bW) (ai bW) .none zNb zOb zPb zHb zIa zQb),zKb⟩) (fX:W.codeIn K zIa "BesideRule.__init__"=true) (Bz:W.keepIn K (.ref zka)=true) (fU:W.isFn K (.ref zka)=true) (oK:W.keepIn K (.ref zaa)=true) (BY:W.kitOne K (.ref zaa) (.ref C_Rule)=some true) (AL:W.kitOne K (.ref zaa) (.ref zaa)=some true) (sv:W.nsIn K mainGlobals "AboveRule"=some (some (.ref zca))) (Ba:W.plainGet K zca Str.empty=true) (Ch:W.hasDictIn K zca=true) (AX:W.plainOver K zca=true) (BH:W.findIn K (.ref zca) "__setattr__"=some (some (.builtin "object.__setattr__"))) (AU:W.findIn K (.ref zca) "__class__"=some (some (.builtin "object.__class__"))) (Ci:W.mroIn K zca (.type "object")=some true) (BB:W.findIn K (.ref zca) "name"=some none) (Co:W.findIn K (.ref zca) "cost"=some none) (BT:W.findIn K (.ref zca) "part_names"=some none) (Bp:W.findIn K (.ref zca) "one"=some none) (CA:W.findIn K (.ref zca) "other"=some none) (pO:W.makesIn K zca=true) (pQ:W.findIn K (.ref zca) "__init__"=some (some (.ref zna))) (gv:K.lookup zna=some ⟨zwc,zkc,.func (W.fnOf "__init__" "AboveRule.__init__" (aK cj) (aF cj) (ai cj) .none zxc zyc zzc zlc zNa zAc),zsc⟩) (gL:W.codeIn K zNa "AboveRule.__init__"=true) (BE:W.keepIn K (.ref zna)=true) (gE:W.isFn K (.ref zna)=true) (qb:W.keepIn K (.ref zca)=true) (BZ:W.kitOne K (.ref zca) (.ref C_Rule)=some true) (AC:W.kitOne K (.ref zca) (.ref zca)=some true) (ue:W.nsIn K mainGlobals "TurnRule"=some (some (.ref zda))) (Bw:W.plainGet K zda Str.empty=true) (BL:W.hasDictIn K zda=true) (Cb:W.plainOver K zda=true) (Cy:W.findIn K (.ref zda) "__setattr__"=some (some (.builtin "object.__setattr__"))) (Cu:W.findIn K (.ref zda) "__class__"=some (some (.builtin "object.__class__"))) (Cs:W.mroIn K zda (.type "object")=some true) (By:W.findIn K (.ref zda) "name"=some none) (B4:W.findIn K (.ref zda) "cost"=some none) (Be:W.findIn K (.ref zda) "part_names"=some none) (AW:W.findIn K (.ref zda) "part"=some none) (CI:W.findIn K (.ref zda) "turning"=some none) (rM:W.makesIn K zda=true) (rJ:W.findIn K (.ref zda) "__init__"=some (some (.ref zsa))) (iB:K.lookup zsa=some ⟨zgd,zXc,.func (W.fnOf "__init__" "TurnRule.__init__" (aK cG) (aF cG) (ai cG) .none zhd zid zjd zYc zcb zkd),zad⟩) (im:W.codeIn K zcb "TurnRule.__init__"=true) (AS:W.keepIn K (.ref zsa)=true) (io:W.isFn K (.ref zsa)=true) (rc:W.keepIn K (.ref zda)=true) (Cn:W.kitOne K (.ref zda) (.ref C_Rule)=some true) (AF:W.kitOne K (.ref zda) (.ref zda)=some true) (pT:W.nsIn K mainGlobals "MOST_SIGNS"=some (some (.int 4 tkMOST_SIGNS))) (pp:W.nsIn K mainGlobals "MOST_RULES"=some (some (.int 24 tkMOST_RULES))) (qk:W.nsIn K mainGlobals "MOST_NAMES"=some (some (.int 8 tkMOST_NAMES))) (zf:W.nsIn K mainGlobals "MOST"=some (some (.int 6 tkMOST))) (B6:W.kitOne K (.ref zea) (.ref zaa)=some false) (A1:W.kitOne K (.ref zea) (.ref zca)=some false) (Bi:W.kitOne K (.ref zea) (.ref zda)=some false) (AO:W.kitOne K (.ref zaa) (.ref zea)=some false) (B9:W.kitOne K (.ref zaa) (.ref zca)=some false) (B2:W.kitOne K (.ref zaa) (.ref zda)=some false) (BW:W.kitOne K (.ref zca) (.ref zea)=some false) (BK:W.kitOne K (.ref zca) (.ref zaa)=some false) (Bo:W.kitOne K (.ref zca) (.ref zda)=some false) (AT:W.kitOne K (.ref zda) (.ref zea)=some false) (Bx:W.kitOne K (.ref zda) (.ref zaa)=some false) (Cz:W.kitOne K (.ref zda) (.ref zca)=some false) (jT:W.findIn K (.ref zea) "parts"=some (some (.ref zia))) (nZ:K.lookup zia=some ⟨zGe,zDe,.func (W.fnOf "parts" "Rule.parts" (aK ci) (aF ci) (ai ci) .none zHe zIe zJe zEe zzd zKe),zFe⟩) (nM:W.codeIn K zzd "Rule.parts"=true) (zH:W.keepIn K (.ref zia)=true) (dB:W.isFn K (.ref zia)=true) (gs:W.findIn K (.ref zea) "part_rows"=some (some (.ref zoa))) (gi:K.lookup zoa=some ⟨zBc,zmc,.func (W.fnOf "part_rows" "CellRule.part_rows" (aK cM) (aF cM) (ai cM) .none zCc zDc zEc znc zOa zFc),ztc⟩) (gl:W.codeIn K zOa "CellRule.part_rows"=true) (AH:W.keepIn K (.ref zoa)=true) (gD:W.isFn K (.ref zoa)=true) (iW:W.findIn K (.ref zaa) "parts"=some (some (.ref zia))) (fo:W.findIn K (.ref zaa) "part_rows"=some (some (.ref zja))) (fz:K.lookup zja=some ⟨zyb,zvb,.func (W.fnOf "part_rows" "BesideRule.part_rows" (aK bV) (aF bV) (ai bV) .none zzb zAb zBb zwb zEa zCb),zxb⟩) (fq:W.codeIn K zEa "BesideRule.part_rows"=true) (Ay:W.keepIn K (.ref zja)=true) (fJ:W.isFn K (.ref zja)=true) (ji:W.findIn K (.ref zca) "parts"=some (some (.ref zia))) (fP:W.findIn K (.ref zca) "part_rows"=some (some (.ref zla))) (fV:K.lookup zla=some ⟨zRb,zIb,.func (W.fnOf "part_rows" "AboveRule.part_rows" (aK ce) (aF ce) (ai ce) .none zSb zTb zUb zJb zJa zVb),zLb⟩) (fR:W.codeIn K zJa "AboveRule.part_rows"=true) (Az:W.keepIn K (.ref zla)=true) (fQ:W.isFn K (.ref zla)=true) (jC:W.findIn K (.ref zda) "parts"=some (some (.ref zia))) (gz:W.findIn K (.ref zda) "part_rows"=some (some (.ref zpa))) (fZ:K.lookup zpa=some ⟨zGc,zoc,.func (W.fnOf "part_rows" "TurnRule.part_rows" (aK cO) (aF cO) (ai cO) .none zHc zIc zJc zpc zPa zKc),zuc⟩) (gn:W.codeIn K zPa "TurnRule.part_rows"=true) (Ax:W.keepIn K (.ref zpa)=true) (gJ:W.isFn K (.ref zpa)=true) (vo:W.nsIn K mainGlobals "Grammar"=some (some (.ref zga))) (BJ:W.plainGet K zga Str.empty=true) (B3:W.hasDictIn K zga=true) (BN:W.plainOver K zga=true) (Bg:W.findIn K (.ref zga) "__setattr__"=some (some (.builtin "object.__setattr__"))) (BP:W.findIn K (.ref zga) "__class__"=some (some (.builtin "object.__class__"))) (A_:W.mroIn K zga (.type "object")=some true) (Ce:W.findIn K (.ref zga) "signs"=some none) (Cm:W.findIn K (.ref zga) "start"=some none) (Bs:W.findIn K (.ref zga) "kept"=some none) (BU:W.findIn K (.ref zga) "numbers"=some none) (tD:W.makesIn K zga=true) (uh:W.findIn K (.ref zga) "__init__"=some (some (.ref zva))) (iV:K.lookup zva=some ⟨zAd,zwd,.func (W.fnOf "__init__" "Grammar.__init__" (aK cK) (aF cK) (ai cK) .none zBd zCd zDd zxd zhb zEd),zyd⟩) (i4:W.codeIn K zhb "Grammar.__init__"=true) (Bt:W.keepIn K (.ref zva)=true) (i9:W.isFn K (.ref zva)=true) (ua:W.keepIn K (.ref zga)=true) (kF:W.findIn K (.ref zga) "rule"=some (some (.ref zAa))) (k9:K.lookup zAa=some ⟨zte,zqe,.func (W.fnOf "rule" "Grammar.rule" (aK cJ) (aF cJ) (ai cJ) .none zue zve zwe zre zWb zxe),zse⟩) (kD:W.codeIn K zWb "Grammar.rule"=true) (Aw:W.keepIn K (.ref zAa)=true) (lz:W.isFn K (.ref zAa)=true) (gH:W.findIn K (.ref zga) "numbers_of"=some (some (.ref zqa))) (gy:K.lookup zqa=some ⟨zLc,zqc,.func (W.fnOf "numbers_of" "Grammar.numbers_of" (aK ba) (aF ba) (ai ba) .none zMc zNc zOc zrc zQa zPc),zvc⟩) (f_:W.codeIn K zQa "Grammar.numbers_of"=true) (AG:W.keepIn K (.ref zqa)=true) (gG:W.isFn K (.ref zqa)=true) (uc:W.nsIn K mainGlobals "TreeRows"=some (some (.ref C_TreeRows))) (qY:W.plainGet K C_TreeRows Str.empty=true) (rN:W.hasDictIn K C_TreeRows=true) (qG:W.plainOver K C_TreeRows=true) (rD:W.findIn K (.ref C_TreeRows) "__setattr__"=some (some (.builtin "object.__setattr__"))) (sh:W.findIn K (.ref C_TreeRows) "__class__"=some (some (.builtin "object.__class__"))) (r_:W.mroIn K C_TreeRows (.type "object")=some true) (iZ:W.findIn K (.ref C_TreeRows) "grammar"=some none) (jE:W.findIn K (.ref C_TreeRows) "steps"=some none) (jo:W.findIn K (.ref C_TreeRows) "totals"=some none) (re:W.makesIn K C_TreeRows=true) (rj:W.findIn K (.ref C_TreeRows) "__init__"=some (some (.ref f_TreeRows___init__))) (h_:K.lookup f_TreeRows___init__=some ⟨ocTreeRows___init__,odTreeRows___init__,.func (W.fnOf "__init__" "TreeRows.__init__" (aK dE) (aF dE) (ai dE) .none kVTreeRows___init__ dcTreeRows___init__ pmTreeRows___init__ anTreeRows___init__ cdTreeRows___init__ ctTreeRows___init__),slTreeRows___init__⟩) (iw:W.codeIn K cdTreeRows___init__ "TreeRows.__init__"=true) (iD:W.keepIn K (.ref f_TreeRows___init__)=true) (iy:W.isFn K (.ref f_TreeRows___init__)=true) (rR:W.keepIn K (.ref C_TreeRows)=true) (i7:W.findIn K (.ref C_TreeRows) "many_in"=some (some (.ref f_TreeRows_many_in))) (iU:K.lookup f_TreeRows_many_in=some ⟨ocTreeRows_many_in,odTreeRows_many_in,.func (W.fnOf "many_in" "TreeRows.many_in" (aK bt) (aF bt) (ai bt) .none kVTreeRows_many_in dcTreeRows_many_in pmTreeRows_many_in anTreeRows_many_in cdTreeRows_many_in ctTreeRows_many_in),slTreeRows_many_in⟩) (jc:W.codeIn K cdTreeRows_many_in "TreeRows.many_in"=true) (dH:W.keepIn K (.ref f_TreeRows_many_in)=true) (iP:W.isFn K (.ref f_TreeRows_many_in)=true) (ie:W.findIn K (.ref C_TreeRows) "steps_of"=some (some (.ref f_TreeRows_steps_of))) (iC:K.lookup f_TreeRows_steps_of=some ⟨ocTreeRows_steps_of,odTreeRows_steps_of,.func (W.fnOf "steps_of" "TreeRows.steps_of" (aK bB) (aF bB) (ai bB) .none kVTreeRows_steps_of dcTreeRows_steps_of pmTreeRows_steps_of anTreeRows_steps_of cdTreeRows_steps_of ctTreeRows_steps_of),slTreeRows_steps_of⟩) (iu:W.codeIn K cdTreeRows_steps_of "TreeRows.steps_of"=true) (dr:W.keepIn K (.ref f_TreeRows_steps_of)=true) (ib:W.isFn K (.ref f_TreeRows_steps_of)=true) (ij:W.findIn K (.ref C_TreeRows) "reckoned"=some (some (.ref f_TreeRows_reckoned))) (ii:K.lookup f_TreeRows_reckoned=some ⟨ocTreeRows_reckoned,odTreeRows_reckoned,.func (W.fnOf "reckoned" "TreeRows.reckoned" (aK bz) (aF bz) (ai bz) .none kVTreeRows_reckoned dcTreeRows_reckoned pmTreeRows_reckoned anTreeRows_reckoned cdTreeRows_reckoned ctTreeRows_reckoned),slTreeRows_reckoned⟩) (il:W.codeIn K cdTreeRows_reckoned "TreeRows.reckoned"=true) (du:W.keepIn K (.ref f_TreeRows_reckoned)=true) (ig:W.isFn K (.ref f_TreeRows_reckoned)=true) (eD:W.findIn K (.ref C_TreeRows) "many_together"=some (some (.ref f_TreeRows_many_together))) (eC:K.lookup f_TreeRows_many_together=some ⟨ocTreeRows_many_together,odTreeRows_many_together,.func (W.fnOf "many_together" "TreeRows.many_together" (aK aR) (aF aR) (ai aR) .none kVTreeRows_many_together dcTreeRows_many_together pmTreeRows_many_together anTreeRows_many_together cdTreeRows_many_together ctTreeRows_many_together),slTreeRows_many_together⟩) (er:W.codeIn K cdTreeRows_many_together "TreeRows.many_together"=true) (cu:W.keepIn K (.ref f_TreeRows_many_together)=true) (eM:W.isFn K (.ref f_TreeRows_many_together)=true) (ux:W.nsIn K mainGlobals "NoNumber"=some (some (.ref C_NoNumber))) (AR:W.kitOne K (.ref C_NoName) (.ref C_NoName)=some true) (Br:W.kitOne K (.ref C_NoName) (.type "ValueError")=some true) (AZ:W.kitOne K (.ref C_NoName) (.ref C_NoNumber)=some false)
  (z0:W.nsIn K mainGlobals "len"=some none) (z1:W.nsIn K mainGlobals "range"=some none) (z2:W.nsIn K mainGlobals "list"=some none) (z3:W.nsIn K mainGlobals "tuple"=some none) (z4:W.nsIn K mainGlobals "isinstance"=some none) (z5:W.nsIn K mainGlobals "int"=some none) (z6:W.nsIn K mainGlobals "bool"=some none) (z7:W.nsIn K mainGlobals "str"=some none) (z8:W.nsIn K mainGlobals "reversed"=some none) (z9:W.nsIn K mainGlobals "all"=some none) (BV:W.nsIn K mainGlobals "enumerate"=some none) (BO:W.nsIn K mainGlobals "zip"=some none) (BA:W.nsIn K mainGlobals "sorted"=some none) (A3:W.nsIn K mainGlobals "set"=some none) (BX:W.nsIn K mainGlobals "dict"=some none) (B1:W.nsIn K mainGlobals "min"=some none) (Ck:W.nsIn K mainGlobals "max"=some none) (B_:W.nsIn K mainGlobals "sum"=some none) (BS:W.nsIn K mainGlobals "ValueError"=some none) :
  ∃fd:FuncData,(∀(s:Shared) (v:Value),BindsTo s fd ⟨[v],[]⟩ [("_law_script",v)])/\∀base:Heap,K.In base->base.Ns mainGlobals mg->aO l.prog w K mg base bY 75 fa fd ["_law_script"] (nr K):=by
 obtain⟨an,oc,od,osl,kV,doc,pm,ann,cdv,ct,hl,hc,hk⟩:=Cq;have e:=B5.symm.trans (W.mg_of X G an);cases e;have FL:=bx hl hc hk;have nb:NB mg:=⟨W.mg_none_of X G z0,W.mg_none_of X G z1,W.mg_none_of X G z2,W.mg_none_of X G z3,W.mg_none_of X G z4,W.mg_none_of X G z5,W.mg_none_of X G z6,W.mg_none_of X G z7,W.mg_none_of X G z8,W.mg_none_of X G z9,W.mg_none_of X G BV,W.mg_none_of X G BO,W.mg_none_of X G BA,W.mg_none_of X G A3,W.mg_none_of X G BX,W.mg_none_of X G B1,W.mg_none_of X G Ck,W.mg_none_of X G B_,W.mg_none_of X G BS⟩;refine⟨W.fnOf "law" "law" (aK mx) (aF mx) (ai mx) .none kV doc pm ann cdv ct,fun s v=>.of_eq rfl,fun base _ _=>?_⟩;have m_QuiltError:=W.mg_of X G qm;have xc_QuiltError:n6 K C_QuiltError [.type "ValueError",.type "Exception",.type "BaseException",.type "object"] "ValueError.__new__":=⟨jj⟩;have xr_QuiltError:XR K C_QuiltError:=⟨_,_,_,_,_,_,_,_,⟨jj⟩,PySem.F.excBase_ValueError,rfl,PySem.F.excBase_ValueError⟩;have xt_QuiltError:W.XTy K C_QuiltError:=⟨mi,mr,l5,mq,mf,wS,wR,_,_,_,n8⟩;have zza:=W.mg_of X G wW;have xc_NoRule:n6 K zfa [.type "ValueError",.type "Exception",.type "BaseException",.type "object"] "ValueError.__new__":=⟨qw⟩;have zwa:XR K zfa:=⟨_,_,_,_,_,_,_,_,⟨qw⟩,PySem.F.excBase_ValueError,rfl,PySem.F.excBase_ValueError⟩;have xt_NoRule:W.XTy K zfa:=⟨tL,uY,tS,uG,tE,wS,wR,_,_,_,wC⟩;have m_NoName:=W.mg_of X G w6;have xc_NoName:n6 K C_NoName [.type "ValueError",.type "Exception",.type "BaseException",.type "object"] "ValueError.__new__":=⟨pK⟩;have xr_NoName:XR K C_NoName:=⟨_,_,_,_,_,_,_,_,⟨pK⟩,PySem.F.excBase_ValueError,rfl,PySem.F.excBase_ValueError⟩;have xt_NoName:W.XTy K C_NoName:=⟨uL,uu,tM,uK,tG,wS,wR,_,_,_,pN⟩;have und_NoName_QuiltError:sA K C_NoName C_QuiltError:=⟨_,_,_,pN,iE⟩;have zua:=W.mg_of X G q9;have zRe:kc K zba [.type "ValueError",.type "Exception",.type "BaseException",.type "object"] "ValueError.__new__":=⟨pf⟩;have xt_NoGrammar:W.XTy K zba:=⟨o7,oV,oQ,nE,nw,wS,wR,_,_,_,gK⟩;have clNoGrammar:W.clsIn K zba=some zxa:=by unfold W.clsIn;rw[gK]
 have xh_NoGrammar:W.hasDictIn K zba=true:=by unfold W.hasDictIn;rw[clNoGrammar];exact jp
 have FINoGrammar:=bx (st:=g_) oG o0 oF;have xsINoGrammar:W.XSt K zba "why":=⟨nj,⟨zxa,clNoGrammar,nv,jp,oR,oh⟩,pe⟩;have bINoGrammar:=FINoGrammar.binds (ps:=["self","why"]) fun _ _ _ _ _ _ us hl=>match us,hl with | [_,_],_=>rfl
 have zma:XI l.prog w K mg base 1 zba "why":=⟨_,_,_,_,_,_,_,_,zDa,_,_,zRe,PySem.F.excBase_ValueError,rfl,PySem.F.excBase_ValueError,ph,nO,wk FINoGrammar xsINoGrammar,bINoGrammar⟩;have und_NoGrammar_NoGrammar:sA K zba zba:=⟨_,_,_,gK,Bq⟩;have m_CAPITALS:=W.mg_of X G ut;have m_SMALLS:=W.mg_of X G xL;have m_LONGEST_NAME:=W.mg_of X G l3;have m_Rule:=W.mg_of X G zi;have zqb:=bx (st:=cN) kb ke AD;have zoe:=zqb.binds (ps:=["self","name","cost","part_names"]) fun _ _ _ _ _ _ us hl=>match us,hl with | [_,_,_,_],_=>rfl
 have cf_Rule___init__:u6 K C_Rule "__init__" zya:=⟨yk,yf,kg,AD⟩;have zkb:=W.mg_of X G tP;have zfb:fK K zea:=⟨⟨Bc,A5,BQ,Cd⟩,AQ,wS,wR,Bm⟩;have zdb:=bx (st:=cI) ic iq B8;have znd:=zdb.binds (ps:=["self","name","cost","sign"]) fun _ _ _ _ _ _ us hl=>match us,hl with | [_,_,_,_],_=>rfl
 have zcf:Mk K zea zra:=⟨rO,rT,hU,qH⟩;have zSe:=W.mg_of X G py;have zHa:fK K zaa:=⟨⟨Bl,Bj,CC,B7⟩,Cc,wS,wR,Cl⟩;have zLa:=bx (st:=bW) fS fX Bz;have zcc:=zLa.binds (ps:=["self","name","cost","one","other"]) fun _ _ _ _ _ _ us hl=>match us,hl with | [_,_,_,_,_],_=>rfl
 have zCe:Mk K zaa zka:=⟨nk,ow,fU,oK⟩;have zdf:=W.mg_of X G sv;have zUa:fK K zca:=⟨⟨Ba,Ch,AX,BH⟩,AU,wS,wR,Ci⟩;have zVa:=bx (st:=cj) gv gL BE;have zRc:=zVa.binds (ps:=["self","name","cost","one","other"]) fun _ _ _ _ _ _ us hl=>match us,hl with | [_,_,_,_,_],_=>rfl
 have zTe:Mk K zca zna:=⟨pO,pQ,gE,qb⟩;have zsf:=W.mg_of X G ue;have zgb:fK K zda:=⟨⟨Bw,BL,Cb,Cy⟩,Cu,wS,wR,Cs⟩;have zeb:=bx (st:=cG) iB im AS;have zod:=zeb.binds (ps:=["self","name","cost","part","turning"]) fun _ _ _ _ _ _ us hl=>match us,hl with | [_,_,_,_,_],_=>rfl
 have zef:Mk K zda zsa:=⟨rM,rJ,io,rc⟩
 let R:RC:=⟨C_Rule,zea,zaa,zca,zda⟩
 have rk:oO K R:=⟨zfb,zHa,zUa,zgb,⟨BF,Cp,AY,Bd⟩,⟨A0,Bk,Bv,Cw,CB⟩,⟨BB,Co,BT,Bp,CA⟩,⟨By,B4,Be,AW,CI⟩,BM,BY,BZ,Cn,AM,AL,AC,AF⟩;have m_MOST_SIGNS:=W.mg_of X G pT;have m_MOST_RULES:=W.mg_of X G pp;have m_MOST_NAMES:=W.mg_of X G qk;have m_MOST:=W.mg_of X G zf;have rk4:yb K R:=⟨fun i j hi hj=>by rcases jr hi with rfl | rfl | rfl | rfl<;>rcases jr hj with rfl | rfl | rfl | rfl;exact AM;exact B6;exact A1;exact Bi;exact AO;exact AL;exact B9;exact B2;exact BW;exact BK;exact AC;exact Bo;exact AT;exact Bx;exact Cz;exact AF⟩;have zCa:=bx (st:=ci) nZ nM zH;have zWa:=zCa.binds (ps:=["self"]) fun _ _ _ _ _ _ us hl=>match us,hl with | [_],_=>rfl
 have zOd:dW K zea "parts" zia:=⟨jT,dB,zH⟩;have zXa:=bx (st:=cM) gi gl AH;have zSc:=zXa.binds (ps:=["self","rows","columns","cost"]) fun _ _ _ _ _ _ us hl=>match us,hl with | [_,_,_,_],_=>rfl
 have zdc:dW K zea "part_rows" zoa:=⟨gs,gD,AH⟩;have zpd:dW K zaa "parts" zia:=⟨iW,dB,zH⟩;have zGa:=bx (st:=bV) fz fq Ay;have zEb:=zGa.binds (ps:=["self","rows","columns","cost"]) fun _ _ _ _ _ _ us hl=>match us,hl with | [_,_,_,_],_=>rfl
 have znb:dW K zaa "part_rows" zja:=⟨fo,fJ,Ay⟩;have zId:dW K zca "parts" zia:=⟨ji,dB,zH⟩;have zMa:=bx (st:=ce) fV fR Az;have zec:=zMa.binds (ps:=["self","rows","columns","cost"]) fun _ _ _ _ _ _ us hl=>match us,hl with | [_,_,_,_],_=>rfl
 have zFb:dW K zca "part_rows" zla:=⟨fP,fQ,Az⟩;have zPd:dW K zda "parts" zia:=⟨jC,dB,zH⟩;have zYa:=bx (st:=cO) fZ gn Ax;have zTc:=zYa.binds (ps:=["self","rows","columns","cost"]) fun _ _ _ _ _ _ us hl=>match us,hl with | [_,_,_,_],_=>rfl
 have zfc:dW K zda "part_rows" zpa:=⟨gz,gJ,Ax⟩;have zCf:=W.mg_of X G vo;have zZa:fK K zga:=⟨⟨BJ,B3,BN,Bg⟩,BP,wS,wR,A_⟩;have zib:=bx (st:=cK) iV i4 Bt;have zJd:=zib.binds (ps:=["self","signs","start","rules"]) fun _ _ _ _ _ _ us hl=>match us,hl with | [_,_,_,_],_=>rfl
 have ztf:Mk K zga zva:=⟨tD,uh,i9,ua⟩;have gk:AN K zga:=⟨zZa,Ce,Cm,Bs,BU⟩;have zgc:=bx (st:=cJ) k9 kD Aw;have zze:=zgc.binds (ps:=["self","k"]) fun _ _ _ _ _ _ us hl=>match us,hl with | [_,_],_=>rfl
 have zpe:dW K zga "rule" zAa:=⟨kF,lz,Aw⟩;have zab:=bx (st:=ba) gy f_ AG;have zUc:=zab.binds (ps:=["self","name"]) fun _ _ _ _ _ _ us hl=>match us,hl with | [_,_],_=>rfl
 have zhc:dW K zga "numbers_of" zqa:=⟨gH,gG,AG⟩;have m_TreeRows:=W.mg_of X G uc;have ic_TreeRows:fK K C_TreeRows:=⟨⟨qY,rN,qG,rD⟩,sh,wS,wR,r_⟩;have F_TreeRows___init__:=bx (st:=dE) h_ iw iD;have b_TreeRows___init__:=F_TreeRows___init__.binds (ps:=["self","grammar"]) fun _ _ _ _ _ _ us hl=>match us,hl with | [_,_],_=>rfl
 have mk_TreeRows:Mk K C_TreeRows f_TreeRows___init__:=⟨re,rj,iy,rR⟩;have nt:al K C_TreeRows "grammar"/\al K C_TreeRows "steps"/\al K C_TreeRows "totals":=⟨iZ,jE,jo⟩;have F_TreeRows_many_in:=bx (st:=bt) iU jc dH;have b_TreeRows_many_in:=F_TreeRows_many_in.binds (ps:=["self","row"]) fun _ _ _ _ _ _ us hl=>match us,hl with | [_,_],_=>rfl
 have me_TreeRows_many_in:dW K C_TreeRows "many_in" f_TreeRows_many_in:=⟨i7,iP,dH⟩;have F_TreeRows_steps_of:=bx (st:=bB) iC iu dr;have b_TreeRows_steps_of:=F_TreeRows_steps_of.binds (ps:=["self","row"]) fun _ _ _ _ _ _ us hl=>match us,hl with | [_,_],_=>rfl
 have me_TreeRows_steps_of:dW K C_TreeRows "steps_of" f_TreeRows_steps_of:=⟨ie,ib,dr⟩;have F_TreeRows_reckoned:=bx (st:=bz) ii il du;have b_TreeRows_reckoned:=F_TreeRows_reckoned.binds (ps:=["self","row"]) fun _ _ _ _ _ _ us hl=>match us,hl with | [_,_],_=>rfl
 have me_TreeRows_reckoned:dW K C_TreeRows "reckoned" f_TreeRows_reckoned:=⟨ij,ig,du⟩;have F_TreeRows_many_together:=bx (st:=aR) eC er cu;have b_TreeRows_many_together:=F_TreeRows_many_together.binds (ps:=["self","rows"]) fun _ _ _ _ _ _ us hl=>match us,hl with | [_,_],_=>rfl
 have me_TreeRows_many_together:dW K C_TreeRows "many_together" f_TreeRows_many_together:=⟨eD,eM,cu⟩;have m_NoNumber:=W.mg_of X G ux;have xo_QuiltError:kc K C_QuiltError [.type "ValueError",.type "Exception",.type "BaseException",.type "object"] "ValueError.__new__":=xc_QuiltError.out;have xo_NoName:kc K C_NoName [.type "ValueError",.type "Exception",.type "BaseException",.type "object"] "ValueError.__new__":=xc_NoName.out;have c_only_of:=a1.cal (P:=l.prog) (w:=w) (base:=base) X G (fun _ F m k b=>qV F nb) (by walk_at "b2");have c_is_name:=a2.cal (P:=l.prog) (w:=w) (base:=base) X G (fun _ F m k b=>rL F nb m_LONGEST_NAME m_CAPITALS c_only_of) (by walk_at "b1");have zha:tR l.prog w K mg base (bZ l.prog w) 3 "Rule" "__init__" ["self","name","cost","part_names"] (b_ K zfa):=⟨_,_,_,nB zqb nb zza zwa c_is_name,m_Rule,cf_Rule___init__,zoe⟩;have zrb:jO l.prog w K mg base (bZ l.prog w) 4 "CellRule" zea ["self","name","cost","sign"] (fA K zfa):=⟨_,_,oM zdb nb m_SMALLS zza zwa c_only_of zha,zkb,zcf,znd⟩;have zjb:jO l.prog w K mg base (bZ l.prog w) 4 "BesideRule" zaa ["self","name","cost","one","other"] (ck K zfa):=⟨_,_,ld zLa nb zha,zSe,zCe,zcc⟩;have zlb:jO l.prog w K mg base (bZ l.prog w) 4 "AboveRule" zca ["self","name","cost","one","other"] (ck K zfa):=⟨_,_,mv zVa nb zha,zdf,zTe,zRc⟩;have zsb:jO l.prog w K mg base (bZ l.prog w) 4 "TurnRule" zda ["self","name","cost","part","turning"] (fE K zfa):=⟨_,_,ny zeb nb zza zwa zha,zsf,zef,zod⟩;have cp_parts:qi l.prog w K mg base bY 1 "parts" (kX K R):=yd ⟨_,_,_,da zCa nb,zfb.cl,zOd,zWa⟩ ⟨_,_,_,da zCa nb,zHa.cl,zpd,zWa⟩ ⟨_,_,_,da zCa nb,zUa.cl,zId,zWa⟩ ⟨_,_,_,da zCa nb,zgb.cl,zPd,zWa⟩;have c_are_signs:=a3.cal (P:=l.prog) (w:=w) (base:=base) X G (fun _ F m k b=>n_ F nb m_MOST_SIGNS m_SMALLS c_only_of) (by walk_at "b1");have c_check_made_of:=a4.cal (P:=l.prog) (w:=w) (base:=base) X G (fun _ F m k b=>jH F nb rk rk4 m_MOST_RULES zkb zua zma c_are_signs c_is_name) (by walk_at "b3");have c_numbers_by_name:=a5.cal (P:=l.prog) (w:=w) (base:=base) X G (fun _ F m k b=>iT F nb rk cp_parts) (by walk_at "b2");have zic:jO l.prog w K mg base (bZ l.prog w) 4 "Grammar" zga ["self","signs","start","rules"] (fD K R zba):=⟨_,_,pi zib nb m_MOST_NAMES zua zma c_check_made_of c_numbers_by_name,zCf,ztf,zJd⟩;have cm_rule:d_ l.prog w K mg base bY 1 zga "rule" ["self","k"] (dy R zga):=⟨_,_,oS zgc nb zZa.cl gk.na,zZa.cl,zpe,zze⟩;have cm_numbers_of:d_ l.prog w K mg base (bZ l.prog w) 1 zga "numbers_of" ["self","name"] (bM R zga C_NoName):=⟨_,_,iM zab nb zZa.cl gk.na m_NoName xr_NoName,zZa.cl,zhc,zUc⟩;have c_fewest:=a6.cal (P:=l.prog) (w:=w) (base:=base) X G (fun _ F m k b=>uk F) (by walk_at "b1");have c_paired_rows:=a7.cal (P:=l.prog) (w:=w) (base:=base) X G (fun _ F m k b=>lg F nb c_fewest) (by walk_at "b3");have cp_part_rows:qi l.prog w K mg base bY 3 "part_rows" (jh R):=yd ⟨_,_,_,(nP zXa nb zfb.cl rk.a0.2.1).mono (by decide),zfb.cl,zdc,zSc⟩ ⟨_,_,_,lP zGa nb zHa.cl ⟨rk.a1.2.1,rk.a1.2.2.2.1,rk.a1.2.2.2.2⟩ c_paired_rows,zHa.cl,znb,zEb⟩ ⟨_,_,_,lX zMa nb zUa.cl ⟨rk.a2.2.1,rk.a2.2.2.2.1,rk.a2.2.2.2.2⟩ c_paired_rows,zUa.cl,zFb,zec⟩ ⟨_,_,_,(nQ zYa nb zgb.cl ⟨rk.a3.2.1,rk.a3.2.2.2.1,rk.a3.2.2.2.2⟩).mono (by decide),zgb.cl,zfc,zTc⟩;have ck_TreeRows:jO l.prog w K mg base bY 1 "TreeRows" C_TreeRows ["self","grammar"] (jb K):=⟨_,_,rg F_TreeRows___init__ nb,m_TreeRows,mk_TreeRows,b_TreeRows___init__⟩;have cm_many_in:=j6 (P:=l.prog) (w:=w) (base:=base) (R:=R) F_TreeRows_many_in F_TreeRows_steps_of F_TreeRows_reckoned F_TreeRows_many_together nb nb.sum m_MOST ic_TreeRows nt me_TreeRows_many_in me_TreeRows_steps_of me_TreeRows_reckoned me_TreeRows_many_together b_TreeRows_many_in b_TreeRows_steps_of b_TreeRows_reckoned b_TreeRows_many_together c_fewest cm_numbers_of cm_rule cp_part_rows 17;have c_count_trees:=a8.cal (P:=l.prog) (w:=w) (base:=base) X G (fun _ F m k b=>kK F nb ic_TreeRows nt ck_TreeRows cm_many_in) (by walk_at "b5");have zta:=a9.cal (P:=l.prog) (w:=w) (base:=base) X G (fun _ F m k b=>uE F nb) (by walk_at "b2");have zrd:=A7.cal (P:=l.prog) (w:=w) (base:=base) X G (fun _ F m k b=>qI F nb zta) (by walk_at "b3");have zsd:=B0.cal (P:=l.prog) (w:=w) (base:=base) X G (fun _ F m k b=>qM F nb) (by walk_at "b1");have ztd:=Cf.cal (P:=l.prog) (w:=w) (base:=base) X G (fun _ F m k b=>qS F nb) (by walk_at "b2");have zud:=CH.cal (P:=l.prog) (w:=w) (base:=base) X G (fun _ F m k b=>qK F nb) (by walk_at "b1");have zRd:=BC.cal (P:=l.prog) (w:=w) (base:=base) X G (fun _ F m k b=>uD F nb rk zrb zjb zlb zsb) (by walk_at "b1");have ztb:=BI.cal (P:=l.prog) (w:=w) (base:=base) X G (fun _ F m k b=>oY F nb gk zRd zic) (by walk_at "b3");have zvd:=AV.cal (P:=l.prog) (w:=w) (base:=base) X G (fun _ F m k b=>qX F nb) (by walk_at "b4");have zqd:=Bf.cal (P:=l.prog) (w:=w) (base:=base) X G (fun _ F m k b=>qN F nb) (by walk_at "b4");have zSd:=BD.cal (P:=l.prog) (w:=w) (base:=base) X G (fun _ F m k b=>tI F nb zqd) (by walk_at "b4");have zjc:=CD.cal (P:=l.prog) (w:=w) (base:=base) X G (fun _ F m k b=>pS F nb zSd) (by walk_at "b1");have zub:=B'.cal (P:=l.prog) (w:=w) (base:=base) X G (fun _ F m k b=>nR F nb m_NoName m_QuiltError m_NoNumber xo_QuiltError rfl xo_NoName und_NoName_QuiltError xt_NoName AR Br AZ c_count_trees) (by walk_at "b2");exact yg FL nb zta zrd zsd ztd zud zvd ztb zjc c_count_trees zub
theorem walk{l:W.OpenLaw}{q:Program}{loose:List Str}{XP:(Str->Option Value)->Heap->Prop}{YP:World->Heap->Prop}{d:DefRec}{K:Params->W.Frag}(hn:l.most=some 63)(hdf:d.params.defaults=[])
  (hY:∀(w:World) (h:Heap),YP w h->(K w.params).In h)
  (F:∀(w:World) (mg:Str->Option Value) (fa:Addr) (h:Heap),(K w.params).In h->h.Ns mainGlobals mg->mg d.name=some (.ref fa) ->
   ∃fd:FuncData,(∀(s:Shared) (u:Value),BindsTo s fd ⟨[u],[]⟩ [("_law_script",u)])/\∀base:Heap,(K w.params).In base->base.Ns mainGlobals mg->aO l.prog w (K w.params) mg base bY 75 fa fd ["_law_script"] (nr (K w.params))) :
  W.WalkO q loose XP YP l.row.toRowW d [] (fun f vs=>PySem.call f vs):=
 L2.walk_of (n:=63) (k:=75) (x:="_law_script") (CX:=fun _=>bY) (sp:=fun w=>nr (K w.params)) hn (by decide) hdf ⟨rfl,by decide,by decide⟩ hY F (fun _ _ a ns hl _ hS=>⟨a,ns,rfl,hS,fun _=>rfl⟩) fun _ _ _ _ _ z=>z
end Q32
open PySem PySem.W PyProof.Rows
local macro_rules | `(tactic| walk_at "kk")=>`(tactic| first | (refine' Q32.fk_mk ?p ?q ?r ?s;(case p=>k_is);(case q=>k_is);(case r=>k_is);(case s=>k_is)) | k_is | kernel_rfl | rfl | decide +kernel)
set_option maxRecDepth 100000 in
set_option maxHeartbeats 0 in
theorem PySem.Challenge.cw_quiltlaw_k32_trees_counted_holds : PySem.Challenge.rw_quiltlaw_k32_trees_counted.Holds := by
 w_on;o_law;k_head;(case hw=>w_witness2)
 k_fill
 refine Q32.walk (l:=PySem.Challenge.rw_quiltlaw_k32_trees_counted) rfl rfl (fun w h Y=>PySem.W.kIn_of Y) ?F
 case F=>
  intro w mg fa h KX G hmg
  refine' Q32.all_mk KX G hmg ?_ ?_ ?_ ?_ ?_ ?_ ?_ ?_ ?_ ?_ ?_ ?_ ?_ ?_ ?_ ?_ ?_ ?_ ?_ ?_ ?_ ?_ ?_ ?_ ?_ ?_ ?_ ?_ ?_ ?_ ?_ ?_ ?_ ?_ ?_ ?_ ?_ ?_ ?_ ?_ ?_ ?_ ?_ ?_ ?_ ?_ ?_ ?_ ?_ ?_ ?_ ?_ ?_ ?_ ?_ ?_ ?_ ?_ ?_ ?_ ?_ ?_ ?_ ?_ ?_ ?_ ?_ ?_ ?_ ?_ ?_ ?_ ?_ ?_ ?_ ?_ ?_ ?_ ?_ ?_ ?_ ?_ ?_ ?_ ?_ ?_ ?_ ?_ ?_ ?_ ?_ ?_ ?_ ?_ ?_ ?_ ?_ ?_ ?_ ?_ ?_ ?_ ?_ ?_ ?_ ?_ ?_ ?_ ?_ ?_ ?_ ?_ ?_ ?_ ?_ ?_ ?_ ?_ ?_ ?_ ?_ ?_ ?_ ?_ ?_ ?_ ?_ ?_ ?_ ?_ ?_ ?_ ?_ ?_ ?_ ?_ ?_ ?_ ?_ ?_ ?_ ?_ ?_ ?_ ?_ ?_ ?_ ?_ ?_ ?_ ?_ ?_ ?_ ?_ ?_ ?_ ?_ ?_ ?_ ?_ ?_ ?_ ?_ ?_ ?_ ?_ ?_ ?_ ?_ ?_ ?_ ?_ ?_ ?_ ?_ ?_ ?_ ?_ ?_ ?_ ?_ ?_ ?_ ?_ ?_ ?_ ?_ ?_ ?_ ?_ ?_ ?_ ?_ ?_ ?_ ?_ ?_ ?_ ?_ ?_ ?_ ?_ ?_ ?_ ?_ ?_ ?_ ?_ ?_ ?_ ?_ ?_ ?_ ?_ ?_ ?_ ?_ ?_ ?_ ?_ ?_ ?_ ?_ ?_ ?_ ?_ ?_ ?_ ?_ ?_ ?_ ?_ ?_ ?_ ?_ ?_ ?_ ?_ ?_ ?_ ?_ ?_ ?_ ?_ ?_ ?_ ?_ ?_ ?_ ?_ ?_ ?_ ?_ ?_ ?_ ?_ ?_ ?_ ?_ ?_ ?_ ?_ ?_ ?_ ?_ ?_ ?_ ?_ ?_ ?_ ?_ ?_ ?_ ?_ ?_ ?_ ?_ ?_ ?_ ?_ ?_ ?_ ?_ ?_ ?_ ?_ ?_ ?_ ?_ ?_ ?_ ?_ ?_ ?_
  all_goals (try walk_at "kk")
